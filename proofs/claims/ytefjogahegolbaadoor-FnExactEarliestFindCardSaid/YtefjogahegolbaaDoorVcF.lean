/- What a starter of goroutines does besides: channels made, closures, go statements, receives; what is named is forgotten. No program is named. -/
import Derived.Test.YtefjogahegolbaaDoorVcE
set_option linter.unusedVariables false
set_option linter.unusedSimpArgs false
open _root_.Array renaming getElem?_eq_some_iff->jA
namespace Go.Proofs.YtefjogahegolbaaDoor.Vc
open Go.RowKit Go.Conc Go.Proofs.YtefjogahegolbaaDoor.Ve
variable {mn:Md}
section
variable {P:Program} {IC:FuncId->ICon->Prop} {Γ:Cons} {W0:World} {n0:Nat} {D:List Nat} {ρ0:Nat->Ad}
theorem Yd5{T e:TypeId}{dir:ChanDir}(hu:P.underlying T=some (.chan dir e))(hi:(P.info? e).isSome=true){k:IntKind}(v:World):(Instr.makeChan T (.int k 0)).run P v=.ok (.chan (some v.heap.size)) (v.alloc (.chan 0 #[] false 0 0 false)):=by
 obtain⟨i,hi⟩:=Option.isSome_iff_exists.1 hi;have h1:(underlying T).run P v=.ok (.chan dir e) v:=by simp[underlying,Sem.run,hu]
 have h2:(typeInfo e).run P v=.ok i v:=by simp[typeInfo,Sem.run,hi]
 have h3:(asInt (.int k 0)).run P v=.ok 0 v:=rfl;unfold Instr.makeChan;simp only[Sem.run_bind,h1,h2,h3,Result.andThen_ok];have h4:¬((0:Int)<0\/(0:Int) > IntKind.i64.max\/(i.bytes:Int)*0 > 2^48 - 112):=by have e2:IntKind.i64.max=9223372036854775807:=rfl;omega
 simp[h4,newObj,Sem.run]
theorem Ye3{o:Oper}{a:Act}{v:World}{K:Act->World->Prop}{T e:TypeId}{dir:ChanDir}{x:Operand}{k:IntKind}(ho:o.op=.makeChan T x)(hx:a.eval x=.int k 0)(hu:P.underlying T=some (.chan dir e))(hi:(P.info? e).isSome=true)
  (h:∀v₁,Ge v v₁->K (a.put o.dst (.chan (some v₁.heap.size))) (v₁.alloc (.chan 0 #[] false 0 0 false))):OpX mn P o a v K:=
 ⟨fun c hc=>(by rw [ho] at hc;cases hc),fun v₁ h₁=>.inl ⟨_,_,(show Simple P (execOp a.eval o) by unfold execOp;rw [ho];exact .bind (Zyq _ _) fun _=>.pure _).tr (by
  unfold execOp;rw[ho];dsimp only;rw[hx,Sem.run_bind,Yd5 hu hi];rfl),h v₁ h₁⟩⟩
theorem Zvy{o:Oper}{a:Act}{v:World}{K:Act->World->Prop}{fn:Fn}{xs ys:Array Operand}{A B:Array Value}(ho:o.op=.makeFunc fn xs ys)(hx:xs.map a.eval=A)(hy:ys.map a.eval=B)
  (h:∀v₁,Ge v v₁->K (a.put o.dst (.func fn A B)) v₁):OpX mn P o a v K:=
 Yj4 (λc hc=>by rw[ho]at hc;cases hc) (by unfold execOp;rw[ho];exact .bind (.pure _) λ_=>.pure _) (λv₁ _=>by unfold execOp;rw[ho];dsimp only;rw[hx,hy];rfl) h
theorem run_go{o:Oper}{a:Act}{c:Call}{y:Operand}{f:Fn}{b d:Array Value}(ho:o.op=.go c)(hc:c.callee=.value y)(hy:a.eval y=.func f b d)(w:World):(execOp a.eval o).runT P w #[]=(.ok (.spawn { target:=.fn f d,args:=b++c.args.map a.eval }) w,#[]):=by unfold execOp;rw[ho];simp only[resolve,hc,hy,Deferred.ofValue];rfl
theorem Yit {f : FuncId} {fn : Func} (hf : P.funcs[f]? = some fn) (hn : (fn.name == "runtime.NumGoroutine") = false) (hb : fn.body.isNone = false) (A B : Array Value) (w : World) : (invoke (.fn (.func f) B) A).runT P w #[] = (.ok (.enter f (A ++ B)) w, #[]) := by
 show (callFunc f (A++B)).runT P w #[]=_
 unfold callFunc
 show (match P.funcs[f]? with|none=>_|some fn=>_:Sem Next).runT P w #[]=_
 rw[hf];dsimp only;rw[hn,hb];rfl
theorem Went.keep{ρ ρ':Nat->Ad}{s:List SV}{h:List VB}{a:Act}{v v':World}{dd:List Nat}(hw:Went ρ ρ' h dd v v')(hR:RR P W0 ρ s h a v){k:Nat}{o:Obj}(hk:v.heap[k]?=some o)(hne:∀n C t,n∈dd->h[n]?=some (.row C t)->o ≠ .cells C t (0,0)):v'.heap[k]?=some o:=by refine(hw.1.block k (jA.1 hk).1 ?_).trans hk;rintro⟨n,C,t,hn,hb,rfl⟩;have:=(hR.heap.is n _ hb).1;rw[hk]at this;exact hne n C t hn hb (Q5 this)
theorem RR.ge{ρ:Nat->Ad}{s:List SV}{h:List VB}{a:Act}{v v':World}(hR:RR P W0 ρ s h a v)(hg:Ge v v'):RR P W0 ρ s h a v':=⟨hR.len,hR.slots,HIs.ge hR.heap hg,hR.rows,hR.fresh,hR.kept.trans (.of_below hg),hR.defers⟩
theorem RR.put{ρ:Nat->Ad}{s:List SV}{h:List VB}{a:Act}{v:World}(hR:RR P W0 ρ s h a v)(d:Tmp){y:SV}{vv:Value}(hv:IsV P ρ h y vv):RR P W0 ρ (s.set d y) h (a.put (some d) vv) v:=by have h2:=hR.r.put (some d) hv;exact⟨h2.len,h2.slots,hR.heap,hR.rows,hR.fresh,hR.kept,by rw[Zc9];exact hR.defers⟩
theorem RR.val{ρ:Nat->Ad}{s:List SV}{h:List VB}{a:Act}{v:World}(hR:RR P W0 ρ s h a v){i:Nat}{y:SA}(hi:s[i]?=some (.a y)):Is P ρ h y (a.eval (.tmp i)):=hR.slots i _ hi
theorem RR.lose{ρ:Nat->Ad}{s:List SV}{h:List VB}{a:Act}{v v':World}(hR:RR P W0 ρ s h a v){E:Nat->Prop}(hk:Kept E v v')(hE:∀k,E k->W0.heap.size<=k)(kS kH:List Nat)(nH:Nat)(hkH:kH.all (Nat.blt · nH)=true)(hr:(Ub7 kS s 0).all (refV kH)=true)
  (hne:∀n C t,n∈kH->h[n]?=some (.row C t)->¬E (ρ n).a):RR P W0 ρ (Ub7 kS s 0) (Ucb kH nH h 0) a v':=by
 have hget:∀(n:Nat) (b:VB),n∈kH->h[n]?=some b->(Ucb kH nH h 0)[n]?=some b:=λn b hn hb=>by
  have hnH:n<nH:=by have:=List.all_eq_true.1 hkH n hn;simp[Nat.blt]at this;omega
  rw[Zo1 kH nH h 0 n hnH,Nat.zero_add,Zfp.2 hn,Q1,List.getD_eq_getElem?_getD,hb];rfl
 have hsub:∀(n:Nat) (b:VB),(Ucb kH nH h 0)[n]?=some b->b=.no\/(n∈kH/\h[n]?=some b):=λn b e=>by
  have hlt:=(List.getElem?_eq_some_iff.1 e).1;rw[Zzf]at hlt;rw[Zo1 kH nH h 0 n hlt,Nat.zero_add]at e;cases hb:Uai n kH with|false=>rw[hb]at e;simp at e;exact .inl e.symm|true=>rw[hb,Q1,List.getD_eq_getElem?_getD]at e;cases hs:h[n]? with|none=>rw[hs]at e;simp at e;exact .inl e.symm|some x=>rw[hs]at e;simp at e;subst e;exact .inr ⟨Zfp.1 hb,rfl⟩
 have hrows:(Ucb kH nH h 0).all Ue1=true:=List.all_eq_true.2 λb hb=>by
  obtain⟨n,hn⟩:=List.mem_iff_getElem?.1 hb;rcases hsub n b hn with rfl | ⟨_,e⟩
  ·rfl
  ·exact List.all_eq_true.1 hR.rows b (List.mem_of_getElem? e)
 have hrow:∀(n:Nat) (C:Array Value) (t:TypeId),(Ucb kH nH h 0)[n]?=some (VB.row C t)->n∈kH/\h[n]?=some (VB.row C t):=λn C t e=>(hsub n _ e).elim (λx=>by cases x) id
 refine⟨by rw[Zmc];exact hR.len,λi x hx=> ?_,⟨λn b hb=> ?_,λn k hp hq=> ?_,λn b k hb hf=> ?_⟩,hrows,λn C t e=>hR.fresh n C t (hrow n C t e).2,?_,hR.defers⟩
 ·have hr':refV kH x=true:=List.all_eq_true.1 hr x (List.mem_of_getElem? hx);rw[Zl1,Nat.zero_add]at hx;cases hs:s[i]? with
  |none=>rw[hs]at hx;cases hx
  |some y=>rw[hs,Option.map_some,Q8]at hx;cases hb:Uai i kS with|false=>rw[hb]at hx;subst hx;trivial|true=>rw[hb]at hx;subst hx;exact Ykv hget hr' (hR.slots i _ hs)
 ·rcases Zjk hrows hb with rfl | ⟨C,t,rfl⟩
  ·trivial
  ·obtain⟨hn,e⟩:=hrow n C t hb;obtain⟨h1,h2⟩:=hR.heap.is n _ e;exact⟨(hk.block _ (jA.1 h1).1 (hne n C t hn e)).trans h1,h2⟩
 ·obtain⟨C,t,e⟩:=Zh5 hrows hp;obtain⟨C',t',e'⟩:=Zh5 hrows hq;exact hR.heap.inj n k (.row (hrow n C t e).2) (.row (hrow k C' t' e').2)
 ·rcases Zjk hrows hb with rfl | ⟨C,t,rfl⟩<;>cases hf
 ·exact⟨hk.os.trans hR.kept.os,hk.tape.trans hR.kept.tape,hk.output.trans hR.kept.output,Nat.le_trans hR.kept.size hk.size,λk hlt _=>(hk.block k (Nat.lt_of_lt_of_le hlt hR.kept.size) λhe=>by have:=hE k he;omega).trans (hR.kept.block k hlt not_false)⟩
theorem RR.result{ρ:Nat->Ad}{s:List SV}{h:List VB}{a:Act}{v:World}(hR:RR P W0 ρ s h a v){fn:Func}{y:SA}(hr:Uck P ⟨s,h,[]⟩ fn.results.toList=some [y]):∀v₁,Ge v v₁->∃r,(results fn a.tmps).run P v₁=.ok r v₁/\Is P ρ h y r:=λv₁ hg=>by
 obtain⟨vs,h1,h2,h3⟩:=Zeu (st:=⟨s,h,[]⟩) hR.slots (hR.ge hg).heap hr
 match vs,h2 with|[r],_=>exact⟨r,h1,h3 0 y r rfl rfl⟩
theorem Yid(hΓ:ConsOkX mn P IC Γ){ops:Array Oper}{α:Type}{K:St->Option α}{r:α}{ρ:Nat->Ad}{st:St}{a:Act}{w:World}(hR:R P W0 n0 D ρ0 ρ st a w)(hr:Uc3 P Γ ops true st K=some r){K':Act->World->Prop}
  (hQ:∀ρ' st' a' w',K st'=some r->R P W0 n0 D ρ0 ρ' st' a' w'->K' a' w'):AnyX mn P ops K' ops.size (Array.replicate ops.size false) a w:=by
 unfold Uc3 at hr;simp only[Q1]at hr;cases hE:Ub2 ops.toList 0 with
 |false=>rw[hE]at hr;cases hr
 | true=>
  rw[hE]at hr;simp only[Q1]at hr;obtain⟨tr,hlen,hX,hT,hk⟩:=Zsj ops.toList 0 [] rfl (Nat.zero_le _) rfl (λi o x _ hx=>by simp at hx) hr;have hR1:=(hR.room ops.size).1;have hno:∀i,i<ops.size->(st.h++List.replicate ops.size VB.no)[st.h.length+i]?=some .no:=λi hi=>by
   rw[List.getElem?_append_right (by omega),List.getElem?_replicate,if_pos (by omega)]
  have hl0:∀k,lst (Array.replicate ops.size false) k=false:=λk=>by
   unfold lst;rw[Array.getD_eq_getD_getElem?,Array.getElem?_replicate];split<;>rfl
  have hst:Uag st.h.length (lst (Array.replicate ops.size false)) tr 0 { st with h:=st.h++List.replicate ops.size .no }={ st with h:=st.h++List.replicate ops.size .no }:=
   Zmo _ tr 0 _ λk _=>hl0 k
  exact Zxz (Q:=λ_=>K') hΓ hR.bound (st0:={ st with h:=st.h++List.replicate ops.size .no }) hno hE hlen hX hT (ρs:=ρ) (λρ' a' w' hR' hhl hren=>hQ ρ' _ a' w' hk hR') ops.size _ ρ a _ (by simp) (by simp[unl]) (λi k h=>by rw[hl0]at h;cases h) (by rw[hst];exact hR1) (by rw[hst];exact HLe.refl _) (λ_ _=>rfl)
def Ud2(l:List (Nat×Array Value×TypeId)):List VB:=l.map λx=>.sl (.came (some (some ⟨x.1,0,none⟩))) 1 x.2.1 x.2.2
theorem Zp1{l:List (Nat×Array Value×TypeId)}{n:Nat}{b:VB}(h:(Ud2 l)[n]?=some b):∃x,l[n]?=some x/\b=.sl (.came (some (some ⟨x.1,0,none⟩))) 1 x.2.1 x.2.2:=by unfold Ud2 at h;rw[List.getElem?_map]at h;obtain⟨x,h1,h2⟩:=Option.map_eq_some_iff.1 h;exact⟨x,h1,h2.symm⟩
theorem Zrz{l:List (Nat×Array Value×TypeId)}{n:Nat}:¬present (Ud2 l) n:=λh=>by
 cases h with
 |row e=>obtain⟨x,_,e'⟩:=Zp1 e;cases e'
 |one e=>obtain⟨x,_,e'⟩:=Zp1 e;cases e'
 |mp e=>obtain⟨x,_,e'⟩:=Zp1 e;cases e'
 |own e hk _=>obtain⟨x,_,e'⟩:=Zp1 e;cases e';cases hk
theorem came_r{l:List (Nat×Array Value×TypeId)}{v:World}(hl:∀x∈l,∃fr,v.heap[x.1]?=some (.cells x.2.1 x.2.2 fr))(hW:∀x∈l,WT P x.2.2 x.2.1){s:List SV}{a:Act}(hlen:s.length=a.tmps.size)(hs:∀(i:Nat) (y:SV),s[i]?=some y->IsV P idA (Ud2 l) y (a.tmps.getD i undef))(hd:a.defers=[]):
  R P v (Ud2 l).length [] idA idA ⟨s,Ud2 l,[]⟩ a v:=by
 refine⟨hlen,hs,⟨λn b hb=> ?_,λn m hp=>absurd hp Zrz,λn b k hb hf m hp=>absurd hp Zrz⟩,λ_ _=>rfl,λn _ hp=>absurd hp Zrz,Kept.refl _ _,λn len C e _ he=> ?_,by rw[hd];exact DefOk.nil _ _,Nat.le_refl _⟩
 ·obtain⟨x,h1,rfl⟩:=Zp1 hb;have hx:=List.mem_of_getElem? h1;obtain⟨fr,hc⟩:=hl x hx;have hw:=hW x hx;have hz:x.2.1.size=(lay P x.2.2).length:=hw.layLen;have hall:x.2.1.extract 0 (0+x.2.1.size)=x.2.1:=by simp
  refine⟨⟨by omega,λk hk=> ?_,by omega,.inr ⟨x.1,0,rfl,?_,(jA.1 hc).1⟩⟩,λh=>by cases h⟩
  ·obtain rfl:k=0:=by omega
   have:x.2.1.extract (0*(lay P x.2.2).length) (0*(lay P x.2.2).length+(lay P x.2.2).length)=x.2.1:=by rw[Nat.zero_mul,Nat.zero_add,<- hz];simp
   rw[this];exact hw
  ·have:=World.rangeAt_of_block hc 0 x.2.1.size
   rwa [hall]at this
 ·obtain⟨x,_,e'⟩:=Zp1 he;cases e'
theorem Ygf{l:List (Nat×Array Value×TypeId)}{n b:Nat}{C:Array Value}{t:TypeId}(hn:l[n]?=some (b,C,t))(h0:0<(lay P t).length){ρ:Nat->Ad}:Is P ρ (Ud2 l) (.q n 0 t) (.pointer (some ⟨b,0,none⟩)):=
 .inr ⟨_,_,_,_,b,0,0,0,by unfold Ud2;rw[List.getElem?_map,hn];rfl,rfl,rfl,by omega,by omega,.refl t,h0⟩
theorem Zzs{ops:Array Oper}{K:Act->World->Prop}:∀(fuel:Nat) (listed:Array Bool) (a:Act) (v:World),AnyX mn P ops K fuel listed a v->AnyX mn P ops (λa' v'=>K a' v'/\a'.defers=a.defers) fuel listed a v
 |0,listed,a,v,h=>⟨h.1,h.2,rfl⟩
 |f+1,listed,a,v,h=>⟨λhr=>⟨h.1 hr,rfl⟩,λi hi=>OpIX.mono (λa' v' ⟨h',hd⟩=>by
  have:=Zzs f _ a' v' h';rw[hd]at this;exact this) (Zyy (h.2 i hi))⟩
theorem Ye5{ops:Array Oper}{K K':Act->World->Prop}(hk:∀a v,K a v->K' a v):∀(fuel:Nat) (listed:Array Bool) (a:Act) (v:World),AnyX mn P ops K fuel listed a v->AnyX mn P ops K' fuel listed a v
 |0,listed,a,v,h=>⟨h.1,hk _ _ h.2⟩
 |f+1,listed,a,v,h=>⟨λhr=>hk _ _ (h.1 hr),λi hi=>OpIX.mono (λa' v' h'=>Ye5 hk f _ a' v' h') (h.2 i hi)⟩
theorem RR.set{ρ:Nat->Ad}{s:List SV}{h:List VB}{a:Act}{v:World}(hR:RR P W0 ρ s h a v){i:Nat}{y:SV}(hy:IsV P ρ h y (a.tmps.getD i undef)):RR P W0 ρ (s.set i y) h a v :=
  ⟨by simpa using hR.len, fun j x hj => by
    by_cases hij:i=j
    · subst hij;rw[List.getElem?_set]at hj;simp only[if_true]at hj;split at hj
      . cases hj; exact hy
      . cases hj
    · rw [List.getElem?_set_ne hij] at hj;exact hR.slots j x hj,hR.heap,hR.rows,hR.fresh,hR.kept,hR.defers⟩
theorem run_recv{o:Oper}{a:Act}{T e:TypeId}{dir:ChanDir}{x:Operand}{z:Value}{c:Nat}(ho:o.op=.recv T x false)(hx:a.eval x=.chan (some c))(hu:P.underlying T=some (.chan dir e))(hz:(P.info? e).bind (·.zero)=some z)(w:World):
  (execOp a.eval o).runT P w #[]=(.ok (.comm #[Conc.rcase c z] true (.recv false)) w,#[]):=by
 obtain⟨i,hi,hz⟩:=Option.bind_eq_some_iff.1 hz;unfold execOp;rw[ho];simp[underlying,zeroValue,typeInfo,Sem.runT,hu,hi,hz,hx,Conc.rcase]
end
end Go.Proofs.YtefjogahegolbaaDoor.Vc
