/- What a starter of goroutines does besides: channels made, closures, go statements, receives; what is named is forgotten. No program is named. -/
import Derived.Test.YtefjogahegolbaaGreatDoorVcE
set_option linter.unusedVariables false
set_option linter.unusedSimpArgs false
open _root_.Array renaming getElem?_eq_some_iff->jA
open _root_.Go renaming World->QB,TypeId->QE,execOp->QI
namespace Go.Proofs.YtefjogahegolbaaGreatDoor.Vc
open Go.RowKit Go.Conc Go.Proofs.YtefjogahegolbaaGreatDoor.Ve
variable {mn:Md}
section
variable {P:Program} {IC:FuncId->ICon->Prop} {Γ:Cons} {W0:QB} {n0:Nat} {D:List Nat} {ρ0:Nat->Ad}
theorem JY{T e:QE}{dir:ChanDir}(A:P.underlying T=some (.chan dir e))(hi:(P.info? e).isSome=true){k:IntKind}(v:QB):(Instr.makeChan T (.int k 0)).run P v=.ok (.chan (some v.heap.size)) (v.alloc (.chan 0 #[] false 0 0 false)):=by
 obtain⟨i,hi⟩:=Option.isSome_iff_exists.1 hi;have J:(underlying T).run P v=.ok (.chan dir e) v:=by simp[underlying,Sem.run,A]
 have h2:(typeInfo e).run P v=.ok i v:=by simp[typeInfo,Sem.run,hi]
 have L:(asInt (.int k 0)).run P v=.ok 0 v:=rfl;unfold Instr.makeChan;simp only[Sem.run_bind,J,h2,L,Result.andThen_ok];have O:¬((0:Int)<0\/(0:Int) > IntKind.i64.max\/(i.bytes:Int)*0 > 2^48 - 112):=by have U:IntKind.i64.max=9223372036854775807:=rfl;omega
 simp[O,newObj,Sem.run]
theorem Yqf{o:Oper}{a:Act}{v:QB}{K:Act->QB->Prop}{T e:QE}{dir:ChanDir}{x:Operand}{k:IntKind}(ho:o.op=.makeChan T x)(hx:a.eval x=.int k 0)(hu:P.underlying T=some (.chan dir e))(hi:(P.info? e).isSome=true)
  (h:∀v₁,Ge v v₁->K (a.put o.dst (.chan (some v₁.heap.size))) (v₁.alloc (.chan 0 #[] false 0 0 false))):OpX mn P o a v K:=
 ⟨fun c hc=>(by rw [ho] at hc;cases hc),fun v₁ h₁=>.inl ⟨_,_,(show Simple P (QI a.eval o) by unfold QI;rw [ho];exact .bind (Yjw _ _) fun _=>.pure _).tr (by
  unfold QI;rw[ho];dsimp only;rw[hx,Sem.run_bind,JY hu hi];rfl),h v₁ h₁⟩⟩
theorem Yrk{o:Oper}{a:Act}{v:QB}{K:Act->QB->Prop}{fn:Fn}{xs ys:Array Operand}{A B:QA}(ho:o.op=.makeFunc fn xs ys)(L:xs.map a.eval=A)(O:ys.map a.eval=B)
  (h:∀v₁,Ge v v₁->K (a.put o.dst (.func fn A B)) v₁):OpX mn P o a v K:=
 yJ (λc J=>by rw[ho]at J;cases J) (by unfold QI;rw[ho];exact .bind (.pure _) λ_=>.pure _) (λv₁ _=>by unfold QI;rw[ho];dsimp only;rw[L,O];rfl) h
theorem run_go{o:Oper}{a:Act}{c:Call}{y:Operand}{f:Fn}{b d:QA}(ho:o.op=.go c)(A:c.callee=.value y)(J:a.eval y=.func f b d)(w:QB):(QI a.eval o).runT P w #[]=(.ok (.spawn { target:=.fn f d,args:=b++c.args.map a.eval }) w,#[]):=by unfold QI;rw[ho];simp only[resolve,A,J,Deferred.ofValue];rfl
theorem Yvb {f : FuncId} {fn : Func} (hf : P.funcs[f]? = some fn) (hn : (fn.name == "runtime.NumGoroutine") = false) (hb : fn.body.isNone = false) (A B : QA) (w : QB) : (invoke (.fn (.func f) B) A).runT P w #[] = (.ok (.enter f (A ++ B)) w, #[]) := by
 show (callFunc f (A++B)).runT P w #[]=_
 unfold callFunc
 show (match P.funcs[f]? with|none=>_|some fn=>_:Sem Next).runT P w #[]=_
 rw[hf];dsimp only;rw[hn,hb];rfl
theorem Went.keep{ρ ρ':Nat->Ad}{s:List SV}{h:List VB}{a:Act}{v v':QB}{dd:List Nat}(L:Went ρ ρ' h dd v v')(O:RR P W0 ρ s h a v){k:Nat}{o:Obj}(hk:v.heap[k]?=some o)(A:∀n C t,n∈dd->h[n]?=some (.row C t)->o ≠ .cells C t (0,0)):v'.heap[k]?=some o:=by refine(L.1.block k (jA.1 hk).1 ?_).trans hk;rintro⟨n,C,t,U,J,rfl⟩;have:=(O.heap.is n _ J).1;rw[hk]at this;exact A n C t U J (Q5 this)
theorem RR.ge{ρ:Nat->Ad}{s:List SV}{h:List VB}{a:Act}{v v':QB}(A:RR P W0 ρ s h a v)(J:Ge v v'):RR P W0 ρ s h a v':=⟨A.len,A.slots,HIs.ge A.heap J,A.rows,A.fresh,A.kept.trans (.of_below J),A.defers⟩
theorem RR.put{ρ:Nat->Ad}{s:List SV}{h:List VB}{a:Act}{v:QB}(A:RR P W0 ρ s h a v)(d:Tmp){y:SV}{vv:Value}(J:IsV P ρ h y vv):RR P W0 ρ (s.set d y) h (a.put (some d) vv) v:=by have h2:=A.r.put (some d) J;exact⟨h2.len,h2.slots,A.heap,A.rows,A.fresh,A.kept,by rw[cB];exact A.defers⟩
theorem RR.val{ρ:Nat->Ad}{s:List SV}{h:List VB}{a:Act}{v:QB}(A:RR P W0 ρ s h a v){i:Nat}{y:SA}(hi:s[i]?=some (.a y)):Is P ρ h y (a.eval (.tmp i)):=A.slots i _ hi
theorem RR.lose{ρ:Nat->Ad}{s:List SV}{h:List VB}{a:Act}{v v':QB}(O:RR P W0 ρ s h a v){E:Nat->Prop}(hk:Kept E v v')(hE:∀k,E k->W0.heap.size<=k)(kS kH:List Nat)(nH:Nat)(hkH:kH.all (Nat.blt · nH)=true)(hr:(Uda kS s 0).all (refV kH)=true)
  (hne:∀n C t,n∈kH->h[n]?=some (.row C t)->¬E (ρ n).a):RR P W0 ρ (Uda kS s 0) (Ucd kH nH h 0) a v':=by
 have hget:∀(n:Nat) (b:VB),n∈kH->h[n]?=some b->(Ucd kH nH h 0)[n]?=some b:=λn b hn J=>by
  have hnH:n<nH:=by have:=List.all_eq_true.1 hkH n hn;simp[Nat.blt]at this;omega
  rw[nB kH nH h 0 n hnH,Nat.zero_add,df.2 hn,Q1,List.getD_eq_getElem?_getD,J];rfl
 have Z:∀(n:Nat) (b:VB),(Ucd kH nH h 0)[n]?=some b->b=.no\/(n∈kH/\h[n]?=some b):=λn b e=>by
  have U:=(List.getElem?_eq_some_iff.1 e).1;rw[vu]at U;rw[nB kH nH h 0 n U,Nat.zero_add]at e;cases J:Uan n kH with|false=>rw[J]at e;simp at e;exact .inl e.symm|true=>rw[J,Q1,List.getD_eq_getElem?_getD]at e;cases hs:h[n]? with|none=>rw[hs]at e;simp at e;exact .inl e.symm|some x=>rw[hs]at e;simp at e;subst e;exact .inr ⟨df.1 J,rfl⟩
 have A:(Ucd kH nH h 0).all iW=true:=List.all_eq_true.2 λb J=>by
  obtain⟨n,hn⟩:=List.mem_iff_getElem?.1 J;rcases Z n b hn with rfl | ⟨_,e⟩
  ·rfl
  ·exact List.all_eq_true.1 O.rows b (List.mem_of_getElem? e)
 have L:∀(n:Nat) (C:QA) (t:QE),(Ucd kH nH h 0)[n]?=some (VB.row C t)->n∈kH/\h[n]?=some (VB.row C t):=λn C t e=>(Z n _ e).elim (λx=>by cases x) id
 refine⟨by rw[vt];exact O.len,λi x V=> ?_,⟨λn b J=> ?_,λn k hp hq=> ?_,λn b k J hf=> ?_⟩,A,λn C t e=>O.fresh n C t (L n C t e).2,?_,O.defers⟩
 ·have hr':refV kH x=true:=List.all_eq_true.1 hr x (List.mem_of_getElem? V);rw[pF,Nat.zero_add]at V;cases hs:s[i]? with
  |none=>rw[hs]at V;cases V
  |some y=>rw[hs,Option.map_some,Q8]at V;cases J:Uan i kS with|false=>rw[J]at V;subst V;trivial|true=>rw[J]at V;subst V;exact yR hget hr' (O.slots i _ hs)
 ·rcases gN A J with rfl | ⟨C,t,rfl⟩
  ·trivial
  ·obtain⟨hn,e⟩:=L n C t J;obtain⟨h1,h2⟩:=O.heap.is n _ e;exact⟨(hk.block _ (jA.1 h1).1 (hne n C t hn e)).trans h1,h2⟩
 ·obtain⟨C,t,e⟩:=nA A hp;obtain⟨C',t',e'⟩:=nA A hq;exact O.heap.inj n k (.row (L n C t e).2) (.row (L k C' t' e').2)
 ·rcases gN A J with rfl | ⟨C,t,rfl⟩<;>cases hf
 ·exact⟨hk.os.trans O.kept.os,hk.tape.trans O.kept.tape,hk.output.trans O.kept.output,Nat.le_trans O.kept.size hk.size,λk U _=>(hk.block k (Nat.lt_of_lt_of_le U O.kept.size) λhe=>by have:=hE k he;omega).trans (O.kept.block k U not_false)⟩
theorem RR.result{ρ:Nat->Ad}{s:List SV}{h:List VB}{a:Act}{v:QB}(A:RR P W0 ρ s h a v){fn:Func}{y:SA}(J:ip P ⟨s,h,[]⟩ fn.results.toList=some [y]):∀v₁,Ge v v₁->∃r,(results fn a.tmps).run P v₁=.ok r v₁/\Is P ρ h y r:=λv₁ L=>by
 obtain⟨vs,O,h2,U⟩:=lf (st:=⟨s,h,[]⟩) A.slots (A.ge L).heap J
 match vs,h2 with|[r],_=>exact⟨r,O,U 0 y r rfl rfl⟩
theorem JZ(hΓ:ConsOkX mn P IC Γ){ops:Array Oper}{α:Type}{K:St->Option α}{r:α}{ρ:Nat->Ad}{st:St}{a:Act}{w:QB}(hR:R P W0 n0 D ρ0 ρ st a w)(hr:mc P Γ ops true st K=some r){K':Act->QB->Prop}
  (hQ:∀ρ' st' a' w',K st'=some r->R P W0 n0 D ρ0 ρ' st' a' w'->K' a' w'):AnyX mn P ops K' ops.size (Array.replicate ops.size false) a w:=by
 unfold mc at hr;simp only[Q1]at hr;cases hE:il ops.toList 0 with
 |false=>rw[hE]at hr;cases hr
 | true=>
  rw[hE]at hr;simp only[Q1]at hr;obtain⟨tr,hlen,hX,hT,hk⟩:=pX ops.toList 0 [] rfl (Nat.zero_le _) rfl (λi o x _ hx=>by simp at hx) hr;have hR1:=(hR.room ops.size).1;have hno:∀i,i<ops.size->(st.h++List.replicate ops.size VB.no)[st.h.length+i]?=some .no:=λi hi=>by
   rw[List.getElem?_append_right (by omega),List.getElem?_replicate,if_pos (by omega)]
  have hl0:∀k,lst (Array.replicate ops.size false) k=false:=λk=>by
   unfold lst;rw[Array.getD_eq_getD_getElem?,Array.getElem?_replicate];split<;>rfl
  have hst:Uaj st.h.length (lst (Array.replicate ops.size false)) tr 0 { st with h:=st.h++List.replicate ops.size .no }={ st with h:=st.h++List.replicate ops.size .no }:=
   Zt8 _ tr 0 _ λk _=>hl0 k
  exact yy (Q:=λ_=>K') hΓ hR.bound (st0:={ st with h:=st.h++List.replicate ops.size .no }) hno hE hlen hX hT (ρs:=ρ) (λρ' a' w' hR' hhl hren=>hQ ρ' _ a' w' hk hR') ops.size _ ρ a _ (by simp) (by simp[di]) (λi k h=>by rw[hl0]at h;cases h) (by rw[hst];exact hR1) (by rw[hst];exact HLe.refl _) (λ_ _=>rfl)
def Uec(l:List (Nat×QA×QE)):List VB:=l.map λx=>.sl (.came (some (some ⟨x.1,0,none⟩))) 1 x.2.1 x.2.2
theorem nD{l:List (Nat×QA×QE)}{n:Nat}{b:VB}(h:(Uec l)[n]?=some b):∃x,l[n]?=some x/\b=.sl (.came (some (some ⟨x.1,0,none⟩))) 1 x.2.1 x.2.2:=by unfold Uec at h;rw[List.getElem?_map]at h;obtain⟨x,A,h2⟩:=Option.map_eq_some_iff.1 h;exact⟨x,A,h2.symm⟩
theorem vA{l:List (Nat×QA×QE)}{n:Nat}:¬present (Uec l) n:=λh=>by
 cases h with
 |row e=>obtain⟨x,_,A⟩:=nD e;cases A
 |one e=>obtain⟨x,_,A⟩:=nD e;cases A
 |own e hk _=>obtain⟨x,_,A⟩:=nD e;cases A;cases hk
theorem kL{l:List (Nat×QA×QE)}{v:QB}(hl:∀x∈l,∃fr,v.heap[x.1]?=some (.cells x.2.1 x.2.2 fr))(Z:∀x∈l,WT P x.2.2 x.2.1){s:List SV}{a:Act}(hlen:s.length=a.tmps.size)(hs:∀(i:Nat) (y:SV),s[i]?=some y->IsV P bN (Uec l) y (a.tmps.getD i undef))(hd:a.defers=[]):
  R P v (Uec l).length [] bN bN ⟨s,Uec l,[]⟩ a v:=by
 refine⟨hlen,hs,⟨λn b L=> ?_,λn m A=>absurd A vA,λn b k L hf m A=>absurd A vA⟩,λ_ _=>rfl,λn _ A=>absurd A vA,Kept.refl _ _,λn len C e _ he=> ?_,by rw[hd];exact DefOk.nil _ _,Nat.le_refl _⟩
 ·obtain⟨x,h1,rfl⟩:=nD L;have O:=List.mem_of_getElem? h1;obtain⟨fr,U⟩:=hl x O;have V:=Z x O;have hz:x.2.1.size=(lay P x.2.2).length:=V.layLen;have J:x.2.1.extract 0 (0+x.2.1.size)=x.2.1:=by simp
  refine⟨⟨by omega,λk hk=> ?_,by omega,.inr ⟨x.1,0,rfl,?_,(jA.1 U).1⟩⟩,λh=>by cases h⟩
  ·obtain rfl:k=0:=by omega
   have:x.2.1.extract (0*(lay P x.2.2).length) (0*(lay P x.2.2).length+(lay P x.2.2).length)=x.2.1:=by rw[Nat.zero_mul,Nat.zero_add,<- hz];simp
   rw[this];exact V
  ·have:=World.rangeAt_of_block U 0 x.2.1.size
   rwa [J]at this
 ·obtain⟨x,_,e'⟩:=nD he;cases e'
theorem pI{l:List (Nat×QA×QE)}{n b:Nat}{C:QA}{t:QE}(A:l[n]?=some (b,C,t))(h0:0<(lay P t).length){ρ:Nat->Ad}:Is P ρ (Uec l) (.q n 0 t) (.pointer (some ⟨b,0,none⟩)):=
 .inr ⟨_,_,_,_,b,0,0,0,by unfold Uec;rw[List.getElem?_map,A];rfl,rfl,rfl,by omega,by omega,.refl t,h0⟩
theorem Yj7{ops:Array Oper}{K:Act->QB->Prop}:∀(fuel:Nat) (listed:Array Bool) (a:Act) (v:QB),AnyX mn P ops K fuel listed a v->AnyX mn P ops (λA v'=>K A v'/\A.defers=a.defers) fuel listed a v
 |0,listed,a,v,h=>⟨h.1,h.2,rfl⟩
 |f+1,listed,a,v,h=>⟨λJ=>⟨h.1 J,rfl⟩,λi hi=>OpIX.mono (λA v' ⟨h',L⟩=>by
  have:=Yj7 f _ A v' h';rw[L]at this;exact this) (Yld (h.2 i hi))⟩
theorem yX{ops:Array Oper}{K K':Act->QB->Prop}(hk:∀a v,K a v->K' a v):∀(fuel:Nat) (listed:Array Bool) (a:Act) (v:QB),AnyX mn P ops K fuel listed a v->AnyX mn P ops K' fuel listed a v
 |0,listed,a,v,h=>⟨h.1,hk _ _ h.2⟩
 |f+1,listed,a,v,h=>⟨λA=>hk _ _ (h.1 A),λi hi=>OpIX.mono (λJ v' h'=>yX hk f _ J v' h') (h.2 i hi)⟩
theorem RR.set{ρ:Nat->Ad}{s:List SV}{h:List VB}{a:Act}{v:QB}(hR:RR P W0 ρ s h a v){i:Nat}{y:SV}(hy:IsV P ρ h y (a.tmps.getD i undef)):RR P W0 ρ (s.set i y) h a v :=
  ⟨by simpa using hR.len, fun j x hj => by
    by_cases hij:i=j
    · subst hij;rw[List.getElem?_set]at hj;simp only[if_true]at hj;split at hj
      . cases hj; exact hy
      . cases hj
    · rw [List.getElem?_set_ne hij] at hj;exact hR.slots j x hj,hR.heap,hR.rows,hR.fresh,hR.kept,hR.defers⟩
theorem run_recv{o:Oper}{a:Act}{T e:QE}{dir:ChanDir}{x:Operand}{z:Value}{c:Nat}(ho:o.op=.recv T x false)(J:a.eval x=.chan (some c))(L:P.underlying T=some (.chan dir e))(A:(P.info? e).bind (·.zero)=some z)(w:QB):
  (QI a.eval o).runT P w #[]=(.ok (.comm #[Conc.rcase c z] true (.recv false)) w,#[]):=by
 obtain⟨i,hi,A⟩:=Option.bind_eq_some_iff.1 A;unfold QI;rw[ho];simp[underlying,zeroValue,typeInfo,Sem.runT,L,hi,A,J,Conc.rcase]
end
end Go.Proofs.YtefjogahegolbaaGreatDoor.Vc
