/- A judgement by continuations of the starter, where what is promised may change: codes. No program is named. -/
import Derived.Test.YtnhilgpdgicgfaaVcD
namespace Go.Proofs.Ytnhilgpdgicgfaa.Vc
open Go.RowKit Go.Conc Go.Proofs.Ytnhilgpdgicgfaa.Ve
section
set_option linter.unusedVariables false
set_option linter.unusedSimpArgs false
abbrev Fd:=Nat->Option Value
abbrev PostF:=Exit->Act->World->Fd->Prop
section
variable {ro:Option Nat} {P:Program} {Q Q':PostF} {a:Act} {v:World} {F:Fd}
variable {o:Oper} {K K':Act->World->Fd->Prop}
end
end
section
set_option linter.unusedVariables false
set_option linter.unusedSimpArgs false
variable {mn:Md}
section
variable {P:Program} {IC:FuncId->ICon->Prop} {Γ:Cons} {W0:World} {n0:Nat} {D:List Nat} {ρ0:Nat->Ad}
theorem veOpsX_pre(hΓ:ConsOkX mn P IC Γ){ops:Array Oper}{base:Nat}(hbase:n0<=base){α:Type}{K:St->Option α}{r:α}{K':Act->World->Prop}:
  ∀(l:List Oper) (i:Nat) (t:List Oper),ops.toList.drop i=l++t->∀{ρ:Nat->Ad} {st:St} {a:Act} {w:World},R P W0 n0 D ρ0 ρ st a w->veOps P Γ ops base l i st K=some r ->
   (∀ρ' st' a' w',K st'=some r->R P W0 n0 D ρ0 ρ' st' a' w'->Ext (wrL l) base ρ ρ' st st'->K' a' w')->OpsX mn P ops K' (List.range' i l.length) a w
 |[],i,t,_,ρ,st,a,w,hR,hr,hQ=>hQ ρ st a w hr hR (.refl _ _ _ _)
 | o::l,i,t,hl,ρ,st,a,w,hR,hr,hQ=>by
  have ho:ops[i]?=some o:=by
   have:=congrArg (λx=>x[0]?) hl
   simpa using this
  have hl':ops.toList.drop (i+1)=l++t:=by
   have:=congrArg List.tail hl
   simpa [List.tail_drop] using this
  rw[List.length_cons,List.range'_succ,OpsX];have next:∀{ρ1:Nat->Ad} {st1:St} {a1:Act} {w1:World},veOps P Γ ops base l (i+1) st1 K=some r->R P W0 n0 D ρ0 ρ1 st1 a1 w1->Ext (wrL (o::l)) base ρ ρ1 st st1->OpsX mn P ops K' (List.range' (i+1) l.length) a1 w1:=
   λh1 hR1 he=>veOpsX_pre hΓ hbase l (i+1) t hl' hR1 h1 λρ' st' a' w' hk hR' he'=>hQ ρ' st' a' w' hk hR' (he.trans (he'.mono mem_wrL_tail (Nat.le_refl _)))
  have hWd:∀d,o.dst=some d->d∈wrL (o::l):=λd hd=>mem_wrL_head d (by rw[hd];exact List.mem_singleton.2 rfl)
  unfold veOps at hr;split at hr
  ·rename_i hg;refine opIX_of ho (by simp[Region.wanted,hg]) (veOneX_sound hΓ hR (by omega) hr (Nat.le_add_right base i) λρ' st' a' w' hk hR' he=>next hk hR' (he.mono mem_wrL_head (Nat.le_refl _)))
  ·rename_i j want hg;split at hr
   ·cases hr
   ·rename_i d hd;split at hr
    ·rename_i t hslot;have hs:=getD_some hslot (by intro h;cases h);have hy:=yielded_of hd hR hs;have hwant:Region.wanted o (yielded ops a.tmps)=(t==want):=by simp[Region.wanted,hg,hy]
     cases t with
     | true=>have hR2:=hR.known hs (t':=true) rfl;have he2:Ext (wrL (o::l)) base ρ ρ st { st with s:=st.s.set d (.a (.b true)) }:=ext_known hs rfl;simp only[cond_true]at hr;cases want with|true=>simp only[cond_true]at hr;exact opIX_of ho (by rw[hwant];rfl) (veOneX_sound hΓ hR2 (by omega) hr (Nat.le_add_right base i) λρ' st' a' w' hk hR' he=>next hk hR' (he2.trans (he.mono mem_wrL_head (Nat.le_refl _))))|false=>simp only[cond_false]at hr;exact opIX_no ho (by rw[hwant];rfl) (next hr (hR2.skip o.dst) (he2.trans (ext_put hWd)))
     | false=>have hR2:=hR.known hs (t':=false) rfl;have he2:Ext (wrL (o::l)) base ρ ρ st { st with s:=st.s.set d (.a (.b false)) }:=ext_known hs rfl;simp only[cond_false]at hr;cases want with|true=>simp only[cond_true]at hr;exact opIX_no ho (by rw[hwant];rfl) (next hr (hR2.skip o.dst) (he2.trans (ext_put hWd)))|false=>simp only[cond_false]at hr;exact opIX_of ho (by rw[hwant];rfl) (veOneX_sound hΓ hR2 (by omega) hr (Nat.le_add_right base i) λρ' st' a' w' hk hR' he=>next hk hR' (he2.trans (he.mono mem_wrL_head (Nat.le_refl _))))
    ·rename_i hslot;have hs:=getD_some hslot (by intro h;cases h);have hy:=yielded_undef hd hR hs;exact opIX_no ho (by simp[Region.wanted,hg,hy]) (next hr (hR.skip o.dst) (ext_put hWd))
    ·cases hr
theorem opsX_app{ops:Array Oper}{K1 K:Act->World->Prop}{rest:List Nat}:∀(l:List Nat) (a:Act) (v:World),OpsX mn P ops K1 l a v->(∀a' v',K1 a' v'->OpsX mn P ops K rest a' v')->OpsX mn P ops K (l++rest) a v
 |[],a,v,h,hK=>hK a v h
 |i::l,a,v,h,hK=>by
  rw[List.cons_append,OpsX];exact OpIX.mono (λa v h'=>opsX_app l a v h' hK) h
theorem put_defers(a:Act)(d:Option Tmp)(v:Value):(a.put d v).defers=a.defers:=by cases d<;>rfl
theorem opX_defers{o:Oper}{a:Act}{v:World}{K:Act->World->Prop}(h:OpX mn P o a v K):OpX mn P o a v λa' v'=>K a' v'/\a'.defers=a.defers:=
 ⟨h.1,fun v₁ h₁=>by
  rcases h.2 v₁ h₁ with ⟨vv,v',h1,h2⟩ | ⟨v',h1,h2⟩ | ⟨f,args,v',h1,h2⟩ | ⟨l,f,tmps,assign,body,v',h1,h2⟩
  ·exact .inl ⟨vv,v',h1,h2,put_defers _ _ _⟩
  ·exact .inr (.inl ⟨v',h1,h2,put_defers _ _ _⟩)
  ·exact .inr (.inr (.inl ⟨f,args,v',h1,h2.mono λ_ _ h=>⟨h,put_defers _ _ _⟩⟩))
  ·exact .inr (.inr (.inr ⟨l,f,tmps,assign,body,v',h1,h2.mono λ_ _ h=>⟨h,put_defers _ _ _⟩⟩))⟩
theorem opIX_defers{ops:Array Oper}{i:Nat}{a:Act}{v:World}{K:Act->World->Prop}(h:OpIX mn P ops i K a v):OpIX mn P ops i (λa' v'=>K a' v'/\a'.defers=a.defers) a v:=by
 unfold OpIX at h|-
 split
 ·rename_i ho;rw[ho]at h;exact⟨h,rfl⟩
 ·rename_i o ho;rw[ho]at h;dsimp only at h;split
  ·rename_i hw;rw[if_pos hw]at h;exact opX_defers h
  ·rename_i hw;rw[if_neg hw]at h;exact⟨h,put_defers _ _ _⟩
theorem opsX_defers{ops:Array Oper}{K:Act->World->Prop}:∀(l:List Nat) (a:Act) (v:World),OpsX mn P ops K l a v->OpsX mn P ops (λa' v'=>K a' v'/\a'.defers=a.defers) l a v
 |[],a,v,h=>⟨h,rfl⟩
 |i::l,a,v,h=>by
  rw[OpsX]at h|-
  refine OpIX.mono (λa' v' h'=> ?_) (opIX_defers h);have:=opsX_defers l a' v' h'.1;rw[h'.2]at this;exact this
def rowNo:VB->Bool
 |.no=>true
 |.row _ _=>true
 |_=>false
structure RR (P:Program) (W0:World) (ρ:Nat->Ad) (s:List SV) (h:List VB) (a:Act) (v:World):Prop where
 len:s.length=a.tmps.size
 slots:∀(i:Nat) (x:SV),s[i]?=some x->IsV P ρ h x (a.tmps.getD i undef)
 heap:HIs P ρ h v
 rows:h.all rowNo=true
 fresh:∀n C t,h[n]?=some (.row C t)->W0.heap.size<=(ρ n).a
 kept:Kept (λ_=>False) W0 v
 defers:a.defers=[]
theorem rowNo_at{h:List VB}(hr:h.all rowNo=true){n:Nat}{b:VB}(hn:h[n]?=some b):b=.no\/∃C t,b=.row C t:=by have:=List.all_eq_true.1 hr b (List.mem_of_getElem? hn);cases b with|no=>exact .inl rfl|row C t=>exact .inr ⟨C,t,rfl⟩|_=>cases this
theorem rowNo_present{h:List VB}(hr:h.all rowNo=true){n:Nat}(hp:present h n):∃C t,h[n]?=some (.row C t):=by
 cases hp with
 |row e=>exact⟨_,_,e⟩
 |one e=>rcases rowNo_at hr e with x | ⟨_,_,x⟩<;>cases x
 |mp e=>rcases rowNo_at hr e with x | ⟨_,_,x⟩<;>cases x
 |own e _ _=>rcases rowNo_at hr e with x | ⟨_,_,x⟩<;>cases x
theorem RR.r{ρ:Nat->Ad}{s:List SV}{h:List VB}{a:Act}{v:World}(hR:RR P W0 ρ s h a v):R P v h.length [] ρ ρ ⟨s,h,[]⟩ a v:=
 ⟨hR.len,hR.slots,hR.heap,fun _ _=>rfl,fun n hn hp=>by
  obtain⟨C,t,e⟩:=rowNo_present hR.rows hp;have:=(List.getElem?_eq_some_iff.1 e).1;omega,Kept.refl _ _,λn len C e _ he=>(by rcases rowNo_at hR.rows he with x | ⟨_,_,x⟩<;>cases x),by rw[hR.defers];exact DefOk.nil _ _,Nat.le_refl _⟩
def keepS(l:List Nat):List SV->Nat->List SV
 |[],_=>[]
 |v::r,i=>(bif elemN i l then v else .a .x)::keepS l r (i+1)
def keepH(l:List Nat):Nat->List VB->Nat->List VB
 |0,_,_=>[]
 |n+1,h,i=>(bif elemN i l then h.headD .no else .no)::keepH l n h.tail (i+1)
def refA(l:List Nat):SA->Bool
 |.x=>true
 |.p n _ _=>elemN n l
 |.w n=>elemN n l
 |.c _ ns=>ns.all (elemN · l)
 |.r _ _ _=>false
 |y=>dataA y
def refV(l:List Nat):SV->Bool
 |.a y=>refA l y
 |.t ys=>ys.all (refA l)
def sameNo:List VB->List VB->Bool
 |.no::h,b::h'=>(match b with | .no=>true|_=>false)&&sameNo h h'
 |_::h,_::h'=>sameNo h h'
 |_,_=>true
def rowAt(h:List VB)(n:Nat):Bool:=match h[n]? with|some (.row _ _)=>true|_=>false
def selK(h:List VB)(kS kH dd:List Nat)(nS nH:Nat)(st:St):Option (List SV×List VB):=
 bif Nat.beq st.s.length nS&&(st.d.all (λn=>Nat.ble h.length n||(rowAt h n&&elemN n dd))&&sameNo h st.h&&((keepS kS st.s 0).all (refV kH)&&(keepH kH nH st.h 0).all rowNo)) then some (keepS kS st.s 0,keepH kH nH st.h 0) else none
theorem elemN_iff{i:Nat}:∀{l:List Nat},elemN i l=true ↔ i∈l
 |[]=>by simp[elemN]
 | x::l=>by
  unfold elemN;constructor
  ·intro h;cases hb:Nat.beq i x with|true=>exact List.mem_cons.2 (.inl (Nat.eq_of_beq_eq_true hb))|false=>rw[hb]at h;exact List.mem_cons.2 (.inr (elemN_iff.1 (by simpa using h)))
  ·intro h;rcases List.mem_cons.1 h with rfl|h
   ·simp
   ·have:=elemN_iff.2 h;simp[this]
theorem keepS_len(l:List Nat):∀(s:List SV) (i:Nat),(keepS l s i).length=s.length
 |[],_=>rfl
 |v::r,i=>by simp[keepS,keepS_len l r (i+1)]
theorem keepS_get(l:List Nat):∀(s:List SV) (i j:Nat),(keepS l s i)[j]?=(s[j]?).map λv=>bif elemN (i+j) l then v else .a .x
 |[],_,_=>by simp[keepS]
 |v::r,i,0=>by simp[keepS]
 |v::r,i,j+1=>by simp only[keepS,List.getElem?_cons_succ];rw[keepS_get l r (i+1) j,show i+1+j=i+(j+1) by omega]
theorem keepH_get(l:List Nat):∀(n:Nat) (h:List VB) (i j:Nat),j<n->(keepH l n h i)[j]?=some (bif elemN (i+j) l then h.getD j .no else .no)
 |0,_,_,_,hj=>by omega
 |n+1,h,i,0,_=>by cases h<;>simp[keepH]
 |n+1,h,i,j+1,hj=>by
  simp only[keepH,List.getElem?_cons_succ];rw[keepH_get l n h.tail (i+1) j (by omega),show i+1+j=i+(j+1) by omega];cases h<;>simp
theorem keepH_len(l:List Nat):∀(n:Nat) (h:List VB) (i:Nat),(keepH l n h i).length=n
 |0,_,_=>rfl
 |n+1,h,i=>by simp[keepH,keepH_len l n h.tail (i+1)]
theorem sameNo_at:∀{h h':List VB},sameNo h h'=true->∀{n:Nat} {b:VB},h[n]?=some .no->h'[n]?=some b->b=.no
 |[],_,_,n,b,hn,_=>by simp at hn
 |x::h,[],_,n,b,_,hb=>by simp at hb
 |x::h,y::h',hs,0,b,hn,hb=>by
  simp only[List.getElem?_cons_zero,Option.some.injEq]at hn hb;subst hn;subst hb;cases y<;>first|rfl | (simp[sameNo]at hs)
 | x::h,y::h',hs,n+1,b,hn,hb=>by
  have hs':sameNo h h'=true:=by cases x<;>simp only[sameNo]at hs<;>first|exact hs|exact(Bool.and_eq_true_iff.1 hs).2
  exact sameNo_at hs' (by simpa using hn) (by simpa using hb)
theorem refA_is{l:List Nat}{ρ:Nat->Ad}{h h':List VB}(hl:∀(n:Nat) (b:VB),n∈l->h[n]?=some b->h'[n]?=some b){y:SA}(hr:refA l y=true){v:Value}(hi:Is P ρ h y v):Is P ρ h' y v:=by
 have th:∀n,n∈l->there h n->there h' n:=λn hn ht=>by
  cases ht with|row e=>exact there.row (hl n _ hn e)|one e=>exact there.one (hl n _ hn e)
 cases y with
 |x=>trivial
 |p n o T=>obtain⟨h1,h2,t,h3,h4⟩:=hi;exact⟨h1,h2,t,h3.imp (λ⟨C,e⟩=>⟨C,hl n _ (elemN_iff.1 hr) e⟩) (λ⟨y,e⟩=>⟨y,hl n _ (elemN_iff.1 hr) e⟩),h4⟩
 |w n=>exact⟨hi.1,th n (elemN_iff.1 hr) hi.2⟩
 |c f ns=>exact⟨hi.1,λn hn=>th n (elemN_iff.1 (List.all_eq_true.1 hr n hn)) (hi.2 n hn)⟩
 |l _=>cases hr
 |q _ _ _=>cases hr
 |e _=>cases hr
 |m _=>cases hr
 |k _ _ _ _=>cases hr
 |r _ _ _=>cases hr
 |_=>exact hi
theorem refV_is{l:List Nat}{ρ:Nat->Ad}{h h':List VB}(hl:∀(n:Nat) (b:VB),n∈l->h[n]?=some b->h'[n]?=some b){y:SV}(hr:refV l y=true){v:Value}(hi:IsV P ρ h y v):IsV P ρ h' y v:=by cases y with|a y=>exact refA_is hl hr hi|t ys=>obtain⟨vs,h1,h2,h3⟩:=hi;exact⟨vs,h1,h2,λi y v hy hv=>refA_is hl (List.all_eq_true.1 hr y (List.mem_of_getElem? hy)) (h3 i y v hy hv)⟩
theorem RR.sel{ρ ρ':Nat->Ad}{s s':List SV}{h h':List VB}{a a':Act}{v v':World}{st:St}{kS kH dd:List Nat}{nS nH m:Nat}(hR:RR P W0 ρ s h a v)(hk:selK h kS kH dd nS nH st=some (s',h'))(hkH:kH.all (Nat.blt · nH)=true)
  (hR':R P v h.length [] ρ ρ' st a' v') (hd:a'.defers=[]) (hE:Ext D h.length ρ ρ' ⟨s,h++List.replicate m .no,[]⟩ st) :
  RR P W0 ρ' s' h' a' v'/\Kept (λk=>∃n C t,n∈dd/\h[n]?=some (.row C t)/\(ρ n).a=k) v v'/\∀n,n<h.length->ρ' n=ρ n:=by
 unfold selK at hk;cases hok:Nat.beq st.s.length nS&&(st.d.all (λn=>Nat.ble h.length n||(rowAt h n&&elemN n dd))&&sameNo h st.h&&((keepS kS st.s 0).all (refV kH)&&(keepH kH nH st.h 0).all rowNo)) with
 |false=>rw[hok]at hk;cases hk
 |true=>
 rw[hok]at hk;simp only[Bool.and_eq_true]at hok;obtain⟨h1,⟨h0,h2⟩,h3,h4⟩:=hok;simp only[cond_true,Option.some.injEq,Prod.mk.injEq]at hk;obtain⟨rfl,rfl⟩:=hk;have hlen:h.length<=st.h.length:=by have:=hE.hlen;simp at this;omega
 have hget:∀(n:Nat) (b:VB),n∈kH->st.h[n]?=some b->(keepH kH nH st.h 0)[n]?=some b:=λn b hn hb=>by
  have hnH:n<nH:=by have:=List.all_eq_true.1 hkH n hn;simp[Nat.blt]at this;omega
  rw[keepH_get kH nH st.h 0 n hnH,Nat.zero_add,elemN_iff.2 hn,cond_true,List.getD_eq_getElem?_getD,hb];rfl
 have hsub:∀(n:Nat) (C:Array Value) (t:TypeId),(keepH kH nH st.h 0)[n]?=some (VB.row C t)->st.h[n]?=some (VB.row C t):=λn C t e=>by
  have hlt:=(List.getElem?_eq_some_iff.1 e).1;rw[keepH_len]at hlt;rw[keepH_get kH nH st.h 0 n hlt,Nat.zero_add]at e;cases hb:elemN n kH with|false=>rw[hb]at e;simp at e|true=>rw[hb,cond_true,List.getD_eq_getElem?_getD]at e;cases hs:st.h[n]? with|none=>rw[hs]at e;simp at e|some b=>rw[hs]at e;simpa using e
 -- names of rows that are kept
 have hrow:∀n,n∈st.d->n<h.length->(∃C t,h[n]?=some (.row C t))/\n∈dd:=λn hn hlt=>by
  have:=List.all_eq_true.1 h0 n hn;rw[Bool.or_eq_true,Bool.and_eq_true]at this;rcases this with h | ⟨h,hd⟩
  ·have:=Nat.le_of_ble_eq_true h;omega
  ·refine⟨?_,elemN_iff.1 hd⟩;unfold rowAt at h;split at h
   ·rename_i C t e;exact⟨C,t,e⟩
   ·cases h
 have hrowk:Kept (λk=>∃n C t,h[n]?=some (.row C t)/\(ρ n).a=k) v v':=hR'.keptR.mono λk _ ⟨n,hn,hd',hρ⟩=>by
  obtain⟨⟨C,t,e⟩,_⟩:=hrow n (hd'.elim id λx=>by cases x) hn;exact⟨n,C,t,e,hρ⟩
 have hrowd:Kept (λk=>∃n C t,n∈dd/\h[n]?=some (.row C t)/\(ρ n).a=k) v v':=hR'.keptR.mono λk _ ⟨n,hn,hd',hρ⟩=>by
  obtain⟨⟨C,t,e⟩,hdd⟩:=hrow n (hd'.elim id λx=>by cases x) hn;exact⟨n,C,t,hdd,e,hρ⟩
 refine⟨⟨by rw[keepS_len];exact hR'.len,λi x hx=> ?_,⟨λn b hb=> ?_,λn k hp hq=> ?_,λn b k hb hf=> ?_⟩,h4,λn C t e=> ?_,?_,hd⟩,hrowd,hE.ren⟩
 ·rw[keepS_get,Nat.zero_add]at hx;cases hs:st.s[i]? with
  |none=>rw[hs]at hx;cases hx
  | some y=>rw[hs,Option.map_some,Option.some.injEq]at hx;have hr:refV kH x=true:=List.all_eq_true.1 h3 x (List.mem_of_getElem? (i:=i) (by rw[keepS_get,hs,Nat.zero_add,Option.map_some,hx]));cases hb:elemN i kS with|false=>rw[hb]at hx;subst hx;trivial|true=>rw[hb]at hx;subst hx;have hi:=hR'.slots i _ hs;exact refV_is hget hr hi
 ·rcases rowNo_at h4 hb with rfl | ⟨C,t,rfl⟩
  ·trivial
  ·exact hR'.heap.is n _ (hsub n C t hb)
 ·obtain⟨C,t,e⟩:=rowNo_present h4 hp;obtain⟨C',t',e'⟩:=rowNo_present h4 hq;exact hR'.heap.inj n k (.row (hsub n C t e)) (.row (hsub k C' t' e'))
 ·rcases rowNo_at h4 hb with rfl | ⟨C,t,rfl⟩<;>cases hf
 ·have e':=hsub n C t e
  by_cases hlt:n<h.length
  ·rw[hE.ren n hlt];cases hb:h[n]? with
   |none=>have:=List.getElem?_eq_none_iff.1 hb;omega
   |some b=>
    rcases rowNo_at hR.rows hb with rfl | ⟨C',t',rfl⟩
    ·have:=sameNo_at h2 hb e';cases this
    ·exact hR.fresh n C' t' hb
  ·exact Nat.le_trans hR.kept.size (hR'.freshR n (by omega) (.row e'))
 ·refine⟨hrowk.os.trans hR.kept.os,hrowk.tape.trans hR.kept.tape,hrowk.output.trans hR.kept.output,Nat.le_trans hR.kept.size hrowk.size,λk hk _=> ?_⟩;refine(hrowk.block k (Nat.lt_of_lt_of_le hk hR.kept.size) ?_).trans (hR.kept.block k hk not_false);rintro⟨n,C,t,e,rfl⟩;have:=hR.fresh n C t e;omega
theorem OpsX.mono{ops:Array Oper}{K K':Act->World->Prop}(hk:∀a v,K a v->K' a v):∀(l:List Nat) (a:Act) (v:World),OpsX mn P ops K l a v->OpsX mn P ops K' l a v
 |[],a,v,h=>hk a v h
 |i::l,a,v,h=>by
  rw[OpsX]at h|-
  exact OpIX.mono (λa v h'=>OpsX.mono hk l a v h') h
def Went(ρ ρ':Nat->Ad)(h:List VB)(dd:List Nat)(v v':World):Prop:=Kept (λk=>∃n C t,n∈dd/\h[n]?=some (VB.row C t)/\(ρ n).a=k) v v'/\∀n,n<h.length->ρ' n=ρ n
theorem opsX_piece(hΓ:ConsOkX mn P IC Γ){ρ:Nat->Ad}{s s':List SV}{h h':List VB}{a:Act}{v:World}(hR:RR P W0 ρ s h a v){ops:Array Oper}{l t:List Oper}{i:Nat}(hl:ops.toList.drop i=l++t){kS kH dd:List Nat}{nS nH:Nat}(m:Nat)
  (hkH:kH.all (Nat.blt · nH)=true) (hr:veOps P Γ ops h.length l i ⟨s,h++List.replicate m .no,[]⟩ (selK h kS kH dd nS nH)=some (s',h')) :
  OpsX mn P ops (λa' v'=>∃ρ',RR P W0 ρ' s' h' a' v'/\Went ρ ρ' h dd v v') (List.range' i l.length) a v:=by
 have h1:=veOpsX_pre (W0:=v) (n0:=h.length) (D:=[]) (ρ0:=ρ) hΓ (base:=h.length) (Nat.le_refl _) l i t hl (hR.r.room m).1 hr (K':=λa' v'=>∃ρ' st',selK h kS kH dd nS nH st'=some (s',h')/\R P v h.length [] ρ ρ' st' a' v'/\Ext (wrL l) h.length ρ ρ' ⟨s,h++List.replicate m .no,[]⟩ st')
  λρ' st' a' w' hk hR' hE=>⟨ρ',st',hk,hR',hE⟩
 refine OpsX.mono ?_ _ _ _ (opsX_defers _ _ _ h1);rintro a' v' ⟨⟨ρ',st',hk,hR',hE⟩,hd⟩;obtain⟨q1,q2,q3⟩:=hR.sel hk hkH hR' (hd.trans hR.defers) hE;exact⟨ρ',q1,q2,q3⟩
theorem wpX_piece{ro:Option Nat}{Q:Exit->Act->World->Prop}(hΓ:ConsOkX mn P IC Γ){ρ:Nat->Ad}{s s':List SV}{h h':List VB}{a:Act}{v:World}(hR:RR P W0 ρ s h a v){id:Nat}{ops:Array Oper}{kS kH dd:List Nat}{nS nH:Nat}(m:Nat)
  (hkH:kH.all (Nat.blt · nH)=true) (hr:veOps P Γ ops h.length ops.toList 0 ⟨s,h++List.replicate m .no,[]⟩ (selK h kS kH dd nS nH)=some (s',h'))
  (next:∀ρ' a' v',RR P W0 ρ' s' h' a' v'->Went ρ ρ' h dd v v'->Q .normal a' v'):WpX mn ro P (.region id ops false) Q a v:=by
 refine wpX_region ?_;rw[List.range_eq_range',<- Array.length_toList];exact OpsX.mono (λa' v' ⟨ρ',q1,q2⟩=>next ρ' a' v' q1 q2) _ _ _ (opsX_piece (t:=[]) hΓ hR (by simp) m hkH hr)
structure S0 (P:Program) (s:List SV) (a:Act):Prop where
 len:s.length=a.tmps.size
 slots:∀(i:Nat) (x:SV),s[i]?=some x->IsV P idA [] x (a.tmps.getD i undef)
 defers:a.defers=[]
theorem hisNil(ρ:Nat->Ad)(v:World):HIs P ρ [] v:=⟨λn b h=>by simp at h,λn m h=>by cases h with|row h=>simp at h|one h=>simp at h|mp h=>simp at h|own h _ _=>simp at h,λn b k h=>by simp at h⟩
theorem S0.rr{s:List SV}{a:Act}(h:S0 P s a)(v:World):RR P v idA s [] a v:=⟨h.len,h.slots,hisNil _ _,rfl,λn C t h=>by simp at h,Kept.refl _ _,h.defers⟩
theorem refA_nil{ρ ρ':Nat->Ad}{y:SA}(hr:refA [] y=true){v:Value}(hi:Is P ρ [] y v):Is P ρ' [] y v:=by
 cases y with
 |x=>trivial
 |p n o T=>cases hr
 |w n=>cases hr
 |c f ns=>cases ns with|nil=>exact⟨hi.1,λn hn=>by cases hn⟩|cons n ns=>simp[refA,elemN]at hr
 |l _=>cases hr
 |q _ _ _=>cases hr
 |e _=>cases hr
 |m _=>cases hr
 |k _ _ _ _=>cases hr
 |r _ _ _=>cases hr
 |_=>exact hi
theorem refV_nil{ρ ρ':Nat->Ad}{y:SV}(hr:refV [] y=true){v:Value}(hi:IsV P ρ [] y v):IsV P ρ' [] y v:=by cases y with|a y=>exact refA_nil hr hi|t ys=>obtain⟨vs,h1,h2,h3⟩:=hi;exact⟨vs,h1,h2,λi y v hy hv=>refA_nil (List.all_eq_true.1 hr y (List.mem_of_getElem? hy)) (h3 i y v hy hv)⟩
theorem RR.s0{ρ:Nat->Ad}{s:List SV}{a:Act}{v:World}(h:RR P W0 ρ s [] a v)(hs:s.all (refV [])=true):S0 P s a:=
 ⟨h.len,λi x hx=>refV_nil (List.all_eq_true.1 hs x (List.mem_of_getElem? hx)) (h.slots i x hx),h.defers⟩
theorem went_nil{ρ ρ':Nat->Ad}{hh:List VB}{v v':World}(h:Went ρ ρ' hh [] v v'):Ge v v':=by obtain⟨h1,h2,h3,h4,h5⟩:=h.1;exact⟨h1,h2,h3,h4,λk hk=>h5 k hk λ⟨n,_,_,hn,_⟩=>by cases hn⟩
theorem S0.put{s:List SV}{a:Act}(h:S0 P s a)(d:Tmp){y:SA}{vv:Value}(hv:Is P idA [] y vv):S0 P (s.set d (.a y)) (a.put (some d) vv):=by have hR:=((h.rr default).r.put (some d) (v:=.a y) hv);exact⟨hR.len,hR.slots,h.defers⟩
theorem opsX_piece0(hΓ:ConsOkX mn P IC Γ){s s':List SV}{a:Act}{v:World}(hS:S0 P s a){ops:Array Oper}{l t:List Oper}{i:Nat}(hl:ops.toList.drop i=l++t){kS:List Nat}{nS:Nat}(hs':s'.all (refV [])=true)
  (hr:veOps P Γ ops 0 l i ⟨s,[],[]⟩ (selK [] kS [] [] nS 0)=some (s',[])) {K:Act->World->Prop} {rest:List Nat}
  (next:∀a' v',S0 P s' a'->Ge v v'->OpsX mn P ops K rest a' v'):OpsX mn P ops K (List.range' i l.length++rest) a v:=
 opsX_app _ _ _ (opsX_piece hΓ (hS.rr v) hl 0 rfl hr) λa' v' ⟨ρ',q1,q2⟩=>next a' v' (q1.s0 hs') (went_nil q2)
theorem wpX_piece0{ro:Option Nat}{Q:Exit->Act->World->Prop}(hΓ:ConsOkX mn P IC Γ){s s':List SV}{a:Act}{v:World}(hS:S0 P s a){id:Nat}{ops:Array Oper}{kS:List Nat}{nS:Nat}(hs':s'.all (refV [])=true)
  (hr:veOps P Γ ops 0 ops.toList 0 ⟨s,[],[]⟩ (selK [] kS [] [] nS 0)=some (s',[]))
  (next:∀a' v',S0 P s' a'->Ge v v'->Q .normal a' v'):WpX mn ro P (.region id ops false) Q a v:=
 wpX_piece hΓ (hS.rr v) 0 rfl hr λρ' a' v' q1 q2=>next a' v' (q1.s0 hs') (went_nil q2)
theorem S0.name{s:List SV}{a:Act}(hS:S0 P s a){i b:Nat}(hi:s[i]?=some (.a (.v (.pointer (some ⟨b,0,none⟩))))){C:Array Value}{t:TypeId}{v:World}(hb:v.heap[b]?=some (.cells C t (0,0)))(hW:WT P t C)(hd:s.all (refV [])=true):
  RR P { v with heap:=#[] } (λ_=>⟨b,0⟩) (s.set i (.a (.w 0))) [.row C t] a v:=by
 have hrow:∀(n:Nat) (x:VB),[VB.row C t][n]?=some x->n=0/\x=.row C t:=λn x h=>by
  cases n with|zero=>simp at h;exact⟨rfl,h.symm⟩|succ n=>simp at h
 have hpr:∀n,present [VB.row C t] n->n=0:=λn h=>by
  cases h with|row e=>exact(hrow n _ e).1|one e=>exact(hrow n _ e).1|mp e=>exact(hrow n _ e).1|own e _ _=>exact(hrow n _ e).1
 refine⟨by simpa using hS.len,λj x hj=> ?_,⟨λn x hx=> ?_,λn m hn hm _=>(hpr n hn).trans (hpr m hm).symm,λn x k hx hf=> ?_⟩,rfl,λ_ _ _ _=>Nat.zero_le _,⟨rfl,rfl,rfl,Nat.zero_le _,λk hk=>by simp at hk⟩,hS.defers⟩
 ·by_cases hij:i=j
  ·subst hij;have hlt:=(List.getElem?_eq_some_iff.1 hi).1;rw[List.getElem?_set_self hlt,Option.some.injEq]at hj;subst hj;exact⟨hS.slots i _ hi,.row rfl⟩
  ·rw[List.getElem?_set_ne hij]at hj;have:=hS.slots j x hj;have hr:=List.all_eq_true.1 hd x (List.mem_of_getElem? hj);cases x with
   | a y=>
    cases y with
    |c f ns=>cases ns with|nil=>exact⟨this.1,λn hn=>by cases hn⟩|cons n ns=>simp[refV,refA,elemN]at hr
    |x=>trivial
    |p _ _ _=>cases hr
    |w _=>cases hr
    |l _=>cases hr
    |q _ _ _=>cases hr
    |e _=>cases hr
    |m _=>cases hr
    |k _ _ _ _=>cases hr
    |r _ _ _=>cases hr
    |_=>exact this
   | t ys=>
    obtain⟨vs,h1,h2,h3⟩:=this;refine⟨vs,h1,h2,λi y v hy hv=> ?_⟩;have hq:refA [] y=true:=List.all_eq_true.1 hr y (List.mem_of_getElem? hy);have h4:=h3 i y v hy hv;cases y with
    |c f ns=>cases ns with|nil=>exact⟨h4.1,λn hn=>by cases hn⟩|cons n ns=>simp[refA,elemN]at hq
    |x=>trivial
    |p _ _ _=>cases hq
    |w _=>cases hq
    |l _=>cases hq
    |q _ _ _=>cases hq
    |e _=>cases hq
    |m _=>cases hq
    |k _ _ _ _=>cases hq
    |r _ _ _=>cases hq
    |_=>exact h4
 ·obtain⟨rfl,rfl⟩:=hrow n x hx;exact⟨hb,hW⟩
 ·obtain⟨rfl,rfl⟩:=hrow n x hx;cases hf
theorem RR.unname{ρ:Nat->Ad}{s:List SV}{h:List VB}{a:Act}{v:World}(hR:RR P W0 ρ s h a v){j:Nat}(hj:s[j]?=some (.a (.w 0)))(hd:(s.set j (.a .x)).all (refV [])=true):S0 P (s.set j (.a (.v (.pointer (some ⟨(ρ 0).a,0,none⟩))))) a:=by
 refine⟨by simpa using hR.len,λi x hi=> ?_,hR.defers⟩
 by_cases hij:j=i
 ·subst hij;have hlt:=(List.getElem?_eq_some_iff.1 hj).1;rw[List.getElem?_set_self hlt,Option.some.injEq]at hi;subst hi;exact(hR.slots j _ hj).1
 ·rw[List.getElem?_set_ne hij]at hi;have hr:refV [] x=true:=List.all_eq_true.1 hd x (List.mem_of_getElem? (i:=i) (by rw[List.getElem?_set_ne hij];exact hi));have hx:=hR.slots i x hi;cases x with
  | a y=>
   cases y with
   |c f ns=>cases ns with|nil=>exact⟨hx.1,λn hn=>by cases hn⟩|cons n ns=>simp[refV,refA,elemN]at hr
   |x=>trivial
   |p _ _ _=>cases hr
   |w _=>cases hr
   |l _=>cases hr
   |q _ _ _=>cases hr
   |e _=>cases hr
   |m _=>cases hr
   |k _ _ _ _=>cases hr
   |r _ _ _=>cases hr
   |_=>exact hx
  | t ys=>
   obtain⟨vs,h1,h2,h3⟩:=hx;refine⟨vs,h1,h2,λi y v hy hv=> ?_⟩;have hq:refA [] y=true:=List.all_eq_true.1 hr y (List.mem_of_getElem? hy);have h4:=h3 i y v hy hv;cases y with
   |c f ns=>cases ns with|nil=>exact⟨h4.1,λn hn=>by cases hn⟩|cons n ns=>simp[refA,elemN]at hq
   |x=>trivial
   |p _ _ _=>cases hq
   |w _=>cases hq
   |l _=>cases hq
   |q _ _ _=>cases hq
   |e _=>cases hq
   |m _=>cases hq
   |k _ _ _ _=>cases hq
   |r _ _ _=>cases hq
   |_=>exact h4
theorem wpX_read{ro:Option Nat}{Q:Exit->Act->World->Prop}(hΓ:ConsOkX mn P IC Γ){s s':List SV}{a:Act}{v:World}(hS:S0 P s a){j b:Nat}(hj:s[j]?=some (.a (.v (.pointer (some ⟨b,0,none⟩))))){C:Array Value}{t:TypeId}(hb:v.heap[b]?=some (.cells C t (0,0)))(hW:WT P t C)(hd:s.all (refV [])=true)
  {id:Nat} {ops:Array Oper} {kS:List Nat} {nS:Nat} (hj':s'[j]?=some (.a (.w 0))) (hs':(s'.set j (.a .x)).all (refV [])=true)
  (hr:veOps P Γ ops 1 ops.toList 0 ⟨s.set j (.a (.w 0)),[.row C t],[]⟩ (selK [.row C t] kS [0] [] nS 1)=some (s',[.row C t]))
  (next:∀a' v',S0 P (s'.set j (.a (.v (.pointer (some ⟨b,0,none⟩))))) a'->Ge v v'->Q .normal a' v'):WpX mn ro P (.region id ops false) Q a v:=by
 refine wpX_piece hΓ (hS.name hj hb hW hd) 0 rfl hr λρ' a' v' q1 q2=>next a' v' ?_ (went_nil q2)
 have:=q1.unname hj' hs';rw[q2.2 0 (by simp)]at this;exact this
theorem S0.enter(vals:List Value)(n:Nat):S0 P (vals.map (λv=>.a (.v v))++List.replicate n (.a .u)) { tmps:=vals.toArray++Array.replicate n undef,defers:=[] }:=by
 refine⟨by simp,λi x hi=> ?_,rfl⟩
 by_cases h:i<vals.length
 ·rw[List.getElem?_append_left (by simpa using h),List.getElem?_map,List.getElem?_eq_getElem h,Option.map_some,Option.some.injEq]at hi;subst hi
  show _=_
  rw[Array.getD_eq_getD_getElem?,Array.getElem?_append_left (by simpa using h)];simp[h]
 ·rw[List.getElem?_append_right (by simpa using h),List.getElem?_replicate]at hi;split at hi
  ·cases hi
   show _=_
   rw[Array.getD_eq_getD_getElem?,Array.getElem?_append_right (by simpa using h),Array.getElem?_replicate];rename_i h';simp only[List.length_map]at h';simp[h']
  ·cases hi
theorem leaves_none{fn:Func}(hf:fn.results=#[]){tmps:Array Value}{R:Value->World->Prop}{ds:List Deferred}(hd:ds=[]){v:World}(h:∀v',Ge v v'->R (.tuple #[]) v'):LeavesM P fn tmps R ds v:=by subst hd;refine⟨v,DefOk.nil _ _,λwx hk _=>⟨_,results_none hf _ _ _,h wx ⟨hk.os,hk.tape,hk.output,hk.size,λk hlt=>hk.block k hlt (by omega)⟩⟩⟩
theorem S0.bool{s:List SV}{a:Act}(h:S0 P s a){i:Nat}{t:Bool}(hi:s[i]?=some (.a (.b t))):a.eval (.tmp i)=.bool t:=h.slots i _ hi
theorem opsX_at0(hΓ:ConsOkX mn P IC Γ){s s':List SV}{a:Act}{v:World}(hS:S0 P s a){ops:Array Oper}(i n:Nat)(hn:((ops.toList.drop i).take n).length=n){kS:List Nat}{nS:Nat}(hs':s'.all (refV [])=true)
  (hr:veOps P Γ ops 0 ((ops.toList.drop i).take n) i ⟨s,[],[]⟩ (selK [] kS [] [] nS 0)=some (s',[])) {K:Act->World->Prop} {rest:List Nat}
  (next:∀a' v',S0 P s' a'->Ge v v'->OpsX mn P ops K rest a' v'):OpsX mn P ops K (List.range' i n++rest) a v:=by
 have:=opsX_piece0 (t:=(ops.toList.drop i).drop n) hΓ hS (List.take_append_drop n _).symm hs' hr next
 rwa [hn]at this
theorem opX_yieldS{o:Oper}{a:Act}{v:World}{K:Act->World->Prop}{c:Call}{y:Operand}{l:Nat}{args:Array Value}{R:Value->World->Prop}(ho:o.op=.call c)(hc:c.callee=.value y)(hy:a.eval y=.func (.yield l) #[] #[])(ha:c.args.map a.eval=args)
  (h:YieldX mn P l args v R) (hK:∀r v',R r v'->K (a.put o.dst r) v'):OpX mn P o a v K:=opX_yield ho hc hy (by rw[ha];exact h) hK
theorem S0.int{s:List SV}{a:Act}(h:S0 P s a){i:Nat}{k:IntKind}{n:Int}(hi:s[i]?=some (.a (.i k n))):a.eval (.tmp i)=.int k n:=(h.slots i _ hi).1
theorem S0.cst{s:List SV}{a:Act}(h:S0 P s a){i:Nat}{y:Value}(hi:s[i]?=some (.a (.v y))):a.eval (.tmp i)=y:=h.slots i _ hi
end
end
section
set_option linter.unusedVariables false
set_option linter.unusedSimpArgs false
variable {mn:Md}
section
variable {P:Program} {IC:FuncId->ICon->Prop} {Γ:Cons} {W0:World} {n0:Nat} {D:List Nat} {ρ0:Nat->Ad}
def arrB(n m:Nat):Array Bool:=((List.range n).map (Nat.testBit m)).toArray
theorem arrB_set{n m i:Nat}(hi:i<n):(arrB n m).setIfInBounds i true=arrB n (m ||| (1 <<< i)):=by
 unfold arrB;refine Array.ext_getElem? λj=> ?_
 rw[Array.getElem?_setIfInBounds]
 by_cases hij:i=j
 ·subst hij;simp[hi,Nat.testBit_or,Nat.testBit_shiftLeft]
 ·rw [if_neg hij];simp only[List.getElem?_toArray,List.getElem?_map]
  by_cases hj:j<n
  ·rw[List.getElem?_range hj,Option.map_some,Option.map_some,Nat.testBit_or,Nat.testBit_shiftLeft];have:(decide (j>=i)&&Nat.testBit 1 (j - i))=false:=by
    by_cases h:i<=j
    ·cases hd:j - i with|zero=>omega|succ d=>rw[Nat.testBit_succ];simp
    ·simp[h]
   rw[this,Bool.or_false]
  ·rw[List.getElem?_eq_none (by simpa using hj)];rfl
def pairsT(ops:Array Oper)(tab:List Nat):List (Nat×Nat):=tab.flatMap λm=>(Region.ready .any ops (arrB ops.size m)).map λi=>(m,i)
def readyT(ops:Array Oper)(tab:List Nat):Bool:=tab.all λm=>(Region.ready .any ops (arrB ops.size m)).all λi=>elemN (m ||| (1 <<< i)) tab
theorem anyX_tab(hΓ:ConsOkX mn P IC Γ){ops:Array Oper}{base:Nat}(hbase:n0<=base)(stOf:Nat->St)(tab:List Nat)(hg:ops.all (λo=>o.guard.isNone)=true)(hin:readyT ops tab=true)
  (hst:(pairsT ops tab).map (λx=>(ops[x.2]?).bind λo=>veOne P Γ ops.size (base+x.2) o (stOf x.1) some)=(pairsT ops tab).map λx=>some (stOf (x.1 ||| (1 <<< x.2))))
  {K:Act->World->Prop} (hK:∀(m:Nat) (ρ':Nat->Ad) (a:Act) (v:World),m∈tab->Region.ready .any ops (arrB ops.size m)=[]->R P W0 n0 D ρ0 ρ' (stOf m) a v->(∀m,m<base->ρ' m=ρ0 m)->a.defers=[]->K a v) :
  ∀(fuel m:Nat) (ρ:Nat->Ad) (a:Act) (v:World),m∈tab->unl (arrB ops.size m).toList<=fuel->R P W0 n0 D ρ0 ρ (stOf m) a v->(∀m,m<base->ρ m=ρ0 m)->a.defers=[]->AnyX mn P ops K fuel (arrB ops.size m) a v:=by
 have hsz:∀m,(arrB ops.size m).size=ops.size:=λm=>by simp[arrB]
 have hg:∀o∈ops,o.guard=none:=λo ho=>by simpa using Array.all_eq_true'.1 hg o ho
 have hin':∀m,m∈tab->∀i,i∈Region.ready .any ops (arrB ops.size m)->(m ||| (1 <<< i))∈tab:=λm hL i hi=>elemN_iff.1 (List.all_eq_true.1 (List.all_eq_true.1 hin m hL) i hi)
 have hst':∀m,m∈tab->∀i,i∈Region.ready .any ops (arrB ops.size m)->∀o,ops[i]?=some o->veOne P Γ ops.size (base+i) o (stOf m) some=some (stOf (m ||| (1 <<< i))):=λm hL i hi o ho=>by
  have:=List.map_inj_left.1 hst (m,i) (List.mem_flatMap.2 ⟨m,hL,List.mem_map.2 ⟨i,hi,rfl⟩⟩);dsimp only at this;rw[ho]at this;exact this
 intro fuel
 induction fuel with
 | zero=>
  intro m ρ a v hL hf hR hρ hd;have hr:Region.ready .any ops (arrB ops.size m)=[]:=by
   cases hr:Region.ready .any ops (arrB ops.size m) with
   |nil=>rfl
   |cons x xs=>
    exfalso;have hi:x∈Region.ready .any ops (arrB ops.size m):=by rw[hr];exact List.mem_cons_self ..
    obtain⟨h1,h2,_⟩:=ready_mem hi;have hlt:x<(arrB ops.size m).size:=by rw[hsz];exact h1
    have:=unl_zero (arrB ops.size m).toList (by omega) x (arrB ops.size m)[x] (by simp[hlt]);rw[Array.getD_eq_getD_getElem?,Array.getElem?_eq_getElem hlt]at h2;rw[this]at h2;cases h2
  exact⟨hr,hK m ρ a v hL hr hR hρ hd⟩
 | succ fuel ih=>
  intro m ρ a v hL hf hR hρ hd;refine⟨λhr=>hK m ρ a v hL hr hR hρ hd,λi hi=> ?_⟩;have hmem:=hin' m hL i hi;obtain⟨hlt,h2,_⟩:=ready_mem hi;have hlt':i<(arrB ops.size m).size:=by rw[hsz];exact hlt
  have hli:(arrB ops.size m).toList[i]?=some false:=by
   rw[Array.getD_eq_getD_getElem?,Array.getElem?_eq_getElem hlt']at h2;simp[hlt']
   simpa using h2
  have ho:ops[i]?=some ops[i]:=Array.getElem?_eq_getElem hlt;have hw:Region.wanted ops[i] (yielded ops a.tmps)=true:=by unfold Region.wanted;rw[hg _ (Array.getElem_mem hlt)]
  refine opIX_of ho hw ?_;have:=opX_defers (veOneX_sound (mn:=mn) hΓ hR (m:=ops.size) (id:=base+i) (by omega) (hst' m hL i hi _ ho) (b:=base) (by omega) (K':=λa' v'=>∃ρ',R P W0 n0 D ρ0 ρ' (stOf (m ||| (1 <<< i))) a' v'/\∀m,m<base->ρ' m=ρ m)
   λρ' st' a' w' hk hR' hE=>by
    cases hk;exact⟨ρ',hR',λm hm=>hE.ren m hm⟩)
  refine this.mono λa' v' ⟨⟨ρ',hR',hr⟩,hd'⟩=> ?_
  rw[arrB_set hlt];refine ih _ ρ' a' v' hmem ?_ hR' (λm hm=>(hr m hm).trans (hρ m hm)) (hd'.trans hd);have:=unl_set (arrB ops.size m).toList i hli;rw[<- arrB_set hlt,Array.toList_setIfInBounds];omega
def levT(ops:Array Oper):Nat->List Nat->List Nat
 |0,fr=>fr
 |n+1,fr=>fr++levT ops n (fr.foldl (λacc m=>(Region.ready .any ops (arrB ops.size m)).foldl (λacc i=>bif elemN (m ||| (1 <<< i)) acc then acc else acc++[m ||| (1 <<< i)]) acc) [])
theorem RR.of{ρ ρ':Nat->Ad}{s:List SV}{h:List VB}{a a':Act}{v v':World}{st:St}(hR:RR P W0 ρ s h a v)(hR':R P v h.length [] ρ ρ' st a' v')(hrow:st.h.all rowNo=true)(hno:sameNo h st.h=true)(hdd:st.d.all (λn=>Nat.ble h.length n)=true)(hd:a'.defers=[]):
  RR P W0 ρ' st.s st.h a' v'/\Ge v v':=by
 have hb:∀n,n<h.length->ρ' n=ρ n:=hR'.base;have hk:Ge v v':=(hR'.keptR.mono (E':=λ_=>False) λk _ ⟨n,hn,hd',hρ⟩=>by
  have:=List.all_eq_true.1 hdd n (hd'.elim id λx=>by cases x);have:=Nat.le_of_ble_eq_true this;omega).below
 refine⟨⟨hR'.len,hR'.slots,hR'.heap,hrow,λn C t e=> ?_,?_,hd⟩,hk⟩
 ·by_cases hlt:n<h.length
  ·rw[hb n hlt];cases hx:h[n]? with
   |none=>have:=List.getElem?_eq_none_iff.1 hx;omega
   |some b=>
    rcases rowNo_at hR.rows hx with rfl | ⟨C',t',rfl⟩
    ·have:=sameNo_at hno hx e;cases this
    ·exact hR.fresh n C' t' hx
  ·exact Nat.le_trans hR.kept.size (hR'.freshR n (by omega) (.row e))
 ·exact hR.kept.trans (.of_below hk)
theorem S0.set{s:List SV}{a:Act}(h:S0 P s a){i:Nat}{y:SV}(hy:IsV P idA [] y (a.tmps.getD i undef)):S0 P (s.set i y) a :=
  ⟨by simpa using h.len, fun j x hj => by
    by_cases hij:i=j
    · subst hij;rw[List.getElem?_set]at hj;simp only[if_true]at hj;split at hj
      . cases hj; exact hy
      . cases hj
    · rw [List.getElem?_set_ne hij] at hj;exact h.slots j x hj,h.defers⟩
theorem arrB_zero(n:Nat):arrB n 0=Array.replicate n false:=by
 unfold arrB;refine Array.ext_getElem? λj=> ?_
 simp only[List.getElem?_toArray,List.getElem?_map,Array.getElem?_replicate]
 by_cases hj:j<n
 ·rw[List.getElem?_range hj,if_pos hj];simp
 ·rw[List.getElem?_eq_none (by simpa using hj),if_neg hj];rfl
def regs:Code->List (Array Oper)
 |.region _ ops _=>[ops]
 |.seq x y=>regs x++regs y
 |.cond _ x y=>regs x++regs y
 |.block _ x=>regs x
 |.loop x=>regs x
 |.scope x=>regs x
 |.rangeFunc _ _ x y=>regs x++regs y
 |_=>[]
theorem wpX_tab{ro:Option Nat}{Q:Exit->Act->World->Prop}(hm:P.follows .mixedOrders=true)(hΓ:ConsOkX mn P IC Γ){ρ:Nat->Ad}{s:List SV}{h:List VB}{a:Act}{v:World}(hR:RR P W0 ρ s h a v){id:Nat}{ops:Array Oper}(stOf:Nat->St)(tab:List Nat)(full:Nat)
  (h0:stOf 0=⟨s,h++List.replicate ops.size .no,[]⟩) (h0':elemN 0 tab=true) (hg:ops.all (λo=>o.guard.isNone)=true) (hin:readyT ops tab=true)
  (hst:(pairsT ops tab).map (λx=>(ops[x.2]?).bind λo=>veOne P Γ ops.size (h.length+x.2) o (stOf x.1) some)=(pairsT ops tab).map λx=>some (stOf (x.1 ||| (1 <<< x.2))))
  (hend:tab.all (λm=> !(Region.ready .any ops (arrB ops.size m)).isEmpty||Nat.beq m full)=true) (hrow:(stOf full).h.all rowNo=true) (hno:sameNo h (stOf full).h=true) (hdd:(stOf full).d.all (λn=>Nat.ble h.length n)=true)
  (next:∀ρ' a' v',RR P W0 ρ' (stOf full).s (stOf full).h a' v'->Ge v v'->(∀n,n<h.length->ρ' n=ρ n)->Q .normal a' v'):WpX mn ro P (.region id ops true) Q a v:=by
 refine wpX_region_any hm ?_;rw[<- arrB_zero];refine anyX_tab (W0:=v) (n0:=h.length) (D:=[]) (ρ0:=ρ) hΓ (base:=h.length) (Nat.le_refl _) stOf tab hg hin hst (λm ρ' a' v' hL hr hR' hρ hd=> ?_) ops.size 0 ρ a v (elemN_iff.1 h0') ?_ ?_ (λ_ _=>rfl) hR.defers
 ·have:=List.all_eq_true.1 hend m hL;rw[hr]at this;obtain rfl:=Nat.eq_of_beq_eq_true (by simpa using this:Nat.beq m full=true);obtain⟨q1,q2⟩:=hR.of hR' hrow hno hdd hd;exact next ρ' a' v' q1 q2 hρ
 ·have h1:(arrB ops.size 0).toList.length=ops.size:=by simp[arrB]
  have h2:unl (arrB ops.size 0).toList<=(arrB ops.size 0).toList.length:=List.length_filter_le _ _;omega
 ·rw[h0];exact(hR.r.room ops.size).1
theorem RR.row{ρ:Nat->Ad}{s:List SV}{h:List VB}{a:Act}{v:World}(hR:RR P W0 ρ s h a v){n:Nat}{C:Array Value}{t:TypeId}(hn:h[n]?=some (.row C t)):v.heap[(ρ n).a]?=some (.cells C t (0,0))/\WT P t C/\W0.heap.size<=(ρ n).a:=⟨(hR.heap.is n _ hn).1,(hR.heap.is n _ hn).2,hR.fresh n C t hn⟩
theorem RR.ne{ρ:Nat->Ad}{s:List SV}{h:List VB}{a:Act}{v:World}(hR:RR P W0 ρ s h a v){n m:Nat}{C C':Array Value}{t t':TypeId}(hn:h[n]?=some (.row C t))(hm:h[m]?=some (.row C' t'))(hne:n≠m):(ρ n).a≠(ρ m).a:=λe=>hne (hR.heap.inj n m (.row hn) (.row hm) e)
theorem leaves_one{fn:Func}{t:Tmp}(hf:fn.results=#[.tmp t]){tmps:Array Value}{R:Value->World->Prop}{ds:List Deferred}(hd:ds=[]){v:World}(h:∀v',Ge v v'->R (tmps.getD t undef) v'):LeavesM P fn tmps R ds v:=by subst hd;refine⟨v,DefOk.nil _ _,λwx hk _=>⟨tmps.getD t undef,?_,h wx ⟨hk.os,hk.tape,hk.output,hk.size,λk hlt=>hk.block k hlt (by omega)⟩⟩⟩;simp[results,hf]
end
end
end Go.Proofs.Ytnhilgpdgicgfaa.Vc
