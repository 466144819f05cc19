/- What strands hour by hour: the program's iterator over a record. -/
import Derived.Test.YtefjogahegolbaaDoorProg
import Derived.Test.YtefjogahegolbaaDoorCyR
set_option linter.unusedVariables false
set_option linter.unusedSimpArgs false
open _root_.List renaming range'->jA,getElem?_set_ne->jB,getElem?_eq_some_iff->jC
namespace Go.Proofs.YtefjogahegolbaaDoor
open Go.ChangeShapes Go.WideShapes Go.ChangeAt Go.RowKit Go.Conc Ve Vc
open Tryd (prog)
open IntKind (i64)
set_option maxRecDepth 100000
noncomputable section
variable {F:Vc.Fd}
theorem Yhm{ρ ρ':Nat->Ad}{h h':List VB}{x:SV}(hr:refV [] x=true){v:Value}(hi:IsV prog ρ h x v):IsV prog ρ' h' x v:=by
 have one:∀{y:SA} {v:Value},refA [] y=true->Is prog ρ h y v->Is prog ρ' h' y v:=λ{y v} hr hi=>by
  cases y with
  |c f ns=>cases ns with|nil=>exact⟨hi.1,λn hn=>by cases hn⟩|cons n ns=>simp[refA,Uai]at hr
  |x=>trivial
  |p _ _ _=>cases hr
  |w _=>cases hr
  |l _=>cases hr
  |q _ _ _=>cases hr
  |e _=>cases hr
  |m _=>cases hr
  |r _ _ _=>cases hr
  |_=>exact hi
 cases x with|a y=>exact one hr hi|t ys=>obtain⟨vs,h1,h2,h3⟩:=hi;exact⟨vs,h1,h2,λi y v hy hv=>one (List.all_eq_true.1 hr y (List.mem_of_getElem? hy)) (h3 i y v hy hv)⟩
theorem boxR{s:List SV}{a:Act}{v:World}(hS:S0 prog s a){j b n cap:Nat}{T e:TypeId}{ad:Option Addr}{A:Array Value}(hi:s[j]?=some (slP b))(hb:v.heap[b]?=some (.cells #[.slice ad n cap] T (0,0)))(hsl:SlIs prog v ad n A e)
  (hne:∀x,ad=some x->n≠0->b≠x.block) (hd:(s.set j (.a .x)).all (refV [])=true) :
  R prog v 2 [] (λ_=>⟨b,0⟩) (λ_=>⟨b,0⟩) ⟨s.set j (.a (.w 0)),[.one (.l 1) T,.sl (.came (some ad)) n A e],[]⟩ a v:=by
 have hpr:∀m,present [VB.one (.l 1) T,.sl (.came (some ad)) n A e] m->m=0:=λm h=>by
  cases h with
  |row e=>match m,e with|0,e=>cases e|1,e=>cases e|m+2,e=>simp at e
  |one e=>match m,e with|0,e=>rfl|1,e=>cases e|m+2,e=>simp at e
  |mp e=>match m,e with|0,e=>cases e|1,e=>cases e|m+2,e=>simp at e
  |own e hk h0=>match m,e,hk with|0,e,_=>cases e|1,e,hk=>(cases e;cases hk)|m+2,e,_=>simp at e
 refine⟨by simpa using hS.len,λi x hx=> ?_,⟨λm x hx=> ?_,λm q hm hq _=>(hpr m hm).trans (hpr q hq).symm,λm x k hx hf q hq=> ?_⟩,λ_ _=>rfl,λm hm hp=> ?_,Kept.refl _ _,λm len C e hm he=> ?_,by rw[hS.defers];exact DefOk.nil _ _,Nat.le_refl _⟩
 ·dsimp only at hx|-
  by_cases hij:j=i
  ·subst hij;have hlt:=(jC.1 hi).1;rw[List.getElem?_set_self hlt,Q8]at hx;subst hx;exact⟨hS.slots j _ hi,.one rfl⟩
  ·rw[jB hij]at hx;exact Yhm (List.all_eq_true.1 hd x (List.mem_of_getElem? (i:=i) (by rw[jB hij];exact hx))) (hS.slots i x hx)
 ·match m,hx with
  |0,hx=>cases hx;exact⟨_,.inr ⟨_,n,A,e,ad,cap,rfl,rfl,λ_=>rfl,λh=>by cases h⟩,hb⟩
  |1,hx=>cases hx;exact⟨hsl,λh=>by cases h⟩
  |m+2,hx=>simp at hx
 ·match m,hx with
  |0,hx=>cases hx;cases hf
  |1,hx=>
   cases hx;cases ad with
   |none=>cases hf
   |some y=>rw[hf.2];exact hne y rfl hf.1
  |m+2,hx=>simp at hx
 ·have:=hpr m hp;omega
 ·match m,he with
  |0,he=>cases he
  |1,he=>cases he
  |m+2,he=>simp at he
def selR(kS:List Nat)(st:St):Option St:=some ⟨Ub7 kS st.s 0,st.h,st.d⟩
theorem R.forget{W0:World}{D:List Nat}{ρ0 ρ:Nat->Ad}{n0:Nat}{st:St}{a:Act}{w:World}(hR:R prog W0 n0 D ρ0 ρ st a w)(kS:List Nat):R prog W0 n0 D ρ0 ρ ⟨Ub7 kS st.s 0,st.h,st.d⟩ a w :=
  ⟨by rw [Zmc]; exact hR.len, fun i x hx => by
    dsimp only at hx;rw[Zl1]at hx;cases hs:st.s[i]? with
    |none=>rw[hs]at hx; cases hx
    | some y =>
      rw[hs,Option.map_some,Q8]at hx;cases hk:Uai (0+i) kS with
      |true=>rw[hk]at hx; subst hx; exact hR.slots i y hs
      |false=>rw[hk]at hx; subst hx; trivial,hR.heap,hR.base,hR.fresh,hR.kept,hR.own0,hR.defers,hR.bound⟩
theorem opsR{Γ:Cons}(hΓ:ConsOkX (md F) prog (Uah (md F) prog) Γ){W0:World}{ρ0 ρ:Nat->Ad}{st r:St}{a:Act}{w:World}(hR:R prog W0 2 [] ρ0 ρ st a w){ops:Array Oper}(i n:Nat)(hn:((ops.toList.drop i).take n).length=n)(kS:List Nat)(m:Nat)
  (hr:Ubf prog Γ ops st.h.length ((ops.toList.drop i).take n) i { st with h:=st.h++List.replicate m .no } (selR kS)=some r) {K:Act->World->Prop} {rest:List Nat}
  (next:∀ρ' a' v',R prog W0 2 [] ρ0 ρ' r a' v'->a'.defers=a.defers->OpsX (md F) prog ops K rest a' v'):OpsX (md F) prog ops K (jA i n++rest) a w:=by
 have h1:=Zpu hΓ hR.bound ((ops.toList.drop i).take n) i ((ops.toList.drop i).drop n) (List.take_append_drop n _).symm (hR.room m).1 hr (K':=λa' v'=>∃ρ',R prog W0 2 [] ρ0 ρ' r a' v') λρ' st' a' w' hk hR' _=>⟨ρ',by cases hk;exact R.forget hR' kS⟩
 have:=Zpy _ _ _ (Zne _ _ _ h1) (K:=K) (rest:=rest) λa' v' ⟨⟨ρ',q1⟩,q2⟩=>next ρ' a' v' q1 q2
 rwa [hn]at this
def selB(j:Nat)(kS:List Nat)(st:St):Option (List SV):=
 bif (st.d.all (Nat.ble 2))&&((Ub7 kS st.s 0).set j (.a .x)).all (refV []) then (match st.s[j]? with|some (.a (.w 0))=>some ((Ub7 kS st.s 0).set j (.a .x))|_=>none) else none
theorem boxS0{W0:World}{b j:Nat}{ρ':Nat->Ad}{st:St}{a:Act}{v':World}{kS:List Nat}{s':List SV}(hR:R prog W0 2 [] (λ_=>⟨b,0⟩) ρ' st a v')(hd:a.defers=[])(hk:selB j kS st=some s'):S0 prog (s'.set j (slP b)) a/\Ge W0 v':=by
 unfold selB at hk;cases hok:(st.d.all (Nat.ble 2))&&((Ub7 kS st.s 0).set j (.a .x)).all (refV []) with
 |false=>rw[hok]at hk;cases hk
 |true=>
 rw[hok,Q1]at hk;rw[Q7]at hok;split at hk
 case h_2=>cases hk
 rename_i hj;cases hk;have hk:=hR.kept.mono (E':=λ_=>False) λk _ ⟨n,h1,h2,_⟩=>by
  rcases h2 with h2|h2|h2
  ·have:=Nat.le_of_ble_eq_true (List.all_eq_true.1 hok.1 n h2);omega
  ·cases h2
  ·cases h2
 refine⟨⟨by simp only[List.length_set,Zmc];exact hR.len,λi x hx=> ?_,hd⟩,⟨hk.os,hk.tape,hk.output,hk.size,λk hlt=>hk.block k hlt id⟩⟩
 by_cases hij:j=i
 ·subst hij;have hlt:j<st.s.length:=(jC.1 hj).1;rw[List.getElem?_set_self (by simp only[List.length_set,Zmc];exact hlt),Q8]at hx;subst hx;have:=(hR.slots j _ hj).1;rw[hR.base 0 (by decide)]at this;exact this
 ·rw[jB hij]at hx;have hr:=List.all_eq_true.1 hok.2 x (List.mem_of_getElem? hx);rw[jB hij,Zl1]at hx;cases hs:st.s[i]? with
  |none=>rw[hs]at hx;cases hx
  |some y=>rw[hs,Option.map_some,Q8]at hx;cases hk:Uai (0+i) kS with|true=>rw[hk]at hx;subst hx;exact Yhm hr (hR.slots i y hs)|false=>rw[hk]at hx;subst hx;trivial
theorem opsB{Γ:Cons}(hΓ:ConsOkX (md F) prog (Uah (md F) prog) Γ){W0:World}{b:Nat}{ρ:Nat->Ad}{st:St}{a:Act}{w:World}(hR:R prog W0 2 [] (λ_=>⟨b,0⟩) ρ st a w)(hd:a.defers=[]){ops:Array Oper}(i n:Nat)(hn:((ops.toList.drop i).take n).length=n)(j:Nat)(kS:List Nat)(m:Nat){s':List SV}
  (hr:Ubf prog Γ ops st.h.length ((ops.toList.drop i).take n) i { st with h:=st.h++List.replicate m .no } (selB j kS)=some s') {K:Act->World->Prop} {rest:List Nat}
  (next:∀a' v',S0 prog (s'.set j (slP b)) a'->Ge W0 v'->OpsX (md F) prog ops K rest a' v'):OpsX (md F) prog ops K (jA i n++rest) a w:=by
 have h1:=Zpu hΓ hR.bound ((ops.toList.drop i).take n) i ((ops.toList.drop i).drop n) (List.take_append_drop n _).symm (hR.room m).1 hr (K':=λa' v'=>∃ρ' st',R prog W0 2 [] (λ_=>⟨b,0⟩) ρ' st' a' v'/\selB j kS st'=some s') λρ' st' a' w' hk hR' _=>⟨ρ',st',hR',hk⟩
 have:=Zpy _ _ _ (Zne _ _ _ h1) (K:=K) (rest:=rest) λa' v' ⟨⟨ρ',st',q1,q2⟩,q3⟩=>by
  obtain⟨e1,e2⟩:=boxS0 q1 (q3.trans hd) q2;exact next a' v' e1 e2
 rwa [hn]at this
theorem Zkj{mn:Md}{ops:Array Oper}{K:Act->World->Prop}{i k:Nat}{t:Bool}{rest:List Nat}{a:Act}{v:World}{o:Oper}(ho:ops[i]?=some o)(hg:o.guard=some (k,t))(hy:yielded ops a.tmps k=some t)(h:OpX mn prog o a v λa' v'=>OpsX mn prog ops K rest a' v'):OpsX mn prog ops K (i::rest) a v:=by unfold OpsX OpIX;rw[ho];dsimp only;rw[if_pos (by unfold Region.wanted;rw[hg];dsimp only;rw[hy];simp)];exact h
theorem Zki{ops:Array Oper}{s:List SV}{a:Act}(hS:S0 prog s a){k d:Nat}{t:Bool}(ho:(ops[k]?).bind (·.dst)=some d)(hs:s[d]?=some (.a (.b t))):yielded ops a.tmps k=some t:=by
 have h1:a.tmps.getD d undef=.bool t:=hS.slots d _ hs;have hlt:d<a.tmps.size:=by rw[<- hS.len];exact(jC.1 hs).1
 unfold yielded;rw[ho];rw[Array.getD_eq_getD_getElem?,Array.getElem?_eq_getElem hlt,Option.getD_some]at h1;simp[hlt,h1]
def lndV(A:Array Value)(h:Nat):Array Value:=subV (A.extract (h*36) (h*36+36)) (A.extract ((h - 1)*36) ((h - 1)*36+36)) 12
def lndL(A:Array Value):Nat->List (Int×Array Value)
 |0=>[]
 |k+1=>bif Ubg (lndV A (k+1)) (zc prog 60) then lndL A k else lndL A k++[(((k+1:Nat):Int),lndV A (k+1))]
theorem Yg8(A:Array Value){m:Nat}:∀(d:Nat),lndL A m <+: lndL A (m+d)
 |0=>List.prefix_refl _
 |d+1=>by
  refine(Yg8 A d).trans ?_
  show lndL A (m+d) <+: lndL A (m+d+1)
  rw[lndL];cases Ubg (lndV A (m+d+1)) (zc prog 60) with|true=>exact List.prefix_refl _|false=>exact List.prefix_append _ _
theorem Ykf(A:Array Value){m n:Nat}(h:m<=n):lndL A m <+: lndL A n:=by obtain⟨d,rfl⟩:∃d,n=m+d:=⟨n - m,by omega⟩;exact Yg8 A d
abbrev laΓ:Cons:=mkΓ [(25,con Zgr)]
theorem laΓ_ok:ConsOkX (md F) prog (Uah (md F) prog) laΓ:=mKc (Zah Zqr) Zmt mKn
set_option maxHeartbeats 1000000 in
theorem Ycg{sf:TypeId->Bool}(b n cap:Nat){ad:Option Addr}{A:Array Value}(v:World)(hb:v.heap[b]?=some (.cells #[.slice ad n cap] 54 (0,0)))(hsl:SlIs prog v ad n A 60)(hne:∀x,ad=some x->n≠0->b≠x.block)
  {ks:List Nat} (hkb:b∈ks) (hka:∀x,ad=some x->n≠0->x.block∈ks) :
  SeqS sf (md F) prog 61 #[.pointer (some ⟨b,0,none⟩)] (λx:Int×Array Value=>#[.int .i64 x.1,.agg x.2]) (Ub3 ks) (lndL A (n - 1)) v:=by
 intro l J Jx V hge hJ hJx hY h0
 let Inv:List (Int×Array Value)->World->Prop:=λp v=>J p v/\v.heap[b]?=some (.cells #[.slice ad n cap] 54 (0,0))/\SlIs prog v ad n A 60/\V.heap.size<=v.heap.size
 have slGe:∀{v v'},Ge v v'->SlIs prog v ad n A 60->SlIs prog v' ad n A 60:=λhg h=>h.world hg.size λ_ g o _ hlt=>hg.block g hlt
 have invGe:∀{p v v'},Ge v v'->Inv p v->Inv p v':=λhg h=>⟨Ubm hJ hg h.1,geAt hg h.2.1,slGe hg h.2.2.1,Nat.le_trans h.2.2.2 hg.size⟩
 have hI0:Inv [] V:=⟨h0,geAt hge hb,slGe hge hsl,Nat.le_refl _⟩;have hmax:=hsl.2.2.1;clear hge hb hsl
 show Ua4 (md F) prog 61 #[.func (.yield l) #[] #[],.pointer (some ⟨b,0,none⟩)] V _
 refine Zey (c:=codeOf Tryd.f61) Tryd.func61 rfl ?_;have hS:S0 prog (slY l::slP b::us 24 []) { tmps:=#[.func (.yield l) #[] #[],.pointer (some ⟨b,0,none⟩)]++Array.replicate 24 undef,defers:=[] }:=S0.enter [.func (.yield l) #[] #[],.pointer (some ⟨b,0,none⟩)] 24;refine Zan (Zez laΓ_ok hS (kS:=[0,1,3]) (nS:=26) (s':=slY l::slP b::.a .x::slI 1::xs 22 []) rfl (by kernel_rfl) λa1 v1 hS1 hg1=> ?_);have hS1:S0 prog (slY l::slP b::.a .x::slI (1:Nat)::xs 22 []) a1:=hS1;have hI1:Inv (lndL A (1 - 1)) v1:=invGe hg1 hI0;refine Zdn (Zbp (n - 1+1) ?_);refine(?_:∀(d h:Nat) (a:Act) (v:World),h+d=n - 1+1->1<=h->S0 prog (slY l::slP b::.a .x::slI h::xs 22 []) a->Inv (lndL A (h - 1)) v->Ua0 (md F) none prog _ _ (d+1) a v) (n - 1) 1 a1 v1 (by omega) (by omega) hS1 hI1;clear hS hS1 hI0 hI1 hg1 h0;intro d
 induction d with
 |zero=>
  intro h a v hhd h1 hS hI;refine Zan (Zan (Zar ?_))
  show OpsX (md F) _ _ _ (jA 0 4++[]) _ _
  refine opsB laΓ_ok (boxR hS (j:=1) rfl hI.2.1 hI.2.2.1 hne (by kernel_rfl)) hS.defers 0 4 rfl 1 [0,1,3,8] 4 (s':=slY l::.a .x::.a .x::slI h::xs 4 (.a (.b (decide ((h:Int)<(n:Int))))::xs 17 [])) (by kernel_rfl) λa2 v2 hS2 hg2=> ?_
  have hS2:S0 prog (slY l::slP b::.a .x::slI h::xs 4 (.a (.b (decide ((h:Int)<(n:Int))))::xs 17 [])) a2:=hS2;refine Zay (by rw[hS2.bool (i:=8) rfl,Q4 (by omega)]) (Zld ?_);refine⟨.inl rfl,Zm4 rfl hS2.defers λv3 hg3=>.inl ?_⟩;have hI3:=invGe (hg2.trans hg3) hI;rw[show h - 1=n - 1 by omega]at hI3;exact hI3.1
 | succ d ih=>
  intro h a v hhd h1 hS hI;have hlt:h<n:=by omega
  have ew:i64.wrap ((h:Int) - 1)=((h - 1:Nat):Int):=by rw[IntWalk.i64_in _ (by omega)];omega
  have ew2:i64.wrap ((h:Int)+1)=((h+1:Nat):Int):=by rw[IntWalk.i64_in _ (by omega)];omega
  have hG:((decide (0<=i64.wrap ((h:Int) - 1))&&decide (i64.wrap ((h:Int) - 1)<=(h:Int)))&&(decide ((h:Int)<=i64.wrap ((h:Int) - 1)+14)&&decide ((h:Int)<(n:Int))))=true:=by rw[ew,Q3 (by omega),Q3 (by omega),Q3 (by omega),Q3 (by omega)];rfl
  have eR:(subV (A.extract ((h:Int).toNat*36) ((h:Int).toNat*36+36)) (A.extract ((i64.wrap ((h:Int) - 1)).toNat*36) ((i64.wrap ((h:Int) - 1)).toNat*36+36)) (12^((h:Int) - i64.wrap ((h:Int) - 1)).toNat))=lndV A h:=by rw[ew,Q9,Q9,show ((h:Int) - ((h - 1:Nat):Int)).toNat=1 by omega];rfl
  refine Zan (Zan (Zar ?_))
  show OpsX (md F) _ _ _ (jA 0 4++[]) _ _
  refine opsB laΓ_ok (boxR hS (j:=1) rfl hI.2.1 hI.2.2.1 hne (by kernel_rfl)) hS.defers 0 4 rfl 1 [0,1,3,8] 4 (s':=slY l::.a .x::.a .x::slI h::xs 4 (.a (.b (decide ((h:Int)<(n:Int))))::xs 17 [])) (by kernel_rfl) λa2 v2 hS2 hg2=> ?_
  have hS2:S0 prog (slY l::slP b::.a .x::slI h::xs 4 (.a (.b (decide ((h:Int)<(n:Int))))::xs 17 [])) a2:=hS2;refine Zdr (by rw[hS2.bool (i:=8) rfl,Q3 (by omega)]) (Zeb ?_);have hI2:=invGe hg2 hI;have hS2:S0 prog (slY l::slP b::.a .x::slI h::xs 22 []) a2:=⟨hS2.len,λi x hx=>by
   by_cases h8:i=8
   ·subst h8;cases hx;trivial
   ·refine hS2.slots i x (hx ▸ ?_)
    match i,h8 with
    |0,_|1,_|2,_|3,_|4,_|5,_|6,_|7,_=>rfl
    |8,h8=>exact absurd rfl h8
    |k+9,_=>rfl,hS2.defers⟩
  refine Zan (Zdn (Zan (Zar ?_)))
  show OpsX (md F) _ _ _ (jA 0 7++[]) _ _
  refine opsR laΓ_ok (boxR hS2 (j:=1) rfl hI2.2.1 hI2.2.2.1 hne (by kernel_rfl)) 0 7 rfl [0,1,3,4] 7 (r:=⟨slY l::.a (.w 0)::.a .x::slI h::.a (.w 7)::xs 21 [],[.one (.l 1) 54,.sl (.came (some ad)) n A 60,.no,.no,.no,.no,.no,.row (subV (A.extract ((h:Int).toNat*36) ((h:Int).toNat*36+36)) (A.extract ((i64.wrap ((h:Int) - 1)).toNat*36) ((i64.wrap ((h:Int) - 1)).toNat*36+36)) (12^((h:Int) - i64.wrap ((h:Int) - 1)).toNat)) 60,.no],[7]⟩) (Eq.trans (b:=bif ((decide (0<=i64.wrap ((h:Int) - 1))&&decide (i64.wrap ((h:Int) - 1)<=(h:Int)))&&(decide ((h:Int)<=i64.wrap ((h:Int) - 1)+14)&&decide ((h:Int)<(n:Int)))) then some ⟨slY l::.a (.w 0)::.a .x::slI h::.a (.w 7)::xs 21 [],[.one (.l 1) 54,.sl (.came (some ad)) n A 60,.no,.no,.no,.no,.no,.row (subV (A.extract ((h:Int).toNat*36) ((h:Int).toNat*36+36)) (A.extract ((i64.wrap ((h:Int) - 1)).toNat*36) ((i64.wrap ((h:Int) - 1)).toNat*36+36)) (12^((h:Int) - i64.wrap ((h:Int) - 1)).toNat)) 60,.no],[7]⟩ else none) (by kernel_rfl) (by rw[hG];rfl)) λρ3 a3 v3 hR3 hd3=> ?_
  rw[eR]at hR3;refine Zan (Zar ?_);cases hz:Ubg (lndV A h) (zc prog 60) with
  |true=>
   show OpsX (md F) _ _ _ (jA 0 4++(jA 4 6++[])) _ _
   refine opsR laΓ_ok hR3 0 4 rfl [0,1,3,4,19] 0 (r:=⟨slY l::.a (.w 0)::.a .x::slI h::.a (.w 7)::xs 14 (.a (.b (!(Ubg (lndV A h) (zc prog 60))))::xs 6 []),[.one (.l 1) 54,.sl (.came (some ad)) n A 60,.no,.no,.no,.no,.no,.row (lndV A h) 60,.no],[7]⟩) (by kernel_rfl) λρ4 a4 v4 hR4 hd4=> ?_
   rw[hz]at hR4;refine opsB laΓ_ok hR4 (hd4.trans (hd3.trans hS2.defers)) 4 6 rfl 1 [0,1,3,25] 6 (s':=slY l::.a .x::.a .x::slI h::xs 21 (.a (.b false)::[])) (by kernel_rfl) λa5 v5 hS5 hg5=> ?_
   have hS5:S0 prog (slY l::slP b::.a .x::slI h::xs 21 (.a (.b false)::[])) a5:=hS5;refine Zay (hS5.bool (i:=25) rfl) (Zeb ?_);refine Zez laΓ_ok hS5 (kS:=[0,1,3]) (nS:=26) (s':=slY l::slP b::.a .x::slI (i64.wrap ((h:Int)+1))::xs 22 []) rfl (by kernel_rfl) λa6 v6 hS6 hg6=> ?_
   rw[ew2]at hS6;have hI6:=invGe (hg5.trans hg6) hI2;obtain⟨k,rfl⟩:∃k,h=k+1:=⟨h - 1,by omega⟩;refine ih (k+1+1) a6 v6 (by omega) (by omega) hS6 ?_;rw[show k+1+1 - 1=k+1 by omega,lndL,hz];exact hI6
  | false=>
   show OpsX (md F) _ _ _ (jA 0 4++(jA 4 3++(7::(jA 8 2++[])))) _ _
   refine opsR laΓ_ok hR3 0 4 rfl [0,1,3,4,19] 0 (r:=⟨slY l::.a (.w 0)::.a .x::slI h::.a (.w 7)::xs 14 (.a (.b (!(Ubg (lndV A h) (zc prog 60))))::xs 6 []),[.one (.l 1) 54,.sl (.came (some ad)) n A 60,.no,.no,.no,.no,.no,.row (lndV A h) 60,.no],[7]⟩) (by kernel_rfl) λρ4 a4 v4 hR4 hd4=> ?_
   rw[hz]at hR4;refine opsB laΓ_ok hR4 (hd4.trans (hd3.trans hS2.defers)) 4 3 rfl 1 [0,1,3,19,20,21,22] 3 (s':=slY l::.a .x::.a .x::slI h::xs 15 (.a (.b true)::slY l::slI h::.a (.g (lndV A h) 60)::xs 3 [])) (by kernel_rfl) λa5 v5 hS5 hg5=> ?_
   have hS5:S0 prog (slY l::slP b::.a .x::slI h::xs 15 (.a (.b true)::slY l::slI h::.a (.g (lndV A h) 60)::xs 3 [])) a5:=hS5;have hI5:=invGe hg5 hI2;have hL:lndL A (h - 1)++[((h:Int),lndV A h)]=lndL A h:=by obtain⟨k,rfl⟩:∃k,h=k+1:=⟨h - 1,by omega⟩;rw[show k+1 - 1=k by omega,lndL,hz];rfl
   have e22:a5.eval (.tmp 22)=.agg (lndV A h):=(hS5.val (i:=22) (y:=.g (lndV A h) 60) rfl).1;have hpre:lndL A (h - 1)++[((h:Int),lndV A h)] <+: lndL A (n - 1):=by rw[hL];exact Ykf A (by omega)
   have hyl:=hY (lndL A (h - 1)) ((h:Int),lndV A h) v5 hI5.1 hpre hI5.2.2.2;dsimp only at hyl;have hya:(#[.tmp 21,.tmp 22]:Array Operand).map a5.eval=#[.int .i64 (h:Int),.agg (lndV A h)]:=by rw[<- hS5.int (i:=21) rfl,<- e22];simp
   refine Zkj (i:=7) rfl rfl (Zki hS5 (d:=19) rfl rfl) (Zpr rfl rfl (hS5.cst (i:=20) rfl) hya hyl λr v6 hr=> ?_);rw[hL]at hr;rcases hr with ⟨rfl,hJ6,hk6,hkf6⟩ | ⟨rfl,hJ6,hkf6⟩
   ·have hS6:=hS5.put 23 (y:=.b true) (vv:=.bool true) rfl;have hI6:Inv (lndL A h) v6:=⟨hJ6,hk6 b hkb _ _ _ hI5.2.1,by
     obtain⟨q1,q2,q3,q4⟩:=hI5.2.2.1;refine⟨q1,q2,q3,?_⟩;rcases Nat.eq_zero_or_pos n with h0|h0
     ·omega
     rcases q4 with q4 | ⟨g,o,q5,q6,q7⟩
     ·exact .inl q4
     ·refine .inr ⟨g,o,q5,λj v hj=> ?_,Nat.lt_of_lt_of_le q7 hkf6.size⟩;have hc:=q6 j v hj;obtain⟨C',t,fr,hg⟩:=Yay hc;simp only[World.cell?]at hc|-
      rw[hk6 g (hka _ q5 (by omega)) _ _ _ hg,<- hg];exact hc,Nat.le_trans hI5.2.2.2 hkf6.size⟩
    refine Zds laΓ_ok hS6 8 2 rfl (kS:=[0,1,3,25]) (nS:=26) (s':=slY l::slP b::.a .x::slI h::xs 21 (.a (.b false)::[])) rfl (by kernel_rfl) λa7 v7 hS7 hg7=> ?_
    refine Zay (hS7.bool (i:=25) rfl) (Zeb ?_);refine Zez laΓ_ok hS7 (kS:=[0,1,3]) (nS:=26) (s':=slY l::slP b::.a .x::slI (i64.wrap ((h:Int)+1))::xs 22 []) rfl (by kernel_rfl) λa8 v8 hS8 hg8=> ?_
    rw[ew2]at hS8;refine ih (h+1) a8 v8 (by omega) (by omega) hS8 ?_;rw[show h+1 - 1=h by omega];exact invGe (hg7.trans hg8) hI6
   ·have hS6:=hS5.put 23 (y:=.b false) (vv:=.bool false) rfl;refine Zds laΓ_ok hS6 8 2 rfl (kS:=[25]) (nS:=26) (s':=xs 25 (.a (.b true)::[])) rfl (by kernel_rfl) λa7 v7 hS7 hg7=> ?_
    refine Zdr (hS7.bool (i:=25) rfl) (Zgo ?_);exact⟨.inr rfl,Zm4 rfl hS7.defers λv8 hg8=>.inr ⟨_,Ykf A (by omega),Ubm hJx (hg7.trans hg8) hJ6⟩⟩
theorem row_setI{r:Array Value}(h:WT prog 60 r){i:Nat}{n:Int}(hi:(lay prog 60)[i]?=some (kN .i64))(hn:i64.min<=n/\n<=i64.max):WT prog 60 (r.setIfInBounds i (.int .i64 n)):=by
 constructor
 ·rw[Array.toList_setIfInBounds,List.map_set,h.1];refine List.ext_getElem? λj=> ?_
  by_cases hij:i=j
  ·subst hij;rw[List.getElem?_set_self (jC.1 hi).1,hi];rfl
  ·rw[jB hij]
 ·intro v hv;rw[Array.toList_setIfInBounds]at hv;rcases List.mem_or_eq_of_mem_set hv with h1|rfl
  ·exact h.2 v h1
  ·exact hn
theorem Ygp:lay prog 60=List.replicate 36 (kN .i64):=by kernel_rfl
theorem lndV_wt{A:Array Value}{n h:Nat}(hA:∀k,k<n->WT prog 60 (A.extract (k*36) (k*36+36)))(hh:h<n):WT prog 60 (lndV A h):=by
 unfold lndV subV;exact Zhi (λ_ (r:Array Value)=>WT prog 60 r) (hA h hh) (λk s hk hs=>by
  unfold subF;exact row_setI hs (by rw[Ygp,Nat.mul_one,List.getElem?_replicate,if_pos hk]) (Zhs .i64 _)) 36 (Nat.le_refl _)
theorem Ycf{A:Array Value}{x:Int×Array Value}:∀{k:Nat},x∈lndL A k->∃h:Nat,1<=h/\h<=k/\x=((h:Int),lndV A h)
 |0,hx=>by cases hx
 | k+1,hx=>by
  rw[lndL]at hx;cases hz:Ubg (lndV A (k+1)) (zc prog 60) with
  |true=>rw[hz]at hx;obtain⟨h,h1,h2,h3⟩:=Ycf hx;exact⟨h,h1,by omega,h3⟩
  | false=>
   rw[hz]at hx;rcases List.mem_append.1 hx with hx|hx
   ·obtain⟨h,h1,h2,h3⟩:=Ycf hx;exact⟨h,h1,by omega,h3⟩
   ·exact⟨k+1,by omega,by omega,List.mem_singleton.1 hx⟩
theorem Yi8{y:Addr}{len:Nat}{C:Array Value}{e:TypeId}(h0:len≠0):∀{h:List VB} {k:Nat},h[k]?=some (.sl (.came (some (some y))) len C e)->y.block∈glL h
 |b::r,0,hk=>by
  simp only[List.getElem?_cons_zero,Q8]at hk;subst hk;obtain⟨m,rfl⟩:∃m,len=m+1:=⟨len - 1,by omega⟩;exact List.mem_cons_self ..
 |b::r,k+1,hk=>by
  have:=Yi8 h0 (h:=r) (k:=k) (by simpa using hk);unfold glL;split
  ·exact List.mem_cons_of_mem _ this
  ·exact List.mem_cons_of_mem _ this
  ·exact this
 |[],_,hk=>by simp at hk
def Zb9:ICon:=λbs h=>match bs with
 |[.one (.l k) 54]=>(match h[k]? with
  |some (.sl (.came c) n A 60)=>some ⟨Int×Array Value,λx=>[.i .i64 x.1,.g x.2 60],lndL A (n - 1),true⟩
  |_=>none)
 |_=>none
theorem Zg3:Uah (md F) prog 61 Zb9:=by
 intro ρ h w ns Y hY hok hH hns;have none1:∀{bs:List VB},(∀k,bs≠[.one (.l k) 54])->Zb9 bs h=none:=λ{bs} hn=>by
  unfold Zb9;split
  ·exact absurd rfl (hn _)
  ·rfl
 match ns,hY,hns with
 | [m],hY,hns=>
  simp only[getH]at hY;unfold Zb9 at hY;split at hY
  case h_2=>cases hY
  rename_i k heq;have e0:=(List.cons.inj heq).1;split at hY
  case h_2=>cases hY
  rename_i c n A hk;cases hY;have hm:h[m]?=some (.one (.l k) 54):=by
   rw[List.getD_eq_getElem?_getD]at e0;cases hm:h[m]? with
   |none=>rw[hm]at e0;cases e0
   |some b=>rw[hm]at e0;exact congrArg some e0
  obtain⟨x,hx,hc⟩:=hH.is m _ hm;rcases hx with hsp | ⟨a,len,C,e,ad,cap,e1,rfl,e3,-⟩
  ·rw[hk]at hsp;cases hsp
  rw[hk]at e1;cases e1;obtain⟨hsl,-⟩:=hH.is k _ hk;have hs2:SlIs prog w ad n A 60:=by
   by_cases h0:n=0
   ·exact⟨hsl.1,hsl.2.1,hsl.2.2.1,.inl h0⟩
   ·rw[e3 h0];exact hsl
  have hl:(lay prog 60).length=36:=by rw[Ygp];simp
  have hmk:m≠k:=λe=>by subst e;rw[hm]at hk;cases hk
  refine⟨λpre x hpre y hy=> ?_,Ycg (ρ m).a n cap w hc hs2 (λx hx h0=> ?_) (by simp) λx hx h0=> ?_⟩
  ·obtain⟨hh,q1,q2,rfl⟩:=Ycf (hpre.subset (show x∈pre++[x] by simp));have e1:i64.min=-9223372036854775808:=rfl;have e2:i64.max=9223372036854775807:=rfl;have hmx:=hs2.2.2.1;have hWs:=hs2.2.1;rw[hl]at hWs;simp only[List.mem_cons,List.not_mem_nil,or_false]at hy;rcases hy with rfl|rfl
   ·refine⟨rfl,rfl,?_,?_⟩<;>omega
   ·exact⟨rfl,rfl,lndV_wt hWs (by omega)⟩
  ·have e4:=(e3 h0).symm.trans hx
   match c,hk,e4 with
   |none,hk,e4=>cases e4;exact λe=>hmk (hH.inj m k (.one hm) (.own hk rfl h0) e)
   |some none,hk,e4=>cases e4
   |some (some y),hk,e4=>cases e4;exact hH.far k _ _ hk ⟨h0,rfl⟩ m (.one hm)
  ·have e4:=(e3 h0).symm.trans hx
   match c,hk,e4 with
   |none,hk,e4=>cases e4;exact List.mem_append_right _ (List.mem_append_right _ (boxL_has hm hk rfl h0))
   |some none,hk,e4=>cases e4
   |some (some y),hk,e4=>cases e4;exact List.mem_append_right _ (List.mem_append_left _ (Yi8 h0 hk))
 |[],hY,_=>rw[none1 (by simp[getH])]at hY;cases hY
 |_::_::_,hY,_=>rw[none1 (by simp[getH])]at hY;cases hY
theorem Zgf:EntX prog 61:=Zal (fn:=Tryd.f61)
theorem opX_boxS{mn:Md}{o:Oper}{a:Act}{v:World}{K:Act->World->Prop}{T:TypeId}{y:Operand}{ad:Option Addr}{n c:Nat}(ho:o.op=.box T y)(hy:a.eval y=.slice ad n c)
  (h:∀v₁,Ge v v₁->K (a.put o.dst (.pointer (some ⟨v₁.heap.size,0,none⟩))) (v₁.alloc (.cells #[.slice ad n c] T))):OpX mn prog o a v K:=
 ⟨λc hc=>(by rw[ho]at hc;cases hc),λv₁ h₁=>.inl ⟨_,_,(show Simple prog (execOp a.eval o) by unfold execOp;rw[ho];exact .bind (Zvb _ _) λ_=>.pure _).tr (by unfold execOp;rw[ho];dsimp only;rw[hy];rfl),h v₁ h₁⟩⟩
def Zfd:NCon:=λargs=>match args with|[.l k]=>some ⟨61,[],some (.l k,54)⟩|_=>none
theorem Zh3:Ubp (md F) prog 40 Zfd:=by
 intro ρ h w args vals c hr hA hH hb;unfold Zfd at hr;split at hr
 case h_2=>cases hr
 rename_i k;cases hr
 match vals,hA with
 | [x],hA=>
  have hx:Is prog ρ h (.l k) x:=hA.2 0 _ x rfl rfl;obtain⟨ad,n,cap,rfl⟩:∃ad n cap,x=.slice ad n cap:=by
   rcases hx with hsp | ⟨a,n,C,e,ad,cap,_,rfl,_⟩
   ·have:=hb _ _ rfl;change Ua7 h k=true at this;unfold Ua7 at this;rw[hsp]at this;cases this
   ·exact⟨_,_,_,rfl⟩
  refine Zey (c:=codeOf Tryd.f40) Tryd.func40 rfl ?_;have hS:S0 prog (.a (.v (.slice ad n cap))::us 3 []) { tmps:=#[.slice ad n cap]++Array.replicate 3 undef,defers:=[] }:=S0.enter [.slice ad n cap] 3;refine Zan (Zar ?_)
  show OpsX (md F) _ _ _ [0,1] _ _
  refine Zjr (i:=0) rfl rfl (opX_boxS rfl (hS.cst (i:=0) rfl) λv1 hg1=> ?_);have hS1:=hS.put 1 (y:=.v (.pointer (some ⟨v1.heap.size,0,none⟩))) (vv:=.pointer (some ⟨v1.heap.size,0,none⟩)) rfl;have hq:(v1.alloc (.cells #[.slice ad n cap] 54)).heap[v1.heap.size]?=some (.cells #[.slice ad n cap] 54 (0,0)):=World.alloc_heap_new v1 _;have hgw:=hg1.trans (Zxl v1 (.cells #[.slice ad n cap] 54));have hsz:w.heap.size<=v1.heap.size:=hg1.size;generalize v1.alloc (.cells #[.slice ad n cap] 54)=v2 at hq hgw|-
  generalize v1.heap.size=g at hq hS1 hsz|-
  refine Zds laΓ_ok hS1 1 1 rfl (kS:=[1]) (nS:=4) (s':=.a .x::slP g::xs 2 []) rfl (by kernel_rfl) (rest:=[]) λa3 v3 hS2 hg3=> ?_
  refine Zan (Zar ?_)
  show OpsX (md F) _ _ _ (0::(jA 1 1++[])) _ _
  refine Zjr (i:=0) rfl rfl (Zvy rfl (A:=#[]) (B:=#[.pointer (some ⟨g,0,none⟩)]) (by simp) (by simpa using hS2.cst (i:=1) rfl) λv4 hg4=> ?_);have hS3:=hS2.put 3 (y:=.v (.func (.func 61) #[] #[.pointer (some ⟨g,0,none⟩)])) (vv:=.func (.func 61) #[] #[.pointer (some ⟨g,0,none⟩)]) rfl;refine Zds laΓ_ok hS3 1 1 rfl (kS:=[2]) (nS:=4) (s':=xs 2 (.a (.v (.func (.func 61) #[] #[.pointer (some ⟨g,0,none⟩)]))::xs 1 [])) rfl (by kernel_rfl) (rest:=[]) λa5 v5 hS4 hg5=> ?_
  refine Zgo ?_;refine⟨.inr rfl,Ybh rfl hS4.defers λv6 hg6=> ?_⟩;have hgA:=(hg3.trans hg4).trans (hg5.trans hg6);have hgB:=hgw.trans hgA;refine⟨g,.slice ad n cap,(hS4.cst (i:=2) rfl),hsz,hx,geAt hgA hq,hgB.os,hgB.tape,hgB.output,hgB.size,λk hk _=>hgB.block k hk⟩
 |[],hA=>exact absurd hA.1 (by simp)
 |_::_::_,hA=>exact absurd hA.1 (by simp)
theorem Zg2:EntX prog 40:=Zal (fn:=Tryd.f40)
theorem toE{ρ:Nat->Ad}{h:List VB}{k:IntKind}{n:Int}{m g:Nat}{t:TypeId}{a:Addr}{x:Nat}(hm:h[m]?=some (.gl g t a x)){vv:Value}(hv:IsV prog ρ h (.t [.i k n,.v (.iface t (.pointer (some a)))]) vv):IsV prog ρ h (.t [.i k n,.e m]) vv:=by
 obtain⟨vs,h1,h2,h3⟩:=hv;refine⟨vs,h1,by simpa using h2,λi y v hy hv=> ?_⟩
 match i,hy,hv with
 |0,hy,hv=>cases hy;exact h3 0 _ v rfl hv
 |1,hy,hv=>cases hy;exact⟨g,t,a,x,hm,h3 1 _ v rfl hv⟩
 |i+2,hy,_=>simp at hy
end
end Go.Proofs.YtefjogahegolbaaDoor
