/- What flows: the goroutines, from their go statements to their sends, and their starter. -/
import Derived.Test.YtefjogahegolbaaDoorProg
import Derived.Test.YtefjogahegolbaaDoorCxG
import Derived.Test.YtefjogahegolbaaDoorVcF
set_option linter.unusedVariables false
set_option linter.unusedSimpArgs false
open _root_.List renaming mem_singleton->jA
namespace Go.Proofs.YtefjogahegolbaaDoor
open Go.ChangeShapes Go.WideShapes Go.ChangeAt Go.RowKit Ve Vc
open Tryd (prog)
set_option maxRecDepth 100000
noncomputable section
variable {mn:Md}
theorem wt_adN{r:Array Value}{i:Nat}{m:Int}(h:WT prog 77 r)(hi:(lay prog 77)[i]?=some 3):WT prog 77 (adN r i m):=by
 have hz:=h.layLen;unfold adN;constructor
 ·rw[Array.toList_setIfInBounds,List.map_set,h.1];refine List.ext_getElem? λj=> ?_
  by_cases hij:i=j
  ·subst hij;rw[List.getElem?_set_self (List.getElem?_eq_some_iff.1 hi).1,hi];rfl
  ·rw[List.getElem?_set_ne hij]
 ·intro v hv;rw[Array.toList_setIfInBounds]at hv;rcases List.mem_or_eq_of_mem_set hv with h1|rfl
  ·exact h.2 v h1
  ·exact Zhs .i64 _
abbrev kidΓ:Cons:=mkΓ [(75,con Zkw)]
theorem kidΓ_ok:ConsOkX mn prog (Uah mn prog) kidΓ:=mKc (Zah Yal) Zuc mKn
abbrev Uet:Array Oper:=(regs (codeOf Tryd.f74)).getD 0 #[]
def Ufv(S X:Array Value):Bool:=okS S&&(decide (0<=tdI X)&&decide (tdI X<2))
theorem kid_ok{S X:Array Value}(hS:WT prog 35 S)(hX:WT prog 77 X)(hG:Ufv S X=true){w:Nat}(hw:w<5){bc bs bx bw c:Nat}{G₁:Gh}{w₁:World}(hfit:Fit G₁ w₁)(hF:G₁.F=λ_=>none)
  (h0:∃fr,(view G₁ w₁).heap[bc]?=some (.cells #[.chan (some c)] 102 fr)) (h1:∃fr,(view G₁ w₁).heap[bs]?=some (.cells S 35 fr)) (h2:∃fr,(view G₁ w₁).heap[bx]?=some (.cells X 77 fr))
  (h3:∃fr,(view G₁ w₁).heap[bw]?=some (.cells #[.int .i64 w] 3 fr)) {d:Deferred} (hd:d={ target:=.fn (.func 74) #[.pointer (some ⟨bc,0,none⟩),.pointer (some ⟨bs,0,none⟩),.pointer (some ⟨bx,0,none⟩),.pointer (some ⟨bw,0,none⟩)],args:=#[] }) :
  GoW prog c (.agg (Ubc prog S X w)) G₁ w₁ (Uc9 prog d):=by
 subst hd;have hi:∀W,(invoke (.fn (.func 74) #[.pointer (some ⟨bc,0,none⟩),.pointer (some ⟨bs,0,none⟩),.pointer (some ⟨bx,0,none⟩),.pointer (some ⟨bw,0,none⟩)]) #[]).runT prog W #[]=(.ok (.enter 74 #[.pointer (some ⟨bc,0,none⟩),.pointer (some ⟨bs,0,none⟩),.pointer (some ⟨bx,0,none⟩),.pointer (some ⟨bw,0,none⟩)]) W,#[]):=λW=>by
  have:=Yit (P:=prog) (f:=74) (fn:=Tryd.f74) (by kernel_rfl) (by kernel_rfl) (by kernel_rfl) #[] #[.pointer (some ⟨bc,0,none⟩),.pointer (some ⟨bs,0,none⟩),.pointer (some ⟨bx,0,none⟩),.pointer (some ⟨bw,0,none⟩)] W
  rwa [Array.empty_append]at this
 refine Yis (s:=5) (z:=.tuple #[]) (ops:=Uet) (o:=Uet.getD 5 default) Tryd.func74 rfl rfl (by kernel_rfl) rfl (λo ho=> ?_) (by kernel_rfl) ⟨_,_,rfl⟩ hi hfit hF rfl (λc hc=>by cases hc) ?_
 ·have:Uet.all (λo=>o.guard.isNone)=true:=by kernel_rfl
  simpa using Array.all_eq_true'.1 this o ho
 have hw0:decide (0<=((w:Nat):Int))=true:=Q3 (by omega);have hw1:decide (((w:Nat):Int)<5)=true:=Q3 (by omega);have hr:Uc3 prog kidΓ Uet.pop true ⟨[.a (.q 0 0 102),.a (.q 1 0 35),.a (.q 2 0 77),.a (.q 3 0 3)]++us 5 [],Ud2 [(bc,#[.chan (some c)],102),(bs,S,35),(bx,X,77),(bw,#[.int .i64 w],3)],[]⟩ (λst=>some (st.s.getD 4 (.a .x),st.s.getD 8 (.a .x))) =
   (bif okS (S.extract 0 (0+363))&&((decide (0<=tdI (X.extract 0 (0+40)))&&decide (tdI (X.extract 0 (0+40))<2))&&(decide (0<=((w:Nat):Int))&&decide (((w:Nat):Int)<5))) then some (.a (.v (.chan (some c))),.a (.g (Ubc prog (S.extract 0 (0+363)) (X.extract 0 (0+40)) w) 77)) else none):=by kernel_rfl
 have eS:S.extract 0 (0+363)=S:=by have:=Ydk hS;rw[Nat.zero_add,<- this];simp
 have eX:X.extract 0 (0+40)=X:=by
  have:X.size=40:=by rw[hX.layLen];kernel_rfl
  rw[Nat.zero_add,<- this];simp
 have hG':=hG;unfold Ufv at hG';rw[Q7]at hG';rw[eS,eX,hG'.1,hG'.2,hw0,hw1]at hr;simp only[Bool.and_self,Q1]at hr;have hl:∀x∈[(bc,#[.chan (some c)],102),(bs,S,35),(bx,X,77),(bw,#[.int .i64 w],3)],(∃fr,(view G₁ w₁).heap[x.1]?=some (.cells x.2.1 x.2.2 fr))/\WT prog x.2.2 x.2.1:=by
  intro x hx;simp only[List.mem_cons,List.not_mem_nil,or_false]at hx;rcases hx with rfl|rfl|rfl|rfl
  ·exact⟨h0,Ubr (by kernel_rfl) trivial⟩
  ·exact⟨h1,hS⟩
  ·exact⟨h2,hX⟩
  ·exact⟨h3,Ubr (by kernel_rfl) (by
    have e1:IntKind.i64.min=-9223372036854775808:=rfl;have e2:IntKind.i64.max=9223372036854775807:=rfl;constructor<;>omega)⟩
 have hR:=came_r (P:=prog) (v:=view G₁ w₁) (l:=[(bc,#[.chan (some c)],102),(bs,S,35),(bx,X,77),(bw,#[.int .i64 w],3)]) (λx hx=>(hl x hx).1) (λx hx=>(hl x hx).2)
  (s:=[.a (.q 0 0 102),.a (.q 1 0 35),.a (.q 2 0 77),.a (.q 3 0 3)]++us 5 []) (a:={ tmps:=#[.pointer (some ⟨bc,0,none⟩),.pointer (some ⟨bs,0,none⟩),.pointer (some ⟨bx,0,none⟩),.pointer (some ⟨bw,0,none⟩)]++Array.replicate 5 undef,defers:=[] }) rfl (fun i y hy=>by
   match i,hy with
   |0,hy=>cases hy;exact Ygf rfl (of_decide_eq_true (by kernel_rfl))
   |1,hy=>cases hy;exact Ygf rfl (of_decide_eq_true (by kernel_rfl))
   |2,hy=>cases hy;exact Ygf rfl (of_decide_eq_true (by kernel_rfl))
   |3,hy=>cases hy;exact Ygf rfl (of_decide_eq_true (by kernel_rfl))
   |4,hy=>cases hy;rfl
   |5,hy=>cases hy;rfl
   |6,hy=>cases hy;rfl
   |7,hy=>cases hy;rfl
   |8,hy=>cases hy;rfl
   |_+9,hy=>simp[us]at hy) rfl
 have hA:=Yid (mn:=Ue6) (P:=prog) kidΓ_ok hR hr (K':=λa v=>a.tmps.getD 4 undef=.chan (some c)/\a.tmps.getD 8 undef=.agg (Ubc prog S X w)) λρ' st' a' w' hk hR'=>by
  have hk:=Q5 hk;have k4:=getD_some (congrArg Prod.fst hk) (by intro h;cases h);have k8:=getD_some (congrArg Prod.snd hk) (by intro h;cases h);exact⟨hR'.slots 4 _ k4,(hR'.slots 8 _ k8:Is _ _ _ (.g _ _) _).1⟩
 refine Ye5 ?_ _ _ _ _ (Zzs _ _ _ _ hA);rintro a' v' ⟨⟨k4,k8⟩,hd⟩;refine⟨hd,λW=> ?_⟩;have e:execOp a'.eval (Uet.getD 5 default)=Pure.pure (.comm #[{ chan:=a'.tmps.getD 4 undef,send:=some (a'.tmps.getD 8 undef),zero:=.tuple #[] }] true .send):=rfl;rw[e,k4,k8];rfl
def flA(cs:List Nat):Array Value:=((cs.map λc=>Value.chan (some c))++List.replicate (5 - cs.length) (Value.chan none)).toArray
theorem flA_set{cs:List Nat}(h:cs.length<5)(c:Nat):(flA cs).setIfInBounds (cs.length*1) (.chan (some c))=flA (cs++[c]):=by
 unfold flA;obtain⟨n,hn⟩:∃n,5 - cs.length=n+1:=⟨5 - cs.length - 1,by omega⟩;have h2:5 - (cs++[c]).length=n:=by simp;omega
 rw[h2,hn,List.setIfInBounds_toArray,Nat.mul_one,List.replicate_succ,List.map_append,List.set_append_right _ _ (by simp)];simp
structure Prom (S X:Array Value) (v:World) (F:Vc.Fd) (cs:List Nat) (F':Vc.Fd):Prop where
 nd:cs.Nodup
 new:∀c∈cs,v.heap.size<=c
 was:∀c∈cs,F c=none
 yes:∀i c,cs[i]?=some c->F' c=some (.agg (Ubc prog S X i))
 no:∀k,k ∉ cs->F' k=F k
def sfS(bs bx:Nat)(i:Int):List SV:=xs 2 (slP bs::slP bx::.a (.w 2)::.a (.w 3)::xs 2 (.a (.i .i64 i)::xs 9 []))
def sfH(cs:List Nat):List VB:=[.no,.no,.row (zc prog 103) 103,.row (flA cs) 103]
structure SfI (S X:Array Value) (v:World) (F:Vc.Fd) (bs bx:Nat) (cs:List Nat) (ρ:Nat->Ad) (a:Act) (w:World) (F':Vc.Fd):Prop where
 rr:RR prog v ρ (sfS bs bx cs.length) (sfH cs) a w
 s:∃fr,w.heap[bs]?=some (.cells S 35 fr)
 x:∃fr,w.heap[bx]?=some (.cells X 77 fr)
 ns:v.heap.size<=bs
 nx:v.heap.size<=bx
 lt:∀c∈cs,c<w.heap.size
 pr:Prom S X v F cs F'
variable {F0:Vc.Fd}
theorem nilΓ_ok:ConsOkX mn prog (Uah mn prog) (mkΓ []):=mKn
set_option maxHeartbeats 2000000 in
theorem Yd8{S X:Array Value}(hS:WT prog 35 S)(hX:WT prog 77 X)(hG:Ufv S X=true)(v:World)(F:Vc.Fd):
  Uda prog 58 #[.agg S,.agg X] v F λr v' F'=>∃cs:List Nat,cs.length=5/\r=.agg (flA cs)/\Prom S X v F cs F'/\Kept (λ_=>False) v v':=by
 refine Ydc (c:=codeOf Tryd.f58) Tryd.func58 rfl ?_;have h0:S0 prog (.a (.v (.agg S))::.a (.v (.agg X))::us 16 []) { tmps:=#[.agg S,.agg X]++Array.replicate 16 undef,defers:=[] }:=S0.enter [.agg S,.agg X] 16;have h0:=(h0.set (i:=0) (y:=.a (.g S 35)) ⟨h0.val (i:=0) rfl,hS⟩).set (i:=1) (y:=.a (.g X 77)) ⟨h0.val (i:=1) rfl,hX⟩;refine Zda (Zcm nilΓ_ok (h0.rr v) 3 (kS:=[2,3,4]) (kH:=[0,1,2]) (dd:=[]) (nS:=18) (nH:=3) (s':=xs 2 (.a (.w 0)::.a (.w 1)::.a (.w 2)::xs 13 [])) (h':=[.row S 35,.row X 77,.row (zc prog 103) 103]) rfl (by kernel_rfl) λρ1 a1 v1 hR1 hw1=> ?_);refine Zda (Zcm nilΓ_ok hR1 1 (kS:=[2,3,4,5]) (kH:=[0,1,2,3]) (dd:=[]) (nS:=18) (nH:=4) (s':=xs 2 (.a (.w 0)::.a (.w 1)::.a (.w 2)::.a (.w 3)::xs 12 [])) (h':=[.row S 35,.row X 77,.row (zc prog 103) 103,.row (flA []) 103]) rfl (by kernel_rfl) λρ2 a2 v2 hR2 hw2=> ?_);refine Zda (Zda (Zcm nilΓ_ok hR2 0 (kS:=[2,3,4,5,8]) (kH:=[0,1,2,3]) (dd:=[]) (nS:=18) (nH:=4) (s':=xs 2 (.a (.w 0)::.a (.w 1)::.a (.w 2)::.a (.w 3)::xs 2 (.a (.i .i64 0)::xs 9 []))) (h':=[.row S 35,.row X 77,.row (zc prog 103) 103,.row (flA []) 103]) rfl (by kernel_rfl) λρ3 a3 v3 hR3 hw3=> ?_));clear hR1 hR2 hw1 hw2 hw3 h0;obtain⟨hbs,-,hns⟩:=hR3.row (n:=0) rfl;obtain⟨hbx,-,hnx⟩:=hR3.row (n:=1) rfl;have e2:=(hR3.val (i:=2) rfl:Is _ _ _ (.w 0) _).1;have e3:=(hR3.val (i:=3) rfl:Is _ _ _ (.w 1) _).1
 have hR4:=((hR3.lose (E:=λ_=>False) (Kept.refl _ _) (λ_ h=>h.elim) [4,5,8] [2,3] 4 rfl (by kernel_rfl) (λ_ _ _ _ _ h=>h)).set (i:=2) (y:=slP (ρ3 0).a) e2).set (i:=3) (y:=slP (ρ3 1).a) e3;have hI:SfI S X v F (ρ3 0).a (ρ3 1).a [] ρ3 a3 v3 F:=⟨hR4,⟨_,hbs⟩,⟨_,hbx⟩,hns,hnx,λ_ h=>(by cases h),⟨List.nodup_nil,λ_ h=>(by cases h),λ_ h=>(by cases h),λi c h=>(by simp at h),λ_ _=>rfl⟩⟩;clear hR4 hR3 hbs hbx hns hnx e2 e3;generalize (ρ3 0).a=bs at hI;generalize (ρ3 1).a=bx at hI;refine Zsq (Zok 6 ?_);refine(?_:∀(d:Nat) (cs:List Nat) (ρ:Nat->Ad) (a:Act) (w:World) (F':Vc.Fd),cs.length+d=5->SfI S X v F bs bx cs ρ a w F'->Udk none prog _ _ (d+1) a w F') 5 [] ρ3 a3 v3 F rfl hI;clear hI;intro d
 induction d with
 |zero=>
  intro cs ρ a w F' hd hI;have h5:cs.length=5:=by omega
  have hR:=hI.rr;refine Zda (Zcm nilΓ_ok hR 0 (kS:=[4,5,9]) (kH:=[2,3]) (dd:=[]) (nS:=18) (nH:=4) (s':=xs 4 (.a (.w 2)::.a (.w 3)::xs 3 (.a (.b (decide ((cs.length:Int)<5)))::xs 8 []))) (h':=sfH cs) rfl (by kernel_rfl) λρ1 a1 w1 hR1 hw1=> ?_);refine Zda (Zpx (t:=false) (by rw[show a1.eval (.tmp 9)=.bool (decide ((cs.length:Int)<5)) from hR1.val (i:=9) rfl,Q4 (by omega)]) (Yhc ?_));refine Zda (Zcm nilΓ_ok hR1 0 (kS:=[4]) (kH:=[2]) (dd:=[2]) (nS:=18) (nH:=3) (s':=xs 4 (.a (.w 2)::xs 13 [])) (h':=[.no,.no,.row (flA cs) 103]) rfl (by kernel_rfl) λρ2 a2 w2 hR2 hw2=>Yku ?_);refine⟨.inr rfl,hR2.defers,λv₁ hg=> ?_⟩;obtain⟨r,q1,q2⟩:=hR2.result (fn:=Tryd.f58) (y:=.g (flA cs) 103) (by kernel_rfl) v₁ hg;exact⟨r,q1,cs,h5,q2.1,hI.pr,hR2.kept.trans (.of_below hg)⟩
 | succ d ih=>
  intro cs ρ a w F' hd hI;have hlt:cs.length<5:=by omega
  have hR:=hI.rr;have i0:decide (0<=((cs.length:Nat):Int))=true:=Q3 (by omega);have i5:decide (((cs.length:Nat):Int)<5)=true:=Q3 (by omega);obtain⟨frs,hs⟩:=hI.s;obtain⟨frx,hx⟩:=hI.x;have tS:∀(C:Array Value) (t:TypeId),t=103->Obj.cells S 35 frs ≠ .cells C t (0,0):=λC t ht e=>by
   have:=(Obj.cells.inj e).2.1;rw[ht]at this;exact absurd this (by decide)
  have tX:∀(C:Array Value) (t:TypeId),t=103->Obj.cells X 77 frx ≠ .cells C t (0,0):=λC t ht e=>by
   have:=(Obj.cells.inj e).2.1;rw[ht]at this;exact absurd this (by decide)
  refine Zda (Zcm nilΓ_ok hR 0 (kS:=[2,3,4,5,8,9]) (kH:=[2,3]) (dd:=[]) (nS:=18) (nH:=4) (s':=xs 2 (slP bs::slP bx::.a (.w 2)::.a (.w 3)::xs 2 (.a (.i .i64 cs.length)::.a (.b (decide ((cs.length:Int)<5)))::xs 8 []))) (h':=sfH cs) rfl (by kernel_rfl) λρ1 a1 w1 hR1 hw1=> ?_);have hg1:=Zjl hw1;refine Zda (Zpx (t:=true) (by rw[show a1.eval (.tmp 9)=.bool (decide ((cs.length:Int)<5)) from hR1.val (i:=9) rfl,i5]) (Ycd ?_));refine Zda (Zsq ?_);refine Zda (Zcm nilΓ_ok hR1 3 (kS:=[2,3,4,5,6,8]) (kH:=[2,3,5]) (dd:=[]) (nS:=18) (nH:=6) (s':=xs 2 (slP bs::slP bx::.a (.w 2)::.a (.w 3)::.a (.w 5)::.a .x::.a (.i .i64 cs.length)::xs 9 [])) (h':=[.no,.no,.row (zc prog 103) 103,.row (flA cs) 103,.no,.row #[.int .i64 cs.length] 3]) rfl (by kernel_rfl) λρ2 a2 w2 hR2 hw2=> ?_);have hg2:=hg1.trans (Zjl hw2);refine Zda (Zpq ?_)
  show OpsF _ _ _ (0::(List.range' 1 2++[])) _ _ _
  refine Zpf (i:=0) rfl rfl (Yki (Ye3 (k:=.i64) (e:=77) (dir:=.both) rfl rfl (by kernel_rfl) (by kernel_rfl) λw3 hg3=> ?_));have hcc:=World.alloc_heap_new w3 (.chan 0 #[] false 0 0 false);have hgc:=Zxl w3 (.chan 0 #[] false 0 0 false);have hR3:=((hR2.ge hg3).ge hgc).put 11 (y:=.a (.v (.chan (some w3.heap.size)))) (vv:=.chan (some w3.heap.size)) rfl;have hs3:=geAt (hg2.trans (hg3.trans hgc)) hs;have hx3:=geAt (hg2.trans (hg3.trans hgc)) hx;have hlc:∀c∈cs,c<w3.heap.size:=λc hc=>Nat.lt_of_lt_of_le (hI.lt c hc) (hg2.trans hg3).size
  have hvc:v.heap.size<=w3.heap.size:=(hR2.ge hg3).kept.size;have hsz:w3.heap.size<(w3.alloc (.chan 0 #[] false 0 0 false)).heap.size:=(Array.getElem?_eq_some_iff.1 hcc).1;generalize w3.alloc (.chan 0 #[] false 0 0 false)=w4 at hcc hgc hR3 hs3 hx3 hsz;generalize w3.heap.size=cc at hcc hR3 hlc hvc hsz;refine Zy2 nilΓ_ok hR3 1 2 rfl (kS:=[2,3,4,5,6,7,8]) (kH:=[2,3,5,7]) (dd:=[]) (nS:=18) (nH:=8) 3 (s':=xs 2 (slP bs::slP bx::.a (.w 2)::.a (.w 3)::.a (.w 5)::.a (.w 7)::.a (.i .i64 cs.length)::xs 9 [])) (h':=[.no,.no,.row (zc prog 103) 103,.row (flA cs) 103,.no,.row #[.int .i64 cs.length] 3,.no,.row #[.chan (some cc)] 102]) rfl (by kernel_rfl) λρ5 a5 w5 hR5 hw5=> ?_
  have hg5:=Zjl hw5;have hs5:=geAt hg5 hs3;have hx5:=geAt hg5 hx3;have hc5:=geAt hg5 hcc;refine Zda (Zcm nilΓ_ok hR5 0 (kS:=[2,3,4,5,6,7,8]) (kH:=[2,3,5,7]) (dd:=[3]) (nS:=18) (nH:=8) (s':=xs 2 (slP bs::slP bx::.a (.w 2)::.a (.w 3)::.a (.w 5)::.a (.w 7)::.a (.i .i64 cs.length)::xs 9 [])) (h':=[.no,.no,.row (zc prog 103) 103,.row (flA (cs++[cc])) 103,.no,.row #[.int .i64 cs.length] 3,.no,.row #[.chan (some cc)] 102]) rfl (by
   refine Eq.trans (b:=bif (decide (0<=((cs.length:Nat):Int))&&decide (((cs.length:Nat):Int)<5)) then some (xs 2 (slP bs::slP bx::.a (.w 2)::.a (.w 3)::.a (.w 5)::.a (.w 7)::.a (.i .i64 cs.length)::xs 9 []),[.no,.no,.row (zc prog 103) 103,.row ((flA cs).setIfInBounds (cs.length*1) (.chan (some cc))) 103,.no,.row #[.int .i64 cs.length] 3,.no,.row #[.chan (some cc)] 102]) else none) (by kernel_rfl) ?_;rw[i0,i5,flA_set hlt];rfl) λρ6 a6 w6 hR6 hw6=> ?_)
  have only3:∀(n:Nat) (C:Array Value) (t:TypeId),n∈[3]->([.no,.no,.row (zc prog 103) 103,.row (flA cs) 103,.no,.row #[.int .i64 cs.length] 3,.no,.row #[.chan (some cc)] 102]:List VB)[n]?=some (.row C t)->t=103:=λn C t hn e=>by
   obtain rfl:=jA.1 hn;cases e;rfl
  have hs6:=hw6.keep hR5 hs5 λn C t hn e=>tS C t (only3 n C t hn e)
  have hx6:=hw6.keep hR5 hx5 λn C t hn e=>tX C t (only3 n C t hn e)
  have hc6:=hw6.keep hR5 hc5 λn C t hn e=>by intro h;cases h
  obtain⟨hb7,-,hn7⟩:=hR6.row (n:=7) rfl;obtain⟨hb5,-,hn5⟩:=hR6.row (n:=5) rfl;have f7:=(hR6.val (i:=7) rfl:Is _ _ _ (.w 7) _).1;have f6:=(hR6.val (i:=6) rfl:Is _ _ _ (.w 5) _).1;have f2:a6.eval (.tmp 2)=.pointer (some ⟨bs,0,none⟩):=hR6.val (i:=2) rfl;have f3:a6.eval (.tmp 3)=.pointer (some ⟨bx,0,none⟩):=hR6.val (i:=3) rfl;have sep:∀(n:Nat) (C:Array Value),([.no,.no,.row (zc prog 103) 103,.row (flA (cs++[cc])) 103,.no,.row #[.int .i64 cs.length] 3,.no,.row #[.chan (some cc)] 102]:List VB)[n]?=some (.row C 103)->(ρ6 n).a≠cc/\(ρ6 n).a≠(ρ6 7).a/\(ρ6 n).a≠bs/\(ρ6 n).a≠bx/\(ρ6 n).a≠(ρ6 5).a:=λn C e=>by
   have h1:=(hR6.row (n:=n) e).1;refine⟨λe'=> ?_,λe'=> ?_,λe'=> ?_,λe'=> ?_,λe'=> ?_⟩
   ·rw[e',hc6]at h1;cases h1
   ·rw[e',hb7]at h1;exact absurd (Obj.cells.inj (Q5 h1)).2.1 (by decide)
   ·rw[e',hs6]at h1;exact absurd (Obj.cells.inj (Q5 h1)).2.1 (by decide)
   ·rw[e',hx6]at h1;exact absurd (Obj.cells.inj (Q5 h1)).2.1 (by decide)
   ·rw[e',hb5]at h1;exact absurd (Obj.cells.inj (Q5 h1)).2.1 (by decide)
  refine Zpq ?_
  show OpsF _ _ _ [0,1] _ _ _
  refine Zpf (i:=0) rfl rfl (Yki (Zvy rfl (A:=#[]) (by simp) (B:=#[.pointer (some ⟨(ρ6 7).a,0,none⟩),.pointer (some ⟨bs,0,none⟩),.pointer (some ⟨bx,0,none⟩),.pointer (some ⟨(ρ6 5).a,0,none⟩)]) (by simp[f7,f2,f3,f6]) λw7 hg7=> ?_));have hR7:=(hR6.ge hg7).put 15 (y:=.a (.v (.func (.func 74) #[] #[.pointer (some ⟨(ρ6 7).a,0,none⟩),.pointer (some ⟨bs,0,none⟩),.pointer (some ⟨bx,0,none⟩),.pointer (some ⟨(ρ6 5).a,0,none⟩)]))) (vv:=.func (.func 74) #[] #[.pointer (some ⟨(ρ6 7).a,0,none⟩),.pointer (some ⟨bs,0,none⟩),.pointer (some ⟨bx,0,none⟩),.pointer (some ⟨(ρ6 5).a,0,none⟩)]) rfl;have hs7:=geAt hg7 hs6;have hx7:=geAt hg7 hx6;have hb7:=geAt hg7 hb7;have hb5:=geAt hg7 hb5;have nS:S≠#[]:=λe=>by have:=Ydk hS;rw[e]at this;simp at this
  have nX:X≠#[]:=λe=>by
   have:X.size=40:=by rw[hX.layLen];kernel_rfl
   rw[e]at this;simp at this
  refine Zpf (i:=1) rfl rfl (opF_go (c:=cc) (val:=.agg (Ubc prog S X cs.length)) (L:=λk=>k=(ρ6 7).a\/k=bs\/k=bx\/k=(ρ6 5).a) (λc hc=>by cases hc) (by intro h;cases h) (run_go rfl rfl (hR7.val (i:=15) rfl)) ⟨0,false,geAt hg7 hc6⟩ (λk hk=> ?_) (λG₁ w₁ hfit hF hsee=> ?_) λw8 hFc hk8 hsee8=> ?_)
  ·rcases hk with rfl|rfl|rfl|rfl
   ·exact⟨_,_,_,by simp,hb7⟩
   ·exact⟨_,_,_,nS,hs7⟩
   ·exact⟨_,_,_,nX,hx7⟩
   ·exact⟨_,_,_,by simp,hb5⟩
  ·exact kid_ok hS hX hG hlt hfit hF (hsee _ _ _ _ (.inl rfl) hb7) (hsee _ _ _ _ (.inr (.inl rfl)) hs7) (hsee _ _ _ _ (.inr (.inr (.inl rfl))) hx7) (hsee _ _ _ _ (.inr (.inr (.inr rfl))) hb5) (by simp)
  have hR8:=hR7.lose hk8 (λk hk=>by
   rcases hk with rfl|rfl|rfl|rfl|rfl
   ·exact hvc
   ·exact hn7
   ·exact hI.ns
   ·exact hI.nx
   ·exact hn5) [2,3,4,5,8] [2,3] 4 rfl (by kernel_rfl) (λn C t hn e he=>by
   have ht:t=103:=by simp only[List.mem_cons,List.not_mem_nil,or_false]at hn;rcases hn with rfl|rfl<;>(cases e;rfl)
   subst ht;obtain⟨q1,q2,q3,q4,q5⟩:=sep n C e;rcases he with he|he|he|he|he
   ·exact q1 he
   ·exact q2 he
   ·exact q3 he
   ·exact q4 he
   ·exact q5 he)
  obtain⟨frs8,hs8⟩:=hsee8 _ _ _ _ (.inr (.inl rfl)) hs7;obtain⟨frx8,hx8⟩:=hsee8 _ _ _ _ (.inr (.inr (.inl rfl))) hx7;have hz8:cc<w8.heap.size:=Nat.lt_of_lt_of_le (Nat.lt_of_lt_of_le hsz (Nat.le_trans hg5.size hw6.1.size)) (Nat.le_trans hg7.size hk8.size);refine Zcm nilΓ_ok hR8 0 (kS:=[2,3,4,5,8]) (kH:=[2,3]) (dd:=[]) (nS:=18) (nH:=4) (s':=sfS bs bx (IntKind.i64.wrap ((cs.length:Int)+1))) (h':=sfH (cs++[cc])) rfl (by kernel_rfl) λρ9 a9 w9 hR9 hw9=> ?_
  have hg9:=Zjl hw9;rw[show IntKind.i64.wrap ((cs.length:Int)+1)=(((cs++[cc]).length:Nat):Int) by rw[w64 (by omega)];simp]at hR9;have hnc:cc ∉ cs:=λh=>by have:=hlc cc h;omega
  refine ih (cs++[cc]) ρ9 a9 w9 _ (by simp;omega) ⟨hR9,⟨_,geAt hg9 hs8⟩,⟨_,geAt hg9 hx8⟩,hI.ns,hI.nx,λc hc=> ?_,⟨?_,λc hc=> ?_,λc hc=> ?_,λi c hi=> ?_,λk hk=> ?_⟩⟩
  ·rcases List.mem_append.1 hc with h|h
   ·have:=hlc c h;have:=hg9.size;omega
   ·rw[jA.1 h];have:=hg9.size;omega
  ·rw[List.nodup_append];exact⟨hI.pr.nd,by simp,λx hx y hy=>by rw[jA.1 hy];rintro rfl;exact hnc hx⟩
  ·rcases List.mem_append.1 hc with h|h
   ·exact hI.pr.new c h
   ·rw[jA.1 h];exact hvc
  ·rcases List.mem_append.1 hc with h|h
   ·exact hI.pr.was c h
   ·rw[jA.1 h,<- hI.pr.no cc hnc];exact hFc
  ·(try dsimp only)
   by_cases hi':i<cs.length
   ·rw[List.getElem?_append_left hi']at hi;rw[if_neg (λe=>hnc (by rw[<- e];exact List.mem_of_getElem? hi))];exact hI.pr.yes i c hi
   ·rw[List.getElem?_append_right (by omega)]at hi;cases hj:i - cs.length with
    |zero=>
     rw[hj]at hi;simp only[List.getElem?_cons_zero,Q8]at hi;subst hi;obtain rfl:i=cs.length:=by omega
     rw[if_pos rfl]
    |succ j=>rw[hj]at hi;simp at hi
  ·(try dsimp only)
   rw[List.mem_append,not_or]at hk;rw[if_neg (λe=>hk.2 (by rw[e];simp))];exact hI.pr.no k hk.1
end
end Go.Proofs.YtefjogahegolbaaDoor
