/- An hour on: the starter takes what flows by each way, and adds it. -/
import Derived.Test.YtefjogahegolbaaDoorProg
import Derived.Test.YtefjogahegolbaaDoorCxFlows
set_option linter.unusedVariables false
set_option linter.unusedSimpArgs false
open _root_.List renaming getElem?_eq_some_iff->jA
namespace Go.Proofs.YtefjogahegolbaaDoor
open Go.ChangeShapes Go.WideShapes Go.ChangeAt Go.RowKit Ve Vc
open Tryd (prog)
set_option maxRecDepth 100000
noncomputable section
variable {mn:Md}
theorem Zul:(List.range 40).all (λi=>decide (i<3)||(match (lay prog 77)[i]? with|some 3=>true|_=>false))=true/\(lay prog 77).length=40:=⟨by kernel_rfl,by kernel_rfl⟩
theorem Zvg{r:Array Value}{i:Nat}{m:Int}(h:WT prog 77 r)(h3:3<=i):WT prog 77 (adN r i m):=by
 by_cases hi:i<40
 ·refine wt_adN h ?_;have:=List.all_eq_true.1 Zul.1 i (List.mem_range.2 hi);rw[Bool.or_eq_true,decide_eq_true_eq]at this;rcases this with h|h
  ·omega
  ·split at h
   ·assumption
   ·cases h
 ·have:adN r i m=r:=by
   unfold adN;refine Array.ext_getElem? λj=> ?_
   rw[Array.getElem?_setIfInBounds];have hz:r.size=40:=by rw[h.layLen];exact Zul.2
   by_cases hij:i=j
   ·subst hij;rw[if_pos rfl,if_neg (by omega),Array.getElem?_eq_none (by omega)]
   ·rw[if_neg hij]
  rw[this];exact h
theorem flowV_wt(S X:Array Value)(w:Nat):WT prog 77 (Ubc prog S X w):=by
 unfold Ubc;refine Zhi (λ_ r=>WT prog 77 r) (WT.zero (by kernel_rfl)) (λk r _ h=> ?_) 36 (Nat.le_refl _);split
 ·unfold Ueq;cases Ua3 S (k:Int) w != -1
  ·exact Zvg h (by omega)
  ·exact Zvg h (by omega)
 ·exact h
def hopV(N Y:Array Value):Array Value:=bif !(Ubg Y (zc prog 77)) then togV N Y else N
def drV(S X:Array Value):Nat->Array Value
 |0=>Ucd S X
 |i+1=>hopV (drV S X i) (Ubc prog S X i)
def doS(cs:List Nat)(i:Int):List SV:=xs 4 (.a (.w 2)::.a .x::.a (.w 10)::xs 9 (.a (.g (flA cs) 103)::.a (.i .i64 i)::xs 12 []))
def doH(N:Array Value):List VB:=[.no,.no,.row (zc prog 77) 77,.no,.no,.no,.no,.no,.no,.no,.row N 77]
structure DoI (S X:Array Value) (v:World) (F:Vc.Fd) (cs:List Nat) (i:Nat) (ρ:Nat->Ad) (a:Act) (w:World) (F':Vc.Fd):Prop where
 rr:RR prog v ρ (doS cs i) (doH (drV S X i)) a w
 yes:∀j c,i<=j->cs[j]?=some c->F' c=some (.agg (Ubc prog S X j))
 gone:∀j c,j<i->cs[j]?=some c->F' c=none
 no:∀k,k ∉ cs->F' k=F k
abbrev doΓ:Cons:=mkΓ [(59,con Zjy),(60,con Zix)]
theorem doΓ_ok:ConsOkX mn prog (Uah mn prog) doΓ:=mKc (Zah Zxv) Zs6 (mKc (Zah Zwj) Zrl mKn)
theorem Zwv:EntX prog 58:=Zal (fn:=Tryd.f58)
theorem wt_flA{cs:List Nat}(h:cs.length=5):WT prog 103 (flA cs):=by match cs,h with|[c0,c1,c2,c3,c4],_=>refine⟨by kernel_rfl,λv hv=> ?_⟩;have:(flA [c0,c1,c2,c3,c4]).toList=[.chan (some c0),.chan (some c1),.chan (some c2),.chan (some c3),.chan (some c4)]:=rfl;rw[this]at hv;simp only[List.mem_cons,List.not_mem_nil,or_false]at hv;rcases hv with rfl|rfl|rfl|rfl|rfl<;>trivial
set_option maxHeartbeats 2000000 in
theorem Yj0{S X:Array Value}(hS:WT prog 35 S)(hX:WT prog 77 X)(hG:Ufv S X=true)(F:Vc.Fd)(v:World):
  Ua4 (md F) prog 39 #[.agg S,.agg X] v λr v'=>r=.agg (drV S X 5)/\Kept (λ_=>False) v v':=by
 refine Ykb (Ydc (c:=codeOf Tryd.f39) Tryd.func39 rfl ?_);have h0:S0 prog (.a (.v (.agg S))::.a (.v (.agg X))::us 28 []) { tmps:=#[.agg S,.agg X]++Array.replicate 28 undef,defers:=[] }:=S0.enter [.agg S,.agg X] 28;have h0:=(h0.set (i:=0) (y:=.a (.g S 35)) ⟨h0.val (i:=0) rfl,hS⟩).set (i:=1) (y:=.a (.g X 77)) ⟨h0.val (i:=1) rfl,hX⟩;refine Zda (Zcm doΓ_ok (h0.rr v) 3 (kS:=[2,3,4]) (kH:=[0,1,2]) (dd:=[]) (nS:=30) (nH:=3) (s':=xs 2 (.a (.w 0)::.a (.w 1)::.a (.w 2)::xs 25 [])) (h':=[.row S 35,.row X 77,.row (zc prog 77) 77]) rfl (by kernel_rfl) λρ1 a1 v1 hR1 hw1=> ?_);refine Zda (Zpq ?_)
 show OpsF _ _ _ (List.range' 0 2++(2::(List.range' 3 2++[]))) _ _ _
 refine Zy2 doΓ_ok hR1 0 2 rfl (kS:=[2,3,4,10,11]) (kH:=[0,1,2]) (dd:=[]) (nS:=30) (nH:=3) 0 (s':=xs 2 (.a (.w 0)::.a (.w 1)::.a (.w 2)::xs 5 (.a (.g S 35)::.a (.g X 77)::xs 18 []))) (h':=[.row S 35,.row X 77,.row (zc prog 77) 77]) rfl (by kernel_rfl) λρ2 a2 v2 hR2 hw2=> ?_
 have f10:=(hR2.val (i:=10) rfl:Is _ _ _ (.g S 35) _).1;have f11:=(hR2.val (i:=11) rfl:Is _ _ _ (.g X 77) _).1;refine Zpf (i:=2) rfl rfl (Yjw rfl rfl rfl Zwv (args:=#[.agg S,.agg X]) (by simp[f10,f11]) (R:=λr v' F'=>∃cs:List Nat,cs.length=5/\r=.agg (flA cs)/\Prom S X v2 F cs F'/\Ge v2 v') (λv₁ hg=>(Yd8 hS hX hG v₁ F).mono λr v' F' ⟨cs,q1,q2,q3,q4⟩=>⟨cs,q1,q2,⟨q3.nd,λc hc=>Nat.le_trans hg.size (q3.new c hc),q3.was,q3.yes,q3.no⟩,hg.trans q4.below⟩) λr v3 F3 h3=> ?_);obtain⟨cs,h5,rfl,hP,hg3⟩:=h3;obtain⟨c0,c1,c2,c3,c4,hcs⟩:∃c0 c1 c2 c3 c4,cs=[c0,c1,c2,c3,c4]:=by match cs,h5 with|[c0,c1,c2,c3,c4],_=>exact⟨c0,c1,c2,c3,c4,rfl⟩
 have hR3:=(hR2.ge hg3).put 12 (y:=.a (.g (flA cs) 103)) (vv:=.agg (flA cs)) ⟨rfl,wt_flA h5⟩;refine Zy2 doΓ_ok hR3 3 2 rfl (kS:=[2,3,4,5]) (kH:=[0,1,2,6]) (dd:=[]) (nS:=30) (nH:=7) 5 (s':=xs 2 (.a (.w 0)::.a (.w 1)::.a (.w 2)::.a (.w 6)::xs 24 [])) (h':=[.row S 35,.row X 77,.row (zc prog 77) 77,.no,.no,.no,.row (flA cs) 103]) rfl (by kernel_rfl) λρ4 a4 v4 hR4 hw4=> ?_
 refine Zda (Zcm doΓ_ok hR4 5 (kS:=[4,5,6]) (kH:=[2,6,10]) (dd:=[]) (nS:=30) (nH:=11) (s':=xs 4 (.a (.w 2)::.a (.w 6)::.a (.w 10)::xs 23 [])) (h':=[.no,.no,.row (zc prog 77) 77,.no,.no,.no,.row (flA cs) 103,.no,.no,.no,.row (Ucd S X) 77]) rfl (by kernel_rfl) λρ5 a5 v5 hR5 hw5=> ?_);refine Zda (Zda (Zcm doΓ_ok hR5 0 (kS:=[4,6,16,17]) (kH:=[2,10]) (dd:=[]) (nS:=30) (nH:=11) (s':=doS cs 0) (h':=doH (Ucd S X)) rfl (by kernel_rfl) λρ6 a6 v6 hR6 hw6=> ?_));have hvc:∀c∈cs,v.heap.size<=c:=λc hc=>Nat.le_trans hR2.kept.size (hP.new c hc)
 have hI:DoI S X v F cs 0 ρ6 a6 v6 F3:=⟨hR6,λj c _=>hP.yes j c,λj c h=>(by omega),hP.no⟩;clear hR1 hR2 hR3 hR4 hR5 hR6 hw1 hw2 hw4 hw5 hw6 h0 f10 f11;refine Zsq (Zok 6 ?_);refine(?_:∀(d i:Nat) (ρ:Nat->Ad) (a:Act) (w:World) (F':Vc.Fd),i+d=5->DoI S X v F cs i ρ a w F'->Udk none prog _ _ (d+1) a w F') 5 0 ρ6 a6 v6 F3 rfl hI;clear hI;intro d
 induction d with
 | zero=>
  intro i ρ a w F' hd hI;obtain rfl:i=5:=by omega
  have hR:=hI.rr;refine Zda (Zcm doΓ_ok hR 0 (kS:=[4,6,18]) (kH:=[2,10]) (dd:=[]) (nS:=30) (nH:=11) (s':=xs 4 (.a (.w 2)::.a .x::.a (.w 10)::xs 11 (.a (.b false)::xs 11 []))) (h':=doH (drV S X 5)) rfl (by kernel_rfl) λρ1 a1 w1 hR1 hw1=> ?_);refine Zda (Zpx (t:=false) (hR1.val (i:=18) rfl) (Yhc ?_));refine Zda (Zcm doΓ_ok hR1 0 (kS:=[4]) (kH:=[2]) (dd:=[2]) (nS:=30) (nH:=3) (s':=xs 4 (.a (.w 2)::xs 25 [])) (h':=[.no,.no,.row (drV S X 5) 77]) rfl (by kernel_rfl) λρ2 a2 w2 hR2 hw2=>Yku ?_);refine⟨.inr rfl,hR2.defers,λv₁ hg=> ?_⟩;obtain⟨r,q1,q2⟩:=hR2.result (fn:=Tryd.f39) (y:=.g (drV S X 5) 77) (by kernel_rfl) v₁ hg;refine⟨r,q1,funext λk=> ?_,q2.1,hR2.kept.trans (.of_below hg)⟩
  by_cases hk:k∈cs
  ·obtain⟨j,hj⟩:=List.mem_iff_getElem?.1 hk;have hlt:=(jA.1 hj).1;rw[hI.gone j k (by omega) hj,hP.was k hk]
  ·exact hI.no k hk
 | succ d ih=>
  intro i ρ a w F' hd hI;have hlt:i<5:=by omega
  have hR:=hI.rr;obtain⟨c,hc⟩:∃c,cs[i]?=some c:=⟨cs[i],List.getElem?_eq_getElem (by omega)⟩;have hcm:=List.mem_of_getElem? hc;refine Zda (Zcm doΓ_ok hR 0 (kS:=[4,6,16,17,18]) (kH:=[2,10]) (dd:=[]) (nS:=30) (nH:=11) (s':=xs 4 (.a (.w 2)::.a .x::.a (.w 10)::xs 9 (.a (.g (flA cs) 103)::.a (.i .i64 i)::.a (.b (decide ((i:Int)<5)))::xs 11 []))) (h':=doH (drV S X i)) rfl (by kernel_rfl) λρ1 a1 w1 hR1 hw1=> ?_);refine Zda (Zpx (t:=true) (by rw[show a1.eval (.tmp 18)=.bool (decide ((i:Int)<5)) from hR1.val (i:=18) rfl,Q3 (by omega)]) (Ycd ?_));refine Zda (Zsq ?_);refine Zda (Zcm doΓ_ok hR1 0 (kS:=[4,6,8,16,17]) (kH:=[2,10]) (dd:=[]) (nS:=30) (nH:=11) (s':=xs 4 (.a (.w 2)::.a .x::.a (.w 10)::.a .x::.a (.v (.chan (some c)))::xs 7 (.a (.g (flA cs) 103)::.a (.i .i64 i)::xs 12 []))) (h':=doH (drV S X i)) rfl (by
   generalize drV S X i=N;subst hcs;have hi:i=0\/i=1\/i=2\/i=3\/i=4:=by omega
   rcases hi with rfl|rfl|rfl|rfl|rfl<;>(cases hc;show _=_;kernel_rfl)) λρ2 a2 w2 hR2 hw2=> ?_)
  refine Zda (Zpq ?_)
  show OpsF _ _ _ (List.range' 0 1++(1::(List.range' 2 2++[]))) _ _ _
  refine Zy2 doΓ_ok hR2 0 1 rfl (kS:=[4,6,16,17,20]) (kH:=[2,10]) (dd:=[]) (nS:=30) (nH:=11) 0 (s':=xs 4 (.a (.w 2)::.a .x::.a (.w 10)::xs 9 (.a (.g (flA cs) 103)::.a (.i .i64 i)::xs 2 (.a (.v (.chan (some c)))::xs 9 [])))) (h':=doH (drV S X i)) rfl (by kernel_rfl) λρ3 a3 w3 hR3 hw3=> ?_
  refine Zpf (i:=1) rfl rfl (opF_recv (c:=c) (val:=.agg (Ubc prog S X i)) (z:=.agg (zc prog 77)) (λc hc=>by cases hc) (run_recv (dir:=.both) (e:=77) rfl (hR3.val (i:=20) rfl) (by kernel_rfl) (by kernel_rfl)) (hI.yes i c (Nat.le_refl _) hc) λw4 hnc hk4=> ?_);have hR4:=(hR3.lose hk4 (λk hk=>by rw[hk];exact hvc c hcm) [4,6,16,17] [2,10] 11 rfl (by kernel_rfl) (λn C t hn e he=>hnc C t (0,0) (by rw[<- he];exact(hR3.row e).1))).put 21 (y:=.a (.g (Ubc prog S X i) 77)) (vv:=.agg (Ubc prog S X i)) ⟨rfl,flowV_wt S X i⟩;refine Zy2 doΓ_ok hR4 2 2 rfl (kS:=[4,6,9,16,17]) (kH:=[2,10,13]) (dd:=[]) (nS:=30) (nH:=14) 4 (s':=xs 4 (.a (.w 2)::.a .x::.a (.w 10)::xs 2 (.a (.w 13)::xs 6 (.a (.g (flA cs) 103)::.a (.i .i64 i)::xs 12 [])))) (h':=doH (drV S X i)++[.no,.no,.row (Ubc prog S X i) 77]) rfl (by kernel_rfl) λρ5 a5 w5 hR5 hw5=> ?_
  refine Zda (Zcm doΓ_ok hR5 0 (kS:=[4,6,9,16,17,24]) (kH:=[2,10,13]) (dd:=[]) (nS:=30) (nH:=14) (s':=xs 4 (.a (.w 2)::.a .x::.a (.w 10)::xs 2 (.a (.w 13)::xs 6 (.a (.g (flA cs) 103)::.a (.i .i64 i)::xs 6 (.a (.b (!(Ubg (Ubc prog S X i) (zc prog 77))))::xs 5 []))))) (h':=doH (drV S X i)++[.no,.no,.row (Ubc prog S X i) 77]) rfl (by kernel_rfl) λρ6 a6 w6 hR6 hw6=> ?_);refine WpF.mono (Q:=λe a7 w7 F7=>e=.normal/\F7=(λk=>if k=c then none else F' k)/\∃ρ7,RR prog v ρ7 (doS cs i) (doH (drV S X (i+1))) a7 w7) ?_ ?_
  ·have hstep:drV S X (i+1)=bif !(Ubg (Ubc prog S X i) (zc prog 77)) then togV (drV S X i) (Ubc prog S X i) else drV S X i:=rfl
   have h24:a6.eval (.tmp 24)=.bool (!(Ubg (Ubc prog S X i) (zc prog 77))):=hR6.val (i:=24) rfl;cases hb: !(Ubg (Ubc prog S X i) (zc prog 77)) with
   |true=>rw[hb]at hstep h24;rw[hstep,Q1];refine Zpx (t:=true) h24 ?_;rw[if_pos rfl];exact Zcm doΓ_ok hR6 0 (kS:=[4,6,16,17]) (kH:=[2,10]) (dd:=[10]) (nS:=30) (nH:=11) (s':=doS cs i) (h':=doH (togV (drV S X i) (Ubc prog S X i))) rfl (by kernel_rfl) λρ7 a7 w7 hR7 hw7=>⟨rfl,rfl,ρ7,hR7⟩
   |false=>rw[hb]at hstep h24;rw[hstep,Q2];exact Zpx (t:=false) h24 (Ycd ⟨rfl,rfl,ρ6,hR6.lose (E:=λ_=>False) (Kept.refl _ _) (λ_ h=>h.elim) [4,6,16,17] [2,10] 11 rfl (by kernel_rfl) (λ_ _ _ _ _ h=>h)⟩)
  rintro e a7 w7 F7 ⟨rfl,rfl,ρ7,hR7⟩;refine Zcm doΓ_ok hR7 0 (kS:=[4,6,16,17]) (kH:=[2,10]) (dd:=[]) (nS:=30) (nH:=11) (s':=doS cs (IntKind.i64.wrap ((i:Int)+1))) (h':=doH (drV S X (i+1))) rfl (by kernel_rfl) λρ8 a8 w8 hR8 hw8=> ?_
  rw[show IntKind.i64.wrap ((i:Int)+1)=((i+1:Nat):Int) by rw[w64 (by omega)];omega]at hR8;have hne:∀j c',j≠i->cs[j]?=some c'->c'≠c:=λj c' hj hj' e=>by
   subst e;have h1:=(jA.1 hj');have h2:=(jA.1 hc);exact hj ((List.getElem_inj (h₀:=h1.1) (h₁:=h2.1) hP.nd).1 (h1.2.trans h2.2.symm))
  refine ih (i+1) ρ8 a8 w8 _ (by omega) ⟨hR8,λj c' hj hj'=> ?_,λj c' hj hj'=> ?_,λk hk=> ?_⟩
  ·(try dsimp only)
   rw[if_neg (hne j c' (by omega) hj')];exact hI.yes j c' (by omega) hj'
  ·(try dsimp only)
   by_cases e:c'=c
   ·rw[if_pos e]
   ·rw[if_neg e];refine hI.gone j c' ?_ hj'
    by_cases hji:j=i
    ·subst hji;rw[hc]at hj';exact absurd (Q5 hj').symm e
    ·omega
  ·(try dsimp only)
   rw[if_neg λe=>hk (by rw[e];exact hcm)];exact hI.no k hk
end
end Go.Proofs.YtefjogahegolbaaDoor
