/- Spreads by their numbers. -/
import Derived.Test.YtdfefaanfiheoaaGreatDoorProg
import Derived.Test.YtdfefaanfiheoaaGreatDoorCxH
set_option linter.unusedVariables false
set_option linter.unusedSimpArgs false
open _root_.Array renaming getElem?_setIfInBounds->jA
namespace Go.Proofs.YtdfefaanfiheoaaGreatDoor
open Go.ChangeShapes Go.WideShapes Go.ChangeAt Go.RowKit Ve Vc
open Tryz renaming prog -> PZ
open IntKind (i64)
set_option maxRecDepth 100000
noncomputable section
variable {mn:Md}
theorem Yn8{r:Array Value}{i j:Nat}(m:Int)(h:i≠j):num (adN r i m) j=num r j:=by unfold adN num;rw[jA,if_neg h]
theorem Ztz(X:Array Value):num (Ub1 PZ X) 0=num X 0/\num (Ub1 PZ X) 1=IntKind.i8.wrap (num X 1+1)/\∀i,i<36->num (Ub1 PZ X) (3+i)=0:=by
 have hz:(zc PZ 132).size=40:=by kernel_rfl
 have hc:(List.range 36).all (λk=>match (zc PZ 132)[3+k]? with|some (.int .i64 0)=>true|_=>false)=true:=by kernel_rfl
 unfold Ub1;refine⟨?_,?_,λi hi=> ?_⟩
 ·unfold num;rw[jA,if_neg (by omega),jA,if_neg (by omega),jA,if_neg (by omega),jA,if_pos rfl,if_pos (by omega)]
 ·unfold num;rw[jA,if_neg (by omega),jA,if_neg (by omega),jA,if_pos rfl,if_pos (by simp;omega)]
 ·unfold num;rw[jA,if_neg (by omega),jA,if_neg (by omega),jA,if_neg (by omega),jA,if_neg (by omega)];have:=List.all_eq_true.1 hc i (List.mem_range.2 hi);split at this
  ·rename_i e;rw[e]
  ·cases this
theorem wayF_low(S X:Array Value)(t:Int)(k:Nat)(r:Array Value)(w j:Nat)(hj:j<3):num (wayF S X t k r w) j=num r j:=by unfold wayF;cases decide (Zag (k:Int) (w:Int) S<0)<;>exact Yn8 _ (by omega)
theorem Yhg(S X:Array Value){j:Nat}(hj:j<3):num (Ubk PZ S X) j=num (Ub1 PZ X) j:=by unfold Ubk;refine Zkt (λ_ (r:Array Value)=>num r j=num (Ub1 PZ X) j) rfl (λk s _ hs=> ?_) 36 (Nat.le_refl _);refine Eq.trans ?_ hs;unfold Ue6;cases Zal (k:Int) S with|false=>exact Yn8 _ (by omega)|true=>exact Zkt (λ_ (r:Array Value)=>num r j=num s j) rfl (λw r _ hr=>(wayF_low S X _ k r w j hj).trans hr) 5 (Nat.le_refl _)
theorem Zoe{i:Nat}(h2:2<=i)(h:i<40):(lay PZ 132)[i]?=some 3:=by
 have hc:(List.range 40).all (λi=>decide (i<2)||(match (lay PZ 132)[i]? with|some 3=>true|_=>false))=true:=by kernel_rfl
 have:=List.all_eq_true.1 hc i (List.mem_range.2 h);rw[Bool.or_eq_true,decide_eq_true_eq]at this;rcases this with h|h
 ·omega
 ·split at h
  ·assumption
  ·cases h
theorem Yid:(lay PZ 132)[0]?=some (kN .i8)/\(lay PZ 132)[1]?=some (kN .i8):=⟨by kernel_rfl,by kernel_rfl⟩
theorem Zxd{r:Array Value}(h:WT PZ 132 r):r.size=40:=by rw[h.layLen];exact Ycc.2
theorem Zpd{r:Array Value}(h:WT PZ 132 r){i:Nat}{k:IntKind}{n:Int}(hi:(lay PZ 132)[i]?=some (kN k))(hn:k.min<=n/\n<=k.max):WT PZ 132 (r.setIfInBounds i (.int k n)):=by
 constructor
 ·rw[Array.toList_setIfInBounds,List.map_set,h.1];refine List.ext_getElem? λj=> ?_
  by_cases hij:i=j
  ·subst hij;rw[List.getElem?_set_self (List.getElem?_eq_some_iff.1 hi).1,hi];rfl
  ·rw[List.getElem?_set_ne hij]
 ·intro v hv;rw[Array.toList_setIfInBounds]at hv;rcases List.mem_or_eq_of_mem_set hv with h1|rfl
  ·exact h.2 v h1
  ·exact hn
theorem zero64:i64.min<=(0:Int)/\(0:Int)<=i64.max:=by have e1:i64.min=-9223372036854775808:=rfl;have e2:i64.max=9223372036854775807:=rfl;omega
theorem restV_wt{S X:Array Value}(hX:WT PZ 132 X):WT PZ 132 (Ucd S X):=by
 have h1:WT PZ 132 (folds (Uc6 S) X 36):=Zkt (λ_ r=>WT PZ 132 r) hX (λk r hk h=>by
  unfold Uc6;cases Zad S (k:Int)
  ·exact Zpd (k:=.i64) h (Zoe (by omega) (by omega)) zero64
  ·exact Zpd (k:=.i64) h (Zoe (by omega) (by omega)) (Zgw .i64 _)) 36 (Nat.le_refl _)
 unfold Ucd Uce;exact Zpd (k:=.i8) (Zpd (k:=.i64) h1 (Zoe (by omega) (by omega)) (Zgw .i64 _)) Yid.2 (Zgw .i8 _)
theorem togV_wt{N Y:Array Value}(h:WT PZ 132 N):WT PZ 132 (togV N Y):=by unfold togV;exact Ybp (Zkt (λ_ r=>WT PZ 132 r) (wt_adN h (Zoe (by omega) (by omega))) (λk r _ h=>Ybp h (by omega)) 36 (Nat.le_refl _)) (by omega)
theorem hopV_wt{N Y:Array Value}(h:WT PZ 132 N):WT PZ 132 (hopV N Y):=by unfold hopV;cases Uap Y (zc PZ 132) with|true=>rw[Bool.not_true,Q2];exact h|false=>rw[Bool.not_false,Q1];exact togV_wt h
theorem drV_wt{S X:Array Value}(hX:WT PZ 132 X)(n:Nat):WT PZ 132 (drV S X n):=by induction n with|zero=>exact restV_wt hX|succ n ih=>have e:drV S X (n+1)=hopV (drV S X n) (Ubd PZ S X n):=rfl;rw[e];exact hopV_wt ih
theorem Zur{S X:Array Value}(hX:WT PZ 132 X):WT PZ 132 (Ubk PZ S X):=by
 have x0:=(hX.int (o:=0) (k:=.i8) Yid.1).2;have x2:=(hX.int (o:=2) (k:=.i64) (Zoe (by omega) (by omega))).2;have h0:WT PZ 132 (Ub1 PZ X):=by unfold Ub1;exact Zpd (k:=.i64) (Zpd (k:=.i64) (Zpd (k:=.i8) (Zpd (k:=.i8) (WT.zero (by kernel_rfl)) Yid.1 x0) Yid.2 (Zgw .i8 _)) (Zoe (by omega) (by omega)) x2) (Zoe (by omega) (by omega)) (Zgw .i64 _)
 unfold Ubk;refine Zkt (λ_ r=>WT PZ 132 r) h0 (λk r _ h=> ?_) 36 (Nat.le_refl _);unfold Ue6;cases Zal (k:Int) S
 ·exact Ybp h (by omega)
 ·refine Zkt (λ_ r=>WT PZ 132 r) h (λw r _ h=> ?_) 5 (Nat.le_refl _);unfold wayF;cases decide (Zag (k:Int) (w:Int) S<0)<;>exact Ybp h (by omega)
theorem Ysh{A C:Array Value}(hA:WT PZ 132 A)(hC:WT PZ 132 C)(h:∀j,j<40->num A j=num C j):A=C:=by
 refine Array.ext_getElem? λj=> ?_
 by_cases hj:j<40
 ·by_cases h2:2<=j
  ·rw[(hA.int (o:=j) (k:=.i64) (Zoe h2 hj)).1,(hC.int (o:=j) (k:=.i64) (Zoe h2 hj)).1,h j hj]
  ·have:(lay PZ 132)[j]?=some (kN .i8):=by
    match j,h2 with|0,_=>exact Yid.1|1,_=>exact Yid.2|_+2,h=>omega
   rw[(hA.int this).1,(hC.int this).1,h j hj]
 ·rw[Array.getElem?_eq_none (by rw[Zxd hA];omega),Array.getElem?_eq_none (by rw[Zxd hC];omega)]
theorem Ziy(r:Array Value)(i:Nat)(k:IntKind)(n:Int)(j:Nat):num (r.setIfInBounds i (.int k n)) j=if i=j/\i<r.size then n else num r j:=by
 unfold num;rw[jA]
 by_cases hij:i=j
 ·subst hij
  by_cases hlt:i<r.size
  ·rw[if_pos rfl,if_pos hlt,if_pos ⟨rfl,hlt⟩]
  ·rw[if_pos rfl,if_neg hlt,if_neg (λh=>hlt h.2),Array.getElem?_eq_none (by omega)]
 ·rw[if_neg hij,if_neg (λh=>hij h.1)]
def Ud3(S X:Array Value)(n:Nat):Array Value:=folds (Uc6 S) X n
theorem Yr5(S X:Array Value)(n:Nat):Ud3 S X (n+1)=Uc6 S (Ud3 S X n) n:=Zdg ..
theorem Yjg{S X:Array Value}(hz:X.size=40):∀n,n<=36->(Ud3 S X n).size=40/\∀j,num (Ud3 S X n) j=if 3<=j/\j<3+n then (if Zad S ((j - 3:Nat):Int)=true then i64.wrap (num X j*12) else 0) else num X j
 |0,_=>⟨hz,λj=>by rw[if_neg (by omega)];rfl⟩
 | n+1,hn=>by
  obtain⟨h1,h2⟩:=Yjg (S:=S) (X:=X) hz n (by omega);have hi:num (Ud3 S X n) (3+n*1)=num X (3+n*1):=by rw[h2,if_neg (by omega)]
  rw[Yr5];generalize Ud3 S X n=q at h1 h2 hi|-
  refine⟨by unfold Uc6;cases Zad S (n:Int)<;>simp[h1],λj=> ?_⟩;unfold Uc6;cases hl:Zad S (n:Int) with
  | false=>
   rw[Q2,Ziy]
   by_cases e:3+n*1=j
   ·subst e;rw[if_pos ⟨rfl,by omega⟩,if_pos (by omega),show 3+n*1 - 3=n by omega,hl,if_neg (by simp)]
   ·rw[if_neg (λh=>e h.1),h2]
    by_cases h3:3<=j/\j<3+n
    ·rw[if_pos h3,if_pos (show 3<=j/\j<3+(n+1) by omega)]
    ·rw[if_neg h3,if_neg (show ¬(3<=j/\j<3+(n+1)) by omega)]
  | true=>
   rw[Q1,Ziy,hi]
   by_cases e:3+n*1=j
   ·subst e;rw[if_pos ⟨rfl,by omega⟩,if_pos (by omega),show 3+n*1 - 3=n by omega,hl,if_pos rfl]
   ·rw[if_neg (λh=>e h.1),h2]
    by_cases h3:3<=j/\j<3+n
    ·rw[if_pos h3,if_pos (show 3<=j/\j<3+(n+1) by omega)]
    ·rw[if_neg h3,if_neg (show ¬(3<=j/\j<3+(n+1)) by omega)]
theorem Ys7{f g:Nat->Int}:∀n,(∀k,k<n->cg (f k) (g k))->cg (sumI f n) (sumI g n)
 |0,_=>.refl _
 |n+1,h=>(Ys7 n λk hk=>h k (by omega)).add (h n (by omega))
end
end Go.Proofs.YtdfefaanfiheoaaGreatDoor
