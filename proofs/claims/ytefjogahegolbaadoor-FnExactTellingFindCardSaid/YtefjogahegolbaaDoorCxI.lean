/- Spreads by their numbers. -/
import Derived.Test.YtefjogahegolbaaDoorProg
import Derived.Test.YtefjogahegolbaaDoorCxH
set_option linter.unusedVariables false
set_option linter.unusedSimpArgs false
open _root_.Array renaming getElem?_setIfInBounds->jA
namespace Go.Proofs.YtefjogahegolbaaDoor
open Go.ChangeShapes Go.WideShapes Go.ChangeAt Go.RowKit Ve Vc
open Tryd (prog)
open IntKind (i64)
set_option maxRecDepth 100000
noncomputable section
variable {mn:Md}
theorem Yf8{r:Array Value}{i j:Nat}(m:Int)(h:i≠j):num (adN r i m) j=num r j:=by unfold adN num;rw[jA,if_neg h]
theorem Zp5(X:Array Value):num (Ubx prog X) 0=num X 0/\num (Ubx prog X) 1=IntKind.i8.wrap (num X 1+1)/\∀i,i<36->num (Ubx prog X) (3+i)=0:=by
 have hz:(zc prog 77).size=40:=by kernel_rfl
 have hc:(List.range 36).all (λk=>match (zc prog 77)[3+k]? with|some (.int .i64 0)=>true|_=>false)=true:=by kernel_rfl
 unfold Ubx;refine⟨?_,?_,λi hi=> ?_⟩
 ·unfold num;rw[jA,if_neg (by omega),jA,if_neg (by omega),jA,if_neg (by omega),jA,if_pos rfl,if_pos (by omega)]
 ·unfold num;rw[jA,if_neg (by omega),jA,if_neg (by omega),jA,if_pos rfl,if_pos (by simp;omega)]
 ·unfold num;rw[jA,if_neg (by omega),jA,if_neg (by omega),jA,if_neg (by omega),jA,if_neg (by omega)];have:=List.all_eq_true.1 hc i (List.mem_range.2 hi);split at this
  ·rename_i e;rw[e]
  ·cases this
theorem wayF_low(S X:Array Value)(t:Int)(k:Nat)(r:Array Value)(w j:Nat)(hj:j<3):num (wayF S X t k r w) j=num r j:=by unfold wayF;cases decide (Zaf (k:Int) (w:Int) S<0)<;>exact Yf8 _ (by omega)
theorem Yay(S X:Array Value){j:Nat}(hj:j<3):num (Ubk prog S X) j=num (Ubx prog X) j:=by unfold Ubk;refine Zh6 (λ_ (r:Array Value)=>num r j=num (Ubx prog X) j) rfl (λk s _ hs=> ?_) 36 (Nat.le_refl _);refine Eq.trans ?_ hs;unfold Uet;cases Zal (k:Int) S with|false=>exact Yf8 _ (by omega)|true=>exact Zh6 (λ_ (r:Array Value)=>num r j=num s j) rfl (λw r _ hr=>(wayF_low S X _ k r w j hj).trans hr) 5 (Nat.le_refl _)
theorem Zlx{i:Nat}(h2:2<=i)(h:i<40):(lay prog 77)[i]?=some 3:=by
 have hc:(List.range 40).all (λi=>decide (i<2)||(match (lay prog 77)[i]? with|some 3=>true|_=>false))=true:=by kernel_rfl
 have:=List.all_eq_true.1 hc i (List.mem_range.2 h);rw[Bool.or_eq_true,decide_eq_true_eq]at this;rcases this with h|h
 ·omega
 ·split at h
  ·assumption
  ·cases h
theorem Ybk:(lay prog 77)[0]?=some (kN .i8)/\(lay prog 77)[1]?=some (kN .i8):=⟨by kernel_rfl,by kernel_rfl⟩
theorem Zs2{r:Array Value}(h:WT prog 77 r):r.size=40:=by rw[h.layLen];exact Zxa.2
theorem Zl7{r:Array Value}(h:WT prog 77 r){i:Nat}{k:IntKind}{n:Int}(hi:(lay prog 77)[i]?=some (kN k))(hn:k.min<=n/\n<=k.max):WT prog 77 (r.setIfInBounds i (.int k n)):=by
 constructor
 ·rw[Array.toList_setIfInBounds,List.map_set,h.1];refine List.ext_getElem? λj=> ?_
  by_cases hij:i=j
  ·subst hij;rw[List.getElem?_set_self (List.getElem?_eq_some_iff.1 hi).1,hi];rfl
  ·rw[List.getElem?_set_ne hij]
 ·intro v hv;rw[Array.toList_setIfInBounds]at hv;rcases List.mem_or_eq_of_mem_set hv with h1|rfl
  ·exact h.2 v h1
  ·exact hn
theorem zero64:i64.min<=(0:Int)/\(0:Int)<=i64.max:=by have e1:i64.min=-9223372036854775808:=rfl;have e2:i64.max=9223372036854775807:=rfl;omega
theorem restV_wt{S X:Array Value}(hX:WT prog 77 X):WT prog 77 (Ucb S X):=by
 have h1:WT prog 77 (folds (Uc5 S) X 36):=Zh6 (λ_ r=>WT prog 77 r) hX (λk r hk h=>by
  unfold Uc5;cases Zab S (k:Int)
  ·exact Zl7 (k:=.i64) h (Zlx (by omega) (by omega)) zero64
  ·exact Zl7 (k:=.i64) h (Zlx (by omega) (by omega)) (Zip .i64 _)) 36 (Nat.le_refl _)
 unfold Ucb Uce;exact Zl7 (k:=.i8) (Zl7 (k:=.i64) h1 (Zlx (by omega) (by omega)) (Zip .i64 _)) Ybk.2 (Zip .i8 _)
theorem togV_wt{N Y:Array Value}(h:WT prog 77 N):WT prog 77 (togV N Y):=by unfold togV;exact Zv5 (Zh6 (λ_ r=>WT prog 77 r) (wt_adN h (Zlx (by omega) (by omega))) (λk r _ h=>Zv5 h (by omega)) 36 (Nat.le_refl _)) (by omega)
theorem hopV_wt{N Y:Array Value}(h:WT prog 77 N):WT prog 77 (hopV N Y):=by unfold hopV;cases Ube Y (zc prog 77) with|true=>rw[Bool.not_true,Q2];exact h|false=>rw[Bool.not_false,Q1];exact togV_wt h
theorem drV_wt{S X:Array Value}(hX:WT prog 77 X)(n:Nat):WT prog 77 (drV S X n):=by induction n with|zero=>exact restV_wt hX|succ n ih=>have e:drV S X (n+1)=hopV (drV S X n) (Ubb prog S X n):=rfl;rw[e];exact hopV_wt ih
theorem Zqu{S X:Array Value}(hX:WT prog 77 X):WT prog 77 (Ubk prog S X):=by
 have x0:=(hX.int (o:=0) (k:=.i8) Ybk.1).2;have x2:=(hX.int (o:=2) (k:=.i64) (Zlx (by omega) (by omega))).2;have h0:WT prog 77 (Ubx prog X):=by unfold Ubx;exact Zl7 (k:=.i64) (Zl7 (k:=.i64) (Zl7 (k:=.i8) (Zl7 (k:=.i8) (WT.zero (by kernel_rfl)) Ybk.1 x0) Ybk.2 (Zip .i8 _)) (Zlx (by omega) (by omega)) x2) (Zlx (by omega) (by omega)) (Zip .i64 _)
 unfold Ubk;refine Zh6 (λ_ r=>WT prog 77 r) h0 (λk r _ h=> ?_) 36 (Nat.le_refl _);unfold Uet;cases Zal (k:Int) S
 ·exact Zv5 h (by omega)
 ·refine Zh6 (λ_ r=>WT prog 77 r) h (λw r _ h=> ?_) 5 (Nat.le_refl _);unfold wayF;cases decide (Zaf (k:Int) (w:Int) S<0)<;>exact Zv5 h (by omega)
theorem Ykl{A C:Array Value}(hA:WT prog 77 A)(hC:WT prog 77 C)(h:∀j,j<40->num A j=num C j):A=C:=by
 refine Array.ext_getElem? λj=> ?_
 by_cases hj:j<40
 ·by_cases h2:2<=j
  ·rw[(hA.int (o:=j) (k:=.i64) (Zlx h2 hj)).1,(hC.int (o:=j) (k:=.i64) (Zlx h2 hj)).1,h j hj]
  ·have:(lay prog 77)[j]?=some (kN .i8):=by
    match j,h2 with|0,_=>exact Ybk.1|1,_=>exact Ybk.2|_+2,h=>omega
   rw[(hA.int this).1,(hC.int this).1,h j hj]
 ·rw[Array.getElem?_eq_none (by rw[Zs2 hA];omega),Array.getElem?_eq_none (by rw[Zs2 hC];omega)]
theorem Zhn(r:Array Value)(i:Nat)(k:IntKind)(n:Int)(j:Nat):num (r.setIfInBounds i (.int k n)) j=if i=j/\i<r.size then n else num r j:=by
 unfold num;rw[jA]
 by_cases hij:i=j
 ·subst hij
  by_cases hlt:i<r.size
  ·rw[if_pos rfl,if_pos hlt,if_pos ⟨rfl,hlt⟩]
  ·rw[if_pos rfl,if_neg hlt,if_neg (λh=>hlt h.2),Array.getElem?_eq_none (by omega)]
 ·rw[if_neg hij,if_neg (λh=>hij h.1)]
def Ud3(S X:Array Value)(n:Nat):Array Value:=folds (Uc5 S) X n
theorem Ylf(S X:Array Value)(n:Nat):Ud3 S X (n+1)=Uc5 S (Ud3 S X n) n:=Zfm ..
theorem Ydz{S X:Array Value}(hz:X.size=40):∀n,n<=36->(Ud3 S X n).size=40/\∀j,num (Ud3 S X n) j=if 3<=j/\j<3+n then (if Zab S ((j - 3:Nat):Int)=true then i64.wrap (num X j*12) else 0) else num X j
 |0,_=>⟨hz,λj=>by rw[if_neg (by omega)];rfl⟩
 | n+1,hn=>by
  obtain⟨h1,h2⟩:=Ydz (S:=S) (X:=X) hz n (by omega);have hi:num (Ud3 S X n) (3+n*1)=num X (3+n*1):=by rw[h2,if_neg (by omega)]
  rw[Ylf];generalize Ud3 S X n=q at h1 h2 hi|-
  refine⟨by unfold Uc5;cases Zab S (n:Int)<;>simp[h1],λj=> ?_⟩;unfold Uc5;cases hl:Zab S (n:Int) with
  | false=>
   rw[Q2,Zhn]
   by_cases e:3+n*1=j
   ·subst e;rw[if_pos ⟨rfl,by omega⟩,if_pos (by omega),show 3+n*1 - 3=n by omega,hl,if_neg (by simp)]
   ·rw[if_neg (λh=>e h.1),h2]
    by_cases h3:3<=j/\j<3+n
    ·rw[if_pos h3,if_pos (show 3<=j/\j<3+(n+1) by omega)]
    ·rw[if_neg h3,if_neg (show ¬(3<=j/\j<3+(n+1)) by omega)]
  | true=>
   rw[Q1,Zhn,hi]
   by_cases e:3+n*1=j
   ·subst e;rw[if_pos ⟨rfl,by omega⟩,if_pos (by omega),show 3+n*1 - 3=n by omega,hl,if_pos rfl]
   ·rw[if_neg (λh=>e h.1),h2]
    by_cases h3:3<=j/\j<3+n
    ·rw[if_pos h3,if_pos (show 3<=j/\j<3+(n+1) by omega)]
    ·rw[if_neg h3,if_neg (show ¬(3<=j/\j<3+(n+1)) by omega)]
theorem Yl2{f g:Nat->Int}:∀n,(∀k,k<n->cg (f k) (g k))->cg (sumI f n) (sumI g n)
 |0,_=>.refl _
 |n+1,h=>(Yl2 n λk hk=>h k (by omega)).add (h n (by omega))
end
end Go.Proofs.YtefjogahegolbaaDoor
