/- Spreads by their numbers. -/
import Derived.Test.YtefjogahegolbaaDoorProg
import Derived.Test.YtefjogahegolbaaDoorCxH
set_option linter.unusedVariables false
set_option linter.unusedSimpArgs false
open _root_.Array renaming getElem?_setIfInBounds->jA
namespace Go.Proofs.YtefjogahegolbaaDoor
open Go.ChangeShapes Go.WideShapes Go.ChangeAt Go.RowKit Ve Vc
open Tryd (prog)
open IntKind (i64)
set_option maxRecDepth 100000
noncomputable section
variable {mn:Md}
theorem Yed{r:Array Value}{i j:Nat}(m:Int)(h:i≠j):num (adN r i m) j=num r j:=by unfold adN num;rw[jA,if_neg h]
theorem Zoy(X:Array Value):num (Ub4 prog X) 0=num X 0/\num (Ub4 prog X) 1=IntKind.i8.wrap (num X 1+1)/\∀i,i<36->num (Ub4 prog X) (3+i)=0:=by
 have hz:(zc prog 77).size=40:=by kernel_rfl
 have hc:(List.range 36).all (λk=>match (zc prog 77)[3+k]? with|some (.int .i64 0)=>true|_=>false)=true:=by kernel_rfl
 unfold Ub4;refine⟨?_,?_,λi hi=> ?_⟩
 ·unfold num;rw[jA,if_neg (by omega),jA,if_neg (by omega),jA,if_neg (by omega),jA,if_pos rfl,if_pos (by omega)]
 ·unfold num;rw[jA,if_neg (by omega),jA,if_neg (by omega),jA,if_pos rfl,if_pos (by simp;omega)]
 ·unfold num;rw[jA,if_neg (by omega),jA,if_neg (by omega),jA,if_neg (by omega),jA,if_neg (by omega)];have:=List.all_eq_true.1 hc i (List.mem_range.2 hi);split at this
  ·rename_i e;rw[e]
  ·cases this
theorem wayF_low(S X:Array Value)(t:Int)(k:Nat)(r:Array Value)(w j:Nat)(hj:j<3):num (wayF S X t k r w) j=num r j:=by unfold wayF;cases decide (Zai (k:Int) (w:Int) S<0)<;>exact Yed _ (by omega)
theorem Zxx(S X:Array Value){j:Nat}(hj:j<3):num (Ubz prog S X) j=num (Ub4 prog X) j:=by unfold Ubz;refine Zhi (λ_ (r:Array Value)=>num r j=num (Ub4 prog X) j) rfl (λk s _ hs=> ?_) 36 (Nat.le_refl _);refine Eq.trans ?_ hs;unfold Ues;cases Zam (k:Int) S with|false=>exact Yed _ (by omega)|true=>exact Zhi (λ_ (r:Array Value)=>num r j=num s j) rfl (λw r _ hr=>(wayF_low S X _ k r w j hj).trans hr) 5 (Nat.le_refl _)
theorem Zlc{i:Nat}(h2:2<=i)(h:i<40):(lay prog 77)[i]?=some 3:=by
 have hc:(List.range 40).all (λi=>decide (i<2)||(match (lay prog 77)[i]? with|some 3=>true|_=>false))=true:=by kernel_rfl
 have:=List.all_eq_true.1 hc i (List.mem_range.2 h);rw[Bool.or_eq_true,decide_eq_true_eq]at this;rcases this with h|h
 ·omega
 ·split at h
  ·assumption
  ·cases h
theorem Zyh:(lay prog 77)[0]?=some (kN .i8)/\(lay prog 77)[1]?=some (kN .i8):=⟨by kernel_rfl,by kernel_rfl⟩
theorem Zrs{r:Array Value}(h:WT prog 77 r):r.size=40:=by rw[h.layLen];exact Zul.2
theorem Zkm{r:Array Value}(h:WT prog 77 r){i:Nat}{k:IntKind}{n:Int}(hi:(lay prog 77)[i]?=some (kN k))(hn:k.min<=n/\n<=k.max):WT prog 77 (r.setIfInBounds i (.int k n)):=by
 constructor
 ·rw[Array.toList_setIfInBounds,List.map_set,h.1];refine List.ext_getElem? λj=> ?_
  by_cases hij:i=j
  ·subst hij;rw[List.getElem?_set_self (List.getElem?_eq_some_iff.1 hi).1,hi];rfl
  ·rw[List.getElem?_set_ne hij]
 ·intro v hv;rw[Array.toList_setIfInBounds]at hv;rcases List.mem_or_eq_of_mem_set hv with h1|rfl
  ·exact h.2 v h1
  ·exact hn
theorem zero64:i64.min<=(0:Int)/\(0:Int)<=i64.max:=by have e1:i64.min=-9223372036854775808:=rfl;have e2:i64.max=9223372036854775807:=rfl;omega
theorem restV_wt{S X:Array Value}(hX:WT prog 77 X):WT prog 77 (Ucd S X):=by
 have h1:WT prog 77 (folds (Uc0 S) X 36):=Zhi (λ_ r=>WT prog 77 r) hX (λk r hk h=>by
  unfold Uc0;cases Zae S (k:Int)
  ·exact Zkm (k:=.i64) h (Zlc (by omega) (by omega)) zero64
  ·exact Zkm (k:=.i64) h (Zlc (by omega) (by omega)) (Zhs .i64 _)) 36 (Nat.le_refl _)
 unfold Ucd Ucf;exact Zkm (k:=.i8) (Zkm (k:=.i64) h1 (Zlc (by omega) (by omega)) (Zhs .i64 _)) Zyh.2 (Zhs .i8 _)
theorem togV_wt{N Y:Array Value}(h:WT prog 77 N):WT prog 77 (togV N Y):=by unfold togV;exact Zvg (Zhi (λ_ r=>WT prog 77 r) (wt_adN h (Zlc (by omega) (by omega))) (λk r _ h=>Zvg h (by omega)) 36 (Nat.le_refl _)) (by omega)
theorem hopV_wt{N Y:Array Value}(h:WT prog 77 N):WT prog 77 (hopV N Y):=by unfold hopV;cases Ubg Y (zc prog 77) with|true=>rw[Bool.not_true,Q2];exact h|false=>rw[Bool.not_false,Q1];exact togV_wt h
theorem drV_wt{S X:Array Value}(hX:WT prog 77 X)(n:Nat):WT prog 77 (drV S X n):=by induction n with|zero=>exact restV_wt hX|succ n ih=>have e:drV S X (n+1)=hopV (drV S X n) (Ubc prog S X n):=rfl;rw[e];exact hopV_wt ih
theorem Zr5{S X:Array Value}(hX:WT prog 77 X):WT prog 77 (Ubz prog S X):=by
 have x0:=(hX.int (o:=0) (k:=.i8) Zyh.1).2;have x2:=(hX.int (o:=2) (k:=.i64) (Zlc (by omega) (by omega))).2;have h0:WT prog 77 (Ub4 prog X):=by unfold Ub4;exact Zkm (k:=.i64) (Zkm (k:=.i64) (Zkm (k:=.i8) (Zkm (k:=.i8) (WT.zero (by kernel_rfl)) Zyh.1 x0) Zyh.2 (Zhs .i8 _)) (Zlc (by omega) (by omega)) x2) (Zlc (by omega) (by omega)) (Zhs .i64 _)
 unfold Ubz;refine Zhi (λ_ r=>WT prog 77 r) h0 (λk r _ h=> ?_) 36 (Nat.le_refl _);unfold Ues;cases Zam (k:Int) S
 ·exact Zvg h (by omega)
 ·refine Zhi (λ_ r=>WT prog 77 r) h (λw r _ h=> ?_) 5 (Nat.le_refl _);unfold wayF;cases decide (Zai (k:Int) (w:Int) S<0)<;>exact Zvg h (by omega)
theorem Yiy{A C:Array Value}(hA:WT prog 77 A)(hC:WT prog 77 C)(h:∀j,j<40->num A j=num C j):A=C:=by
 refine Array.ext_getElem? λj=> ?_
 by_cases hj:j<40
 ·by_cases h2:2<=j
  ·rw[(hA.int (o:=j) (k:=.i64) (Zlc h2 hj)).1,(hC.int (o:=j) (k:=.i64) (Zlc h2 hj)).1,h j hj]
  ·have:(lay prog 77)[j]?=some (kN .i8):=by
    match j,h2 with|0,_=>exact Zyh.1|1,_=>exact Zyh.2|_+2,h=>omega
   rw[(hA.int this).1,(hC.int this).1,h j hj]
 ·rw[Array.getElem?_eq_none (by rw[Zrs hA];omega),Array.getElem?_eq_none (by rw[Zrs hC];omega)]
theorem Zji(r:Array Value)(i:Nat)(k:IntKind)(n:Int)(j:Nat):num (r.setIfInBounds i (.int k n)) j=if i=j/\i<r.size then n else num r j:=by
 unfold num;rw[jA]
 by_cases hij:i=j
 ·subst hij
  by_cases hlt:i<r.size
  ·rw[if_pos rfl,if_pos hlt,if_pos ⟨rfl,hlt⟩]
  ·rw[if_pos rfl,if_neg hlt,if_neg (λh=>hlt h.2),Array.getElem?_eq_none (by omega)]
 ·rw[if_neg hij,if_neg (λh=>hij h.1)]
def Udz(S X:Array Value)(n:Nat):Array Value:=folds (Uc0 S) X n
theorem Yiu(S X:Array Value)(n:Nat):Udz S X (n+1)=Uc0 S (Udz S X n) n:=Zi6 ..
theorem Ya5{S X:Array Value}(hz:X.size=40):∀n,n<=36->(Udz S X n).size=40/\∀j,num (Udz S X n) j=if 3<=j/\j<3+n then (if Zae S ((j - 3:Nat):Int)=true then i64.wrap (num X j*12) else 0) else num X j
 |0,_=>⟨hz,λj=>by rw[if_neg (by omega)];rfl⟩
 | n+1,hn=>by
  obtain⟨h1,h2⟩:=Ya5 (S:=S) (X:=X) hz n (by omega);have hi:num (Udz S X n) (3+n*1)=num X (3+n*1):=by rw[h2,if_neg (by omega)]
  rw[Yiu];generalize Udz S X n=q at h1 h2 hi|-
  refine⟨by unfold Uc0;cases Zae S (n:Int)<;>simp[h1],λj=> ?_⟩;unfold Uc0;cases hl:Zae S (n:Int) with
  | false=>
   rw[Q2,Zji]
   by_cases e:3+n*1=j
   ·subst e;rw[if_pos ⟨rfl,by omega⟩,if_pos (by omega),show 3+n*1 - 3=n by omega,hl,if_neg (by simp)]
   ·rw[if_neg (λh=>e h.1),h2]
    by_cases h3:3<=j/\j<3+n
    ·rw[if_pos h3,if_pos (show 3<=j/\j<3+(n+1) by omega)]
    ·rw[if_neg h3,if_neg (show ¬(3<=j/\j<3+(n+1)) by omega)]
  | true=>
   rw[Q1,Zji,hi]
   by_cases e:3+n*1=j
   ·subst e;rw[if_pos ⟨rfl,by omega⟩,if_pos (by omega),show 3+n*1 - 3=n by omega,hl,if_pos rfl]
   ·rw[if_neg (λh=>e h.1),h2]
    by_cases h3:3<=j/\j<3+n
    ·rw[if_pos h3,if_pos (show 3<=j/\j<3+(n+1) by omega)]
    ·rw[if_neg h3,if_neg (show ¬(3<=j/\j<3+(n+1)) by omega)]
theorem Ykz{f g:Nat->Int}:∀n,(∀k,k<n->cg (f k) (g k))->cg (sumI f n) (sumI g n)
 |0,_=>.refl _
 |n+1,h=>(Ykz n λk hk=>h k (by omega)).add (h n (by omega))
end
end Go.Proofs.YtefjogahegolbaaDoor
