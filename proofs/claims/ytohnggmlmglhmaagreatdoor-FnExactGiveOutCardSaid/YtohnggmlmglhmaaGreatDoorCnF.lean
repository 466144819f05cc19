/- The best release in some cells of water. -/
import Derived.Test.YtohnggmlmglhmaaGreatDoorProg
import Derived.Test.YtohnggmlmglhmaaGreatDoorCnE
namespace Go.Proofs.YtohnggmlmglhmaaGreatDoor
open Go.ChangeShapes Go.WideShapes Go.ChangeAt Go.RowKit Ve Vc
set_option linter.unusedVariables false
set_option linter.unusedSimpArgs false
set_option maxRecDepth 100000
noncomputable section
variable {mn:Md}
def voyOk (a0:Array Value) (c:Int):Bool:=(okS (a0.extract 2 (2+363))&&(decide (0≤num a0 0)&&decide (num a0 0<2)))&&((decide (0≤num a0 1)&&decide (num a0 1≤8))&&Zad (a0.extract 2 (2+363)) c)
theorem Yea {a0:Array Value} {c:Int}:voyOk a0 c=true ↔ (okS (a0.extract 2 (2+363))=true∧(0≤num a0 0∧num a0 0<2))∧((0≤num a0 1∧num a0 1≤8)∧Zad (a0.extract 2 (2+363)) c=true):=by
 unfold voyOk
 simp only [Q7,decide_eq_true_eq]
theorem prs_num {a0:Array Value} (hz:2≤a0.size):num ((prsV a0).extract 0 (0+2)) 1=num a0 1:=by
 have e:a0.extract 0 (0+2)=(#[a0[0],a0[1]]:Array Value):=by
  refine Array.ext (by simp;omega) fun i h1 h2=> ?_
  have hi:i<2:=h2
  rw [Array.getElem_extract]
  match i,hi with
  | 0,_=>rfl
  | 1,_=>rfl
 have e2:num a0 1=num (#[a0[0],a0[1]]:Array Value) 1:=by rw [← e,Zz5 (by omega)]
 rw [e2]
 unfold prsV
 rw [e]
 rfl
theorem cross_lt {A A' B B' r r':Int} (hA:0<A) (hA':0<A') (hB:0<B) (e:A*B=A'*B'):r'*B<r*B' ↔ A'*r'<A*r:=by
 have hAA:0<A*A':=Int.mul_pos hA hA'
 have hD:0<A*B:=Int.mul_pos hA hB
 have e1:(A*A')*(r'*B)=(A*B)*(A'*r'):=by simp only [Int.mul_assoc,Int.mul_comm,Int.mul_left_comm]
 have e2:(A*A')*(r*B')=(A*B)*(A*r):=by rw [e];simp only [Int.mul_assoc,Int.mul_comm,Int.mul_left_comm]
 constructor
 ·intro h
  have:=Int.mul_lt_mul_of_pos_left h hAA
  rw [e1,e2] at this
  exact Int.lt_of_mul_lt_mul_left this (Int.le_of_lt hD)
 ·intro h
  have:=Int.mul_lt_mul_of_pos_left h hD
  rw [← e1,← e2] at this
  exact Int.lt_of_mul_lt_mul_left this (Int.le_of_lt hAA)
theorem Yp9 {V:Array Value} (h:WT Tryz.prog 73 V):2≤V.size:=by
 rw [h.layLen]
 exact Nat.le_of_ble_eq_true (by kernel_rfl)
theorem voy_sea {V:Array Value} (h:WT Tryz.prog 73 V):WT Tryz.prog 41 (V.extract 2 (2+363)):=by
 have h1:=h.sub (T:=41) (o:=2) (Zj7 rfl (by kernel_rfl)) (Nat.lt_of_lt_of_eq (by decide:0<363) (by kernel_rfl))
 rw [show (zc Tryz.prog 41).size=363 by kernel_rfl] at h1
 exact h1
end
end Go.Proofs.YtohnggmlmglhmaaGreatDoor
