/- The cells that reach some cells: both sides. -/
import Derived.Test.YtohnggmlmglhmaaGreatDoorProg
import Derived.Test.YtohnggmlmglhmaaGreatDoorCmF
namespace Go.Proofs.YtohnggmlmglhmaaGreatDoor
open Go.ChangeShapes Go.WideShapes Go.ChangeAt Go.RowKit Ve Vc
set_option linter.unusedVariables false
set_option linter.unusedSimpArgs false
set_option maxRecDepth 100000
noncomputable section
variable {mn:Md}
theorem Yqe {S:Array Value} {c:Int} (h:Zad S c=true):∀ j,36≤j→bitI c j=false:=fun j hj=>by
 by_cases h64:j<64
 ·cases hb:bitI c j with
  | false=>rfl
  | true=>
   have:=(Yel (a:=c) (b:=Uaz (num S 0) (num S 1) 36)).1 h j h64 hb
   rw [Yip _ _ 36 (by omega),Q4 (by omega)] at this
   cases this
 ·exact bit_high (by omega) c
theorem zs_num:∀ i,i<40→num (zc Tryz.prog 144) i=0:=by
 have:((List.range 40).all fun i=>num (zc Tryz.prog 144) i==0)=true:=by kernel_rfl
 intro i hi
 exact eq_of_beq (List.all_eq_true.1 this i (List.mem_range.2 hi))
end
end Go.Proofs.YtohnggmlmglhmaaGreatDoor
