/- An hour as it is asked, and exact sums, in company. -/
import Derived.Test.YtdhckffhnkeogaaDoorProg
import Derived.Test.YtdhckffhnkeogaaDoorCxE
set_option linter.unusedVariables false
set_option linter.unusedSimpArgs false
namespace Go.Proofs.YtdhckffhnkeogaaDoor
open Go.ChangeShapes Go.WideShapes Go.ChangeAt Go.RowKit Ve Vc
set_option maxRecDepth 100000
noncomputable section
variable {mn:Md}
def chW (S:Array Value) (t c:Int) (w:Nat):Int:=IntKind.i64.wrap (num S (((3+(t.toNat*180))+(c.toNat*5))+w))
def gw (S:Array Value) (k:Nat):Nat→Int
 | 0=>(k:Int)
 | 1=>bif decide (6≤k) then (k:Int) - 6 else -1
 | 2=>bif decide (((k % 6:Nat):Int)+1<num S 0) then (k:Int)+1 else -1
 | 3=>bif decide (((k / 6:Nat):Int)+1<num S 1) then (k:Int)+6 else -1
 | _=>bif decide (1≤k % 6) then (k:Int) - 1 else -1
theorem in_eq (n lo hi:Int):Zab n lo hi=decide (lo≤n∧n≤hi):=by
 unfold Zab
 by_cases h1:lo≤n
 ·rw [Q3 (show n ≥ lo from h1)]
  by_cases h2:n≤hi
  ·rw [Q3 h2,Q3 (And.intro h1 h2)];rfl
  ·rw [Q4 h2,Q4 (show ¬ (lo≤n∧n≤hi) from fun h=>h2 h.2)];rfl
 ·rw [Q4 (show ¬ n ≥ lo from h1),Q4 (show ¬ (lo≤n∧n≤hi) from fun h=>h1 h.1)];rfl
end
end Go.Proofs.YtdhckffhnkeogaaDoor
