/- Going forward and going backward to some cells. -/
import Derived.Test.YtohnggmlmglhmaaGreatDoorProg
import Derived.Test.YtohnggmlmglhmaaGreatDoorCmE
namespace Go.Proofs.YtohnggmlmglhmaaGreatDoor
open Go.ChangeShapes Go.WideShapes Go.ChangeAt Go.RowKit Ve Vc
set_option linter.unusedVariables false
set_option linter.unusedSimpArgs false
set_option maxRecDepth 100000
noncomputable section
variable {mn:Md}
theorem sumL_in (r:Array Value) (l:List (Int×Int)): -9223372036854775808≤sumL l r∧sumL l r≤9223372036854775807:=by
 have h:∀ (l:List (Int×Int)) (c:Int),(-9223372036854775808≤c∧c≤9223372036854775807) → -9223372036854775808≤l.foldl (sumF r) c∧l.foldl (sumF r) c≤9223372036854775807:=fun l=>by
  induction l with
  | nil=>exact fun c hc=>hc
  | cons p l ih=>exact fun c _=>ih _ (Zjk .i64 _)
 exact h l 0 (by omega)
theorem sm_le {f g:Nat→Int}:∀ n,(∀ i,i<n→0≤f i∧f i≤g i)→0≤sm f n∧sm f n≤sumI g n
 | 0,_=>⟨Int.le_refl _,Int.le_refl _⟩
 | n+1,h=>by
  obtain ⟨h1,h2⟩:=sm_le n fun i hi=>h i (by omega)
  have h3:=h n (by omega)
  rw [Zk2,sumI];omega
end
end Go.Proofs.YtohnggmlmglhmaaGreatDoor
