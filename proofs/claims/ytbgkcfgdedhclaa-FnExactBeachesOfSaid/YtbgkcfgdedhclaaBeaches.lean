/- BeachesOf and CoastOf of both sides: at all seas. -/
import Derived.Test.YtbgkcfgdedhclaaBesideAny
namespace Go.Proofs.Ytbgkcfgdedhclaa
open Go.ChangeShapes Go.WideShapes Go.ChangeAt Go.RowKit
set_option linter.unusedVariables false

theorem impl_besideAny' (wd hi ld : Int) (T : Array Value) (hS : SeaIn wd hi ld T) (hBd : 1 ≤ wd ∧ wd ≤ 6 ∧ 1 ≤ hi ∧ hi ≤ 6) (so ot : Int) (hso : (Lit.int .u64 so).wf = true) (hot : (Lit.int .u64 ot).wf = true) (w : World) :
    Calls Try.prog 46 #[.agg (sea wd hi ld T), .int .u64 so, .int .u64 ot] w fun e w' => e = .returned (.int .u64 (anyV wd hi so ot 36)) ∧ Below w.heap.size w w' := by
  obtain ⟨a, rfl⟩ : ∃ a : Nat, wd = (a : Int) := ⟨wd.toNat, by omega⟩
  obtain ⟨b, rfl⟩ : ∃ b : Nat, hi = (b : Int) := ⟨hi.toNat, by omega⟩
  exact impl_besideAny a b ld T hS hBd so ot hso hot w
end Go.Proofs.Ytbgkcfgdedhclaa
