/- Where a way leads in the program; small facts on ways and cells. -/
import Derived.Test.YtbgkcfgdedhclaaAsk
import Derived.Test.YtbgkcfgdedhclaaLeads0
import Derived.Test.YtbgkcfgdedhclaaLeads1
import Derived.Test.YtbgkcfgdedhclaaLeads2
import Derived.Test.YtbgkcfgdedhclaaLeads3
import Derived.Test.YtbgkcfgdedhclaaLeads4
namespace Go.Proofs.Ytbgkcfgdedhclaa
open Go.ChangeShapes Go.WideShapes Go.ChangeAt Go.RowKit
set_option linter.unusedVariables false

theorem impl_leadsTo (wd hi ld : Int) (T : Array Value) (hS : SeaIn wd hi ld T) (hBd : 1 ≤ wd ∧ wd ≤ 6 ∧ 1 ≤ hi ∧ hi ≤ 6) (c : Int) (hc : 0 ≤ c ∧ c ≤ 35) (y : Int) (hy : 0 ≤ y ∧ y ≤ 4) (w : World) :
    Calls Try.prog 87 #[.agg (sea wd hi ld T), .int .i64 c, .int .i64 y] w fun e w' => e = .returned (.int .i64 (goesV wd hi c y)) ∧ Below w.heap.size w w' := by
  obtain rfl | rfl | rfl | rfl | rfl : y = 0 ∨ y = 1 ∨ y = 2 ∨ y = 3 ∨ y = 4 := by omega
  · have := leadsTo_here wd hi ld T hS hBd c hc _ rfl w
    simpa only [goesV, mvx, mvy, Int.reduceEq, reduceIte] using this
  · have := leadsTo_north wd hi ld T hS hBd c hc _ rfl w
    simpa only [goesV, mvx, mvy, Int.reduceEq, reduceIte] using this
  · have := leadsTo_east wd hi ld T hS hBd c hc _ rfl w
    simpa only [goesV, mvx, mvy, Int.reduceEq, reduceIte] using this
  · have := leadsTo_south wd hi ld T hS hBd c hc _ rfl w
    simpa only [goesV, mvx, mvy, Int.reduceEq, reduceIte] using this
  · have := leadsTo_west wd hi ld T hS hBd c hc _ rfl w
    simpa only [goesV, mvx, mvy, Int.reduceEq, reduceIte] using this

theorem inB_way {y : Int} (h : inB y 0 4 = true) : 0 ≤ y ∧ y ≤ 4 := by
  unfold inB at h
  simp only [Bool.and_eq_true, decide_eq_true_eq] at h
  exact h
theorem isB_cell {wd hi c : Int} (h : isB wd hi c = true) : 0 ≤ c ∧ c ≤ 35 := by
  have := of_decide_eq_true h
  exact ⟨this.1, this.2.1⟩

end Go.Proofs.Ytbgkcfgdedhclaa
