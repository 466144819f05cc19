/- The program's ValidSea at all seas, and seaCode. -/
import Derived.Test.YthpcidnfbceliaaDoorValidSea
namespace Go.Proofs.YthpcidnfbceliaaDoor
open Go.ChangeShapes Go.WideShapes Go.ChangeAt Go.RowKit
set_option linter.unusedVariables false

theorem impl_ValidSea (wd hi ld : Int) (T : Array Value) (hS : SeaIn wd hi ld T) (w : World) :
    Calls Tryd.prog 63 #[.agg (sea wd hi ld T)] w fun e w' => e = .returned (.bool (okB wd hi ld T)) ∧ Below w.heap.size w w' := by
  by_cases h : 1 ≤ wd ∧ wd ≤ 6 ∧ 1 ≤ hi ∧ hi ≤ 6
  · obtain ⟨a, rfl⟩ : ∃ a : Nat, wd = (a : Int) := ⟨wd.toNat, by omega⟩
    obtain ⟨b, rfl⟩ : ∃ b : Nat, hi = (b : Int) := ⟨hi.toNat, by omega⟩
    exact impl_ValidSea_in a b ld T hS (by omega) (by omega) (by omega) (by omega) w
  · have hn : (inB wd 1 6 && inB hi 1 6) = false := by
      unfold inB
      rw [← Bool.not_eq_true]
      intro e
      simp only [Bool.and_eq_true, decide_eq_true_eq] at e
      exact h ⟨e.1.1, e.1.2, e.2.1, e.2.2⟩
    rw [okB_size hn]
    exact impl_ValidSea_size wd hi ld T hS h w

theorem okB_bounds {wd hi ld : Int} {T : Array Value} (h : okB wd hi ld T = true) : 1 ≤ wd ∧ wd ≤ 6 ∧ 1 ≤ hi ∧ hi ≤ 6 := by
  unfold okB inB at h
  simp only [Bool.and_eq_true, decide_eq_true_eq] at h
  exact ⟨h.1.1.1, h.1.1.2, h.1.2.1, h.1.2.2⟩

end Go.Proofs.YthpcidnfbceliaaDoor
