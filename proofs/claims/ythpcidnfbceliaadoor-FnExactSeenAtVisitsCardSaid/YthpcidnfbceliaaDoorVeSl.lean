/- Slices copied and compared. -/
import Derived.Test.YthpcidnfbceliaaDoorProg
import Derived.Test.YthpcidnfbceliaaDoorVeGrid
namespace Go.Proofs.YthpcidnfbceliaaDoor
open Go.ChangeShapes Go.WideShapes Go.ChangeAt Go.RowKit Ve
set_option linter.unusedVariables false
set_option linter.unusedSimpArgs false
set_option maxRecDepth 100000
noncomputable section

theorem ext_num {C : Array Value} {b m o : Nat} (ho : o < m) : num (C.extract b (b + m)) o = num C (b + o) := by
  have e2 : (C.extract b (b + m))[o]? = C[b + o]? := by
    simp only [Array.getElem?_extract]
    by_cases h : b + o < C.size
    · rw [if_pos (by omega)]
    · rw [if_neg (by omega), Array.getElem?_eq_none (by omega)]
  unfold num; rw [e2]
theorem sl_int {P : Program} {e : TypeId} {n m : Nat} {C : Array Value} (h : ∀ k, k < n → WT P e (C.extract (k * m) (k * m + m))) {k o : Nat} {kd : IntKind} (hk : k < n) (ho : o < m) (hq : (lay P e)[o]? = some (kN kd)) :
    C[k * m + o]? = some (.int kd (num C (k * m + o))) ∧ kd.min ≤ num C (k * m + o) ∧ num C (k * m + o) ≤ kd.max := by
  have hw := (h k hk).int hq
  rw [ext_num ho] at hw
  refine ⟨?_, hw.2⟩
  have := hw.1
  rw [Array.getElem?_extract] at this
  split at this
  · exact this
  · cases this

end
end Go.Proofs.YthpcidnfbceliaaDoor
