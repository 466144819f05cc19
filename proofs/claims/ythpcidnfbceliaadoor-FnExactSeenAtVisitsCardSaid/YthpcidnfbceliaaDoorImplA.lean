/- The program's small functions on seas: places, bits, land and water. -/
import Derived.Test.YthpcidnfbceliaaDoorSpecB
import Derived.Test.YthpcidnfbceliaaDoorSeaOpen
import Derived.Test.YthpcidnfbceliaaDoorOrders
import Derived.Deep.QuietTactic
import Derived.BigQuiet
namespace Go.Proofs.YthpcidnfbceliaaDoor
open Go.ChangeShapes Go.WideShapes Go.ChangeAt Go.RowKit
set_option linter.unusedVariables false

set_option maxHeartbeats 400000 in
theorem impl_bitOf (c : Int) (hc : 0 ≤ c ∧ c ≤ 35) (w : World) : Calls Tryd.prog 72 #[.int .i64 c] w fun e w' => e = .returned (.int .u64 (IntKind.u64.wrap (2 ^ c.toNat))) ∧ w = w' := by
  obtain ⟨ha, hb⟩ := hc
  go_enter Tryd.func72, Tryd.ntmps72
  go_wp2
  go_ret
  exact ⟨rfl, rfl⟩

set_option maxHeartbeats 400000 in
theorem impl_cellOf (x y : Int) (hx : 0 ≤ x ∧ x ≤ 100) (hy : 0 ≤ y ∧ y ≤ 100) (w : World) : Calls Tryd.prog 124 #[.agg #[.int .i64 x, .int .i64 y]] w fun e w' => e = .returned (.int .i64 (x + 6 * y)) ∧ Below w.heap.size w w' := by
  obtain ⟨xa, xb⟩ := hx
  obtain ⟨ya, yb⟩ := hy
  go_enter Tryd.func124, Tryd.ntmps124
  go_wp2
  go_ret
  exact ⟨rfl, chainAlloc (Below.refl w.heap.size w) _⟩

set_option maxHeartbeats 400000 in
theorem impl_placeOf (c : Int) (hc : 0 ≤ c ∧ c ≤ 35) (w : World) : Calls Tryd.prog 108 #[.int .i64 c] w fun e w' => e = .returned (.agg #[.int .i64 (c % 6), .int .i64 (c / 6)]) ∧ Below w.heap.size w w' := by
  obtain ⟨ha, hb⟩ := hc
  go_enter Tryd.func108, Tryd.ntmps108
  go_wp2
  exact bodyPost_ret (v := .agg #[.int .i64 (c % 6), .int .i64 (c / 6)]) (by simp [results, Tryd.results108, go_sem]) rfl ⟨rfl, chainAlloc (Below.refl w.heap.size w) _⟩

/-- Is this a place of the grid? -/
def plB (wd hi x y : Int) : Bool := decide (0 ≤ x ∧ x < wd ∧ 0 ≤ y ∧ y < hi)

set_option maxHeartbeats 1000000 in
theorem impl_hasPlace (wd hi ld : Int) (T : Array Value) (hw1 : -128 ≤ wd ∧ wd ≤ 127) (hh1 : -128 ≤ hi ∧ hi ≤ 127) (x y : Int) (w : World) :
    Calls Tryd.prog 107 #[.agg (sea wd hi ld T), .agg #[.int .i64 x, .int .i64 y]] w fun e w' => e = .returned (.bool (plB wd hi x y)) ∧ Below w.heap.size w w' := by
  obtain ⟨wa, wb⟩ := hw1
  obtain ⟨ha, hb⟩ := hh1
  have s0 := sea_0 wd hi ld T
  have s1 := sea_1 wd hi ld T
  by_cases h1 : 0 ≤ x
  · by_cases h2 : x < wd
    · by_cases h3 : 0 ≤ y
      · by_cases h4 : y < hi
        · have hR : plB wd hi x y = true := decide_eq_true ⟨h1, h2, h3, h4⟩
          rw [hR]
          clear hR
          go_enter Tryd.func107, Tryd.ntmps107
          go_wp2
          go_ret
          exact ⟨ret_bool (by first | rfl | exact decide_eq_true (by omega)), chainAlloc (chainAlloc (Below.refl w.heap.size w) _) _⟩
        · have hR : plB wd hi x y = false := decide_eq_false fun h => h4 h.2.2.2
          rw [hR]
          clear hR
          go_enter Tryd.func107, Tryd.ntmps107
          go_wp2
          go_ret
          exact ⟨ret_bool (by first | rfl | exact decide_eq_false (by omega)), chainAlloc (chainAlloc (Below.refl w.heap.size w) _) _⟩
      · have hR : plB wd hi x y = false := decide_eq_false fun h => h3 h.2.2.1
        rw [hR]
        clear hR
        go_enter Tryd.func107, Tryd.ntmps107
        go_wp2
        go_ret
        exact ⟨ret_bool (by first | rfl | exact decide_eq_false (by omega)), chainAlloc (chainAlloc (Below.refl w.heap.size w) _) _⟩
    · have hR : plB wd hi x y = false := decide_eq_false fun h => h2 h.2.1
      rw [hR]
      clear hR
      go_enter Tryd.func107, Tryd.ntmps107
      go_wp2
      go_ret
      exact ⟨ret_bool (by first | rfl | exact decide_eq_false (by omega)), chainAlloc (chainAlloc (Below.refl w.heap.size w) _) _⟩
  · have hR : plB wd hi x y = false := decide_eq_false fun h => h1 h.1
    rw [hR]
    clear hR
    go_enter Tryd.func107, Tryd.ntmps107
    go_wp2
    go_ret
    exact ⟨ret_bool (by first | rfl | exact decide_eq_false (by omega)), chainAlloc (chainAlloc (Below.refl w.heap.size w) _) _⟩
end Go.Proofs.YthpcidnfbceliaaDoor
