/- The model's small functions on seas: in, is, dry, wet. -/
import Derived.Test.YthpcidnfbceliaaDoorSea
namespace Go.Proofs.YthpcidnfbceliaaDoor
open Go.ChangeShapes Go.WideShapes Go.ChangeAt Go.RowKit
set_option linter.unusedVariables false

def inB (n lo hi : Int) : Bool := decide (lo ≤ n) && decide (n ≤ hi)

set_option maxHeartbeats 400000 in
theorem spec_l00In (n lo hi : Int) (w : World) : Calls Tryd.prog 27 #[.int .i64 n, .int .i64 lo, .int .i64 hi] w fun e w' => e = .returned (.bool (inB n lo hi)) ∧ w = w' := by
  by_cases h1 : lo ≤ n
  · by_cases h2 : n ≤ hi
    · have hin : inB n lo hi = true := by unfold inB; rw [decide_eq_true h1, decide_eq_true h2]; rfl
      rw [hin]
      go_enter Tryd.func27, Tryd.ntmps27
      go_wp2
      go_ret
      exact ⟨rfl, rfl⟩
    · have hin : inB n lo hi = false := by unfold inB; rw [decide_eq_false h2]; simp
      rw [hin]
      go_enter Tryd.func27, Tryd.ntmps27
      go_wp2
      go_ret
      exact ⟨rfl, rfl⟩
  · have hin : inB n lo hi = false := by unfold inB; rw [decide_eq_false h1]; rfl
    rw [hin]
    go_enter Tryd.func27, Tryd.ntmps27
    go_wp2
    go_ret
    exact ⟨rfl, rfl⟩

/-- Is there a cell with this number? -/
def isB (wd hi c : Int) : Bool := decide (0 ≤ c ∧ c ≤ 35 ∧ c % 6 < wd ∧ c / 6 < hi)

set_option maxHeartbeats 400000 in
theorem spec_l01Is (g : Nat) (t : TypeId) (fr : Nat × Nat) (wd hi ld : Int) (T : Array Value) (c : Int) (w : World) (q0 : w.heap[g]? = some (.cells (sea wd hi ld T) t fr)) (hw1 : -128 ≤ wd ∧ wd ≤ 127) (hh1 : -128 ≤ hi ∧ hi ≤ 127) :
    Calls Tryd.prog 60 #[.pointer (some ⟨g, 0, none⟩), .int .i64 c] w fun e w' => e = .returned (.bool (isB wd hi c)) ∧ w = w' := by
  obtain ⟨wa, wb⟩ := hw1
  obtain ⟨ha, hb⟩ := hh1
  have c0 : w.cell? ⟨g, 0, none⟩ = some (.int .i8 wd) := by rw [cell_of_row w g 0 _ t fr q0, sea_0]
  have c1 : w.cell? ⟨g, 1, none⟩ = some (.int .i8 hi) := by rw [cell_of_row w g 1 _ t fr q0, sea_1]
  clear q0
  by_cases h1 : 0 ≤ c ∧ c ≤ 35
  · obtain ⟨h1a, h1b⟩ := h1
    have hin : inB c 0 35 = true := by unfold inB; rw [decide_eq_true h1a, decide_eq_true h1b]; rfl
    by_cases h2 : c % 6 < wd
    · by_cases h3 : c / 6 < hi
      · have hR : isB wd hi c = true := decide_eq_true ⟨h1a, h1b, h2, h3⟩
        rw [hR]
        go_enter Tryd.func60, Tryd.ntmps60
        go_wp2_with (go_at_call 27; refine (spec_l00In _ _ _ _).mono ?_; rintro e w1 ⟨rfl, rfl⟩)
        go_ret
        exact ⟨ret_bool (by first | rfl | exact decide_eq_true (by assumption) | exact decide_eq_false (by omega)), rfl⟩
      · have hR : isB wd hi c = false := decide_eq_false fun h => h3 h.2.2.2
        rw [hR]
        go_enter Tryd.func60, Tryd.ntmps60
        go_wp2_with (go_at_call 27; refine (spec_l00In _ _ _ _).mono ?_; rintro e w1 ⟨rfl, rfl⟩)
        go_ret
        exact ⟨ret_bool (by first | rfl | exact decide_eq_true (by assumption) | exact decide_eq_false (by omega)), rfl⟩
    · have hR : isB wd hi c = false := decide_eq_false fun h => h2 h.2.2.1
      rw [hR]
      go_enter Tryd.func60, Tryd.ntmps60
      go_wp2_with (go_at_call 27; refine (spec_l00In _ _ _ _).mono ?_; rintro e w1 ⟨rfl, rfl⟩)
      go_ret
      exact ⟨ret_bool (by first | rfl | exact decide_eq_true (by assumption) | exact decide_eq_false (by omega)), rfl⟩
  · have hin : inB c 0 35 = false := by
      unfold inB
      by_cases h : 0 ≤ c
      · rw [decide_eq_false (p := c ≤ 35) (fun h' => h1 ⟨h, h'⟩)]; simp
      · rw [decide_eq_false (p := 0 ≤ c) h]; rfl
    have hR : isB wd hi c = false := decide_eq_false fun h => h1 ⟨h.1, h.2.1⟩
    rw [hR]
    go_enter Tryd.func60, Tryd.ntmps60
    go_wp2_with (go_at_call 27; refine (spec_l00In _ _ _ _).mono ?_; rintro e w1 ⟨rfl, rfl⟩)
    go_ret
    exact ⟨ret_bool (by first | rfl | exact decide_eq_true (by assumption) | exact decide_eq_false (by omega)), rfl⟩

/-- Is the bit of this cell set? -/
def dryB (ld c : Int) : Bool := (ld / 2 ^ c.toNat).tmod 2 == 1

set_option maxHeartbeats 400000 in
theorem spec_l01Dry (g : Nat) (t : TypeId) (fr : Nat × Nat) (wd hi ld : Int) (T : Array Value) (c : Int) (w : World) (q0 : w.heap[g]? = some (.cells (sea wd hi ld T) t fr)) (hc : 0 ≤ c ∧ c ≤ 35) (hl : 0 ≤ ld) :
    Calls Tryd.prog 61 #[.pointer (some ⟨g, 0, none⟩), .int .i64 c] w fun e w' => e = .returned (.bool (dryB ld c)) ∧ w = w' := by
  obtain ⟨ha, hb⟩ := hc
  have c2 : w.cell? ⟨g, 2, none⟩ = some (.int .u64 ld) := by rw [cell_of_row w g 2 _ t fr q0, sea_2]
  clear q0
  go_enter Tryd.func61, Tryd.ntmps61
  go_wp2
  go_ret
  exact ⟨rfl, rfl⟩

/-- Is there water? -/
def wetB (wd hi ld c : Int) : Bool := isB wd hi c && !dryB ld c

theorem isB_range {wd hi c : Int} (h : isB wd hi c = true) : 0 ≤ c ∧ c ≤ 35 := by
  have := of_decide_eq_true h
  exact ⟨this.1, this.2.1⟩

set_option maxHeartbeats 400000 in
theorem spec_l01Wet (g : Nat) (t : TypeId) (fr : Nat × Nat) (wd hi ld : Int) (T : Array Value) (c : Int) (w : World) (q0 : w.heap[g]? = some (.cells (sea wd hi ld T) t fr)) (hw1 : -128 ≤ wd ∧ wd ≤ 127) (hh1 : -128 ≤ hi ∧ hi ≤ 127) (hl : 0 ≤ ld) :
    Calls Tryd.prog 35 #[.pointer (some ⟨g, 0, none⟩), .int .i64 c] w fun e w' => e = .returned (.bool (wetB wd hi ld c)) ∧ w = w' := by
  by_cases h1 : isB wd hi c = true
  · have hd := spec_l01Dry g t fr wd hi ld T c w q0 (isB_range h1) hl
    have hi := spec_l01Is g t fr wd hi ld T c w q0 hw1 hh1
    rw [h1] at hi
    unfold wetB
    rw [h1]
    clear h1 q0
    go_enter Tryd.func35, Tryd.ntmps35
    go_wp2_with (first | (go_at_call 60; refine hi.mono ?_; rintro e w1 ⟨rfl, rfl⟩) | (go_at_call 61; refine hd.mono ?_; rintro e w1 ⟨rfl, rfl⟩))
    go_ret
    exact ⟨ret_bool (by simp), rfl⟩
  · have h1' : isB wd hi c = false := by simpa using h1
    have hi := spec_l01Is g t fr wd hi ld T c w q0 hw1 hh1
    rw [h1'] at hi
    unfold wetB
    rw [h1']
    clear h1 h1' q0
    go_enter Tryd.func35, Tryd.ntmps35
    go_wp2_with (go_at_call 60; refine hi.mono ?_; rintro e w1 ⟨rfl, rfl⟩)
    go_ret
    exact ⟨rfl, rfl⟩
end Go.Proofs.YthpcidnfbceliaaDoor
