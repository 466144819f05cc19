/- Ways of the model: where they lead. -/
import Derived.Test.YtbgkcfgdedhclaaSpecA
import Derived.Test.YtbgkcfgdedhclaaImplA
namespace Go.Proofs.Ytbgkcfgdedhclaa
open Go.ChangeShapes Go.WideShapes Go.ChangeAt Go.RowKit
set_option linter.unusedVariables false

/-- Where a way leads, as a place. -/
def mvx (way c : Int) : Int := if way = 2 then c % 6 + 1 else if way = 4 then c % 6 - 1 else c % 6
def mvy (way c : Int) : Int := if way = 1 then c / 6 - 1 else if way = 3 then c / 6 + 1 else c / 6
/-- Where a way leads, as a cell, or -1. -/
def goesV (wd hi c way : Int) : Int := bif plB wd hi (mvx way c) (mvy way c) then mvx way c + 6 * mvy way c else -1

theorem inB_pl {wd hi x y : Int} : plB wd hi x y = (inB x 0 (wd - 1) && inB y 0 (hi - 1)) := by
  unfold plB inB
  rw [Bool.eq_iff_iff]
  simp only [Bool.and_eq_true, decide_eq_true_eq]
  constructor
  · rintro ⟨a, b, c, d⟩; exact ⟨⟨a, by omega⟩, c, by omega⟩
  · rintro ⟨⟨a, b⟩, c, d⟩; exact ⟨a, by omega, c, by omega⟩

set_option maxHeartbeats 2000000 in
theorem spec_l01Goes (g : Nat) (t : TypeId) (fr : Nat × Nat) (wd hi ld : Int) (T : Array Value) (c way : Int) (w : World) (q0 : w.heap[g]? = some (.cells (sea wd hi ld T) t fr)) (hw1 : -128 ≤ wd ∧ wd ≤ 127) (hh1 : -128 ≤ hi ∧ hi ≤ 127) (hc : 0 ≤ c ∧ c ≤ 35) (hy : 0 ≤ way ∧ way ≤ 4) :
    Calls Try.prog 79 #[.pointer (some ⟨g, 0, none⟩), .int .i64 c, .int .i64 way] w fun e w' => e = .returned (.int .i64 (goesV wd hi c way)) ∧ w = w' := by
  obtain ⟨wa, wb⟩ := hw1
  obtain ⟨ha, hb⟩ := hh1
  obtain ⟨ca, cb⟩ := hc
  have c0 : w.cell? ⟨g, 0, none⟩ = some (.int .i8 wd) := by rw [cell_of_row w g 0 _ t fr q0, sea_0]
  have c1 : w.cell? ⟨g, 1, none⟩ = some (.int .i8 hi) := by rw [cell_of_row w g 1 _ t fr q0, sea_1]
  clear q0
  unfold goesV
  rw [inB_pl]
  obtain rfl | rfl | rfl | rfl | rfl : way = 0 ∨ way = 1 ∨ way = 2 ∨ way = 3 ∨ way = 4 := by omega
  all_goals
    simp only [mvx, mvy, Int.reduceEq, reduceIte]
    clear hy
  · cases e1 : inB (c % 6) 0 (wd - 1)
    · go_enter Try.func79, Try.ntmps79
      go_wp2_with (go_at_call 48; refine (spec_l00In _ _ _ _).mono ?_; rintro e w1 ⟨rfl, rfl⟩)
      go_ret
      exact ⟨rfl, rfl⟩
    · cases e2 : inB (c / 6) 0 (hi - 1)
      · go_enter Try.func79, Try.ntmps79
        go_wp2_with (go_at_call 48; refine (spec_l00In _ _ _ _).mono ?_; rintro e w1 ⟨rfl, rfl⟩)
        go_ret
        exact ⟨rfl, rfl⟩
      · go_enter Try.func79, Try.ntmps79
        go_wp2_with (go_at_call 48; refine (spec_l00In _ _ _ _).mono ?_; rintro e w1 ⟨rfl, rfl⟩)
        go_ret
        exact ⟨rfl, rfl⟩
  · cases e1 : inB (c % 6) 0 (wd - 1)
    · go_enter Try.func79, Try.ntmps79
      go_wp2_with (go_at_call 48; refine (spec_l00In _ _ _ _).mono ?_; rintro e w1 ⟨rfl, rfl⟩)
      go_ret
      exact ⟨rfl, rfl⟩
    · cases e2 : inB (c / 6 - 1) 0 (hi - 1)
      · go_enter Try.func79, Try.ntmps79
        go_wp2_with (go_at_call 48; refine (spec_l00In _ _ _ _).mono ?_; rintro e w1 ⟨rfl, rfl⟩)
        go_ret
        exact ⟨rfl, rfl⟩
      · go_enter Try.func79, Try.ntmps79
        go_wp2_with (go_at_call 48; refine (spec_l00In _ _ _ _).mono ?_; rintro e w1 ⟨rfl, rfl⟩)
        go_ret
        exact ⟨rfl, rfl⟩
  · cases e1 : inB (c % 6 + 1) 0 (wd - 1)
    · go_enter Try.func79, Try.ntmps79
      go_wp2_with (go_at_call 48; refine (spec_l00In _ _ _ _).mono ?_; rintro e w1 ⟨rfl, rfl⟩)
      go_ret
      exact ⟨rfl, rfl⟩
    · cases e2 : inB (c / 6) 0 (hi - 1)
      · go_enter Try.func79, Try.ntmps79
        go_wp2_with (go_at_call 48; refine (spec_l00In _ _ _ _).mono ?_; rintro e w1 ⟨rfl, rfl⟩)
        go_ret
        exact ⟨rfl, rfl⟩
      · go_enter Try.func79, Try.ntmps79
        go_wp2_with (go_at_call 48; refine (spec_l00In _ _ _ _).mono ?_; rintro e w1 ⟨rfl, rfl⟩)
        go_ret
        exact ⟨rfl, rfl⟩
  · cases e1 : inB (c % 6) 0 (wd - 1)
    · go_enter Try.func79, Try.ntmps79
      go_wp2_with (go_at_call 48; refine (spec_l00In _ _ _ _).mono ?_; rintro e w1 ⟨rfl, rfl⟩)
      go_ret
      exact ⟨rfl, rfl⟩
    · cases e2 : inB (c / 6 + 1) 0 (hi - 1)
      · go_enter Try.func79, Try.ntmps79
        go_wp2_with (go_at_call 48; refine (spec_l00In _ _ _ _).mono ?_; rintro e w1 ⟨rfl, rfl⟩)
        go_ret
        exact ⟨rfl, rfl⟩
      · go_enter Try.func79, Try.ntmps79
        go_wp2_with (go_at_call 48; refine (spec_l00In _ _ _ _).mono ?_; rintro e w1 ⟨rfl, rfl⟩)
        go_ret
        exact ⟨rfl, rfl⟩
  · cases e1 : inB (c % 6 - 1) 0 (wd - 1)
    · go_enter Try.func79, Try.ntmps79
      go_wp2_with (go_at_call 48; refine (spec_l00In _ _ _ _).mono ?_; rintro e w1 ⟨rfl, rfl⟩)
      go_ret
      exact ⟨rfl, rfl⟩
    · cases e2 : inB (c / 6) 0 (hi - 1)
      · go_enter Try.func79, Try.ntmps79
        go_wp2_with (go_at_call 48; refine (spec_l00In _ _ _ _).mono ?_; rintro e w1 ⟨rfl, rfl⟩)
        go_ret
        exact ⟨rfl, rfl⟩
      · go_enter Try.func79, Try.ntmps79
        go_wp2_with (go_at_call 48; refine (spec_l00In _ _ _ _).mono ?_; rintro e w1 ⟨rfl, rfl⟩)
        go_ret
        exact ⟨rfl, rfl⟩

set_option maxHeartbeats 400000 in
theorem way_here (x y : Int) (hx : 0 ≤ x ∧ x ≤ 100) (hy : 0 ≤ y ∧ y ≤ 100) (w : World) : Calls Try.prog 91 #[.agg #[.int .i64 x, .int .i64 y]] w fun e w' => e = .returned (.agg #[.int .i64 (x), .int .i64 (y)]) ∧ Below w.heap.size w w' := by
  obtain ⟨xa, xb⟩ := hx
  obtain ⟨ya, yb⟩ := hy
  go_enter Try.func91, Try.ntmps91
  go_wp2
  exact bodyPost_ret (v := .agg #[.int .i64 (x), .int .i64 (y)]) (by simp [results, Try.results91, go_sem]) rfl ⟨rfl, chainAlloc (chainAlloc (Below.refl w.heap.size w) _) _⟩

set_option maxHeartbeats 400000 in
theorem way_north (x y : Int) (hx : 0 ≤ x ∧ x ≤ 100) (hy : 0 ≤ y ∧ y ≤ 100) (w : World) : Calls Try.prog 92 #[.agg #[.int .i64 x, .int .i64 y]] w fun e w' => e = .returned (.agg #[.int .i64 (x), .int .i64 (y - 1)]) ∧ Below w.heap.size w w' := by
  obtain ⟨xa, xb⟩ := hx
  obtain ⟨ya, yb⟩ := hy
  go_enter Try.func92, Try.ntmps92
  go_wp2
  exact bodyPost_ret (v := .agg #[.int .i64 (x), .int .i64 (y - 1)]) (by simp [results, Try.results92, go_sem]) rfl ⟨rfl, chainAlloc (chainAlloc (Below.refl w.heap.size w) _) _⟩

set_option maxHeartbeats 400000 in
theorem way_east (x y : Int) (hx : 0 ≤ x ∧ x ≤ 100) (hy : 0 ≤ y ∧ y ≤ 100) (w : World) : Calls Try.prog 93 #[.agg #[.int .i64 x, .int .i64 y]] w fun e w' => e = .returned (.agg #[.int .i64 (x + 1), .int .i64 (y)]) ∧ Below w.heap.size w w' := by
  obtain ⟨xa, xb⟩ := hx
  obtain ⟨ya, yb⟩ := hy
  go_enter Try.func93, Try.ntmps93
  go_wp2
  exact bodyPost_ret (v := .agg #[.int .i64 (x + 1), .int .i64 (y)]) (by simp [results, Try.results93, go_sem]) rfl ⟨rfl, chainAlloc (chainAlloc (Below.refl w.heap.size w) _) _⟩

set_option maxHeartbeats 400000 in
theorem way_south (x y : Int) (hx : 0 ≤ x ∧ x ≤ 100) (hy : 0 ≤ y ∧ y ≤ 100) (w : World) : Calls Try.prog 94 #[.agg #[.int .i64 x, .int .i64 y]] w fun e w' => e = .returned (.agg #[.int .i64 (x), .int .i64 (y + 1)]) ∧ Below w.heap.size w w' := by
  obtain ⟨xa, xb⟩ := hx
  obtain ⟨ya, yb⟩ := hy
  go_enter Try.func94, Try.ntmps94
  go_wp2
  exact bodyPost_ret (v := .agg #[.int .i64 (x), .int .i64 (y + 1)]) (by simp [results, Try.results94, go_sem]) rfl ⟨rfl, chainAlloc (chainAlloc (Below.refl w.heap.size w) _) _⟩

set_option maxHeartbeats 400000 in
theorem way_west (x y : Int) (hx : 0 ≤ x ∧ x ≤ 100) (hy : 0 ≤ y ∧ y ≤ 100) (w : World) : Calls Try.prog 95 #[.agg #[.int .i64 x, .int .i64 y]] w fun e w' => e = .returned (.agg #[.int .i64 (x - 1), .int .i64 (y)]) ∧ Below w.heap.size w w' := by
  obtain ⟨xa, xb⟩ := hx
  obtain ⟨ya, yb⟩ := hy
  go_enter Try.func95, Try.ntmps95
  go_wp2
  exact bodyPost_ret (v := .agg #[.int .i64 (x - 1), .int .i64 (y)]) (by simp [results, Try.results95, go_sem]) rfl ⟨rfl, chainAlloc (chainAlloc (Below.refl w.heap.size w) _) _⟩
end Go.Proofs.Ytbgkcfgdedhclaa
