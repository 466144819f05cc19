/- Has a cell one of some cells beside it, in the program? -/
import Derived.Test.YtbgkcfgdedhclaaBeside
import Derived.Test.YtbgkcfgdedhclaaLeadsTo
namespace Go.Proofs.Ytbgkcfgdedhclaa
open Go.ChangeShapes Go.WideShapes Go.ChangeAt Go.RowKit
set_option linter.unusedVariables false

/-- Does a way lead from a cell to one of others? -/
def hitO (wd hi others c : Int) (y : Nat) : Bool := decide (0 ≤ goesV wd hi c y) && dryB others (goesV wd hi c y)
def besideO (wd hi others c : Int) : Bool := (List.range 4).any fun j => hitO wd hi others c (j + 1)
theorem besO_hit {wd hi others c : Int} {j : Nat} (hj : j < 4) (h : hitO wd hi others c (j + 1) = true) : besideO wd hi others c = true := List.any_eq_true.2 ⟨j, List.mem_range.2 hj, h⟩
theorem besO_none {wd hi others c : Int} (h : ∀ j, j < 4 → hitO wd hi others c (j + 1) = false) : besideO wd hi others c = false := by
  rw [← Bool.not_eq_true]
  intro e
  obtain ⟨j, hj, hh⟩ := List.any_eq_true.1 e
  rw [h j (List.mem_range.1 hj)] at hh
  exact absurd hh (by simp)
theorem goesV_or {wd hi c y : Int} (hB : 1 ≤ wd ∧ wd ≤ 6 ∧ 1 ≤ hi ∧ hi ≤ 6) : goesV wd hi c y = -1 ∨ (0 ≤ goesV wd hi c y ∧ goesV wd hi c y ≤ 35) := by
  unfold goesV
  cases e : plB wd hi (mvx y c) (mvy y c)
  · exact Or.inl rfl
  · have := of_decide_eq_true e
    simp only [cond_true]
    omega

set_option maxRecDepth 100000 in
set_option maxHeartbeats 2000000 in
theorem impl_hasBeside (wd hi ld : Int) (T : Array Value) (hS : SeaIn wd hi ld T) (hBd : 1 ≤ wd ∧ wd ≤ 6 ∧ 1 ≤ hi ∧ hi ≤ 6) (c : Int) (hc : 0 ≤ c ∧ c ≤ 35) (others : Int) (hl : (Lit.int .u64 others).wf = true) (w : World) :
    Calls Try.prog 81 #[.agg (sea wd hi ld T), .int .i64 c, .int .u64 others] w fun e w' => e = .returned (.bool (besideO wd hi others c)) ∧ Below w.heap.size w w' := by
  have hq0 := newBlock w (.cells (sea wd hi ld T) 35)
  have hB0 := chainAlloc (Below.refl w.heap.size w) (.cells (sea wd hi ld T) 35)
  have hi0 : (Try.prog.info? 35).map (·.size) = some (sea wd hi ld T).size := by rw [sea_size, hS.size]; kernel_rfl
  have hLT := fun y hy => impl_leadsTo wd hi ld T hS hBd c hc y hy
  clear hS
  go_enter Try.func81, Try.ntmps81
  go_wp2
  go_loopw [7] (fun iv wr => ∃ j : Nat, j ≤ 4 ∧ iv = .int .i64 (j + 1 : Nat) ∧ wr.heap[w.heap.size]? = some (.cells (sea wd hi ld T) 35 (0, 0)) ∧ Below w.heap.size w wr ∧ Hid (∀ i, i < j → hitO wd hi others c (i + 1) = false)) (fun iv _ => 5 - (intOf iv).toNat)
  case atStart => exact ⟨0, Nat.zero_le _, rfl, hq0, hB0, mkHid fun j hj => absurd hj (Nat.not_lt_zero _)⟩
  case round =>
    obtain ⟨j, hj, rfl, r0, rB, hall⟩ := hrel
    clear hq0 hB0
    by_cases hjl : j < 4
    · have hL := hLT (j + 1 : Nat) (by omega)
      clear hLT
      rcases goesV_or (c := c) (y := (j + 1 : Nat)) hBd with hv | hv
      · have hn := mkHid (show ∀ i, i < j + 1 → hitO wd hi others c (i + 1) = false from fun i hi' => by
          by_cases e : i < j
          · exact hall.out i e
          · obtain rfl : i = j := by omega
            unfold hitO
            rw [hv]; rfl)
        rw [hv] at hL
        clear hv hall hBd hl
        go_wp2_with (first | (refine at_load 35 rfl ?_; refine wpList_load_row rfl 35 _ rfl _ rfl _ _ _ _ r0 Try.underlying35 rfl hi0 ?_) | (go_at_call 87; refine (hL _).mono ?_; rintro e w1 ⟨rfl, hb1⟩; replace r0 := keep hb1 r0; replace rB := chain rB hb1; clear hb1) | (go_at_call 70; refine (hBit _).mono ?_; rintro e w1 ⟨rfl, rfl⟩))
        go_round
        case rel => exact ⟨j + 1, by omega, by go_num, r0, rB, hn⟩
        case measure => simp [intOf]; omega
      · have hBit := impl_bitOf (goesV wd hi c (j + 1 : Nat)) hv
        have hB := land_bit hl hv
        cases hx : dryB others (goesV wd hi c (j + 1 : Nat))
        · have hn := mkHid (show ∀ i, i < j + 1 → hitO wd hi others c (i + 1) = false from fun i hi' => by
            by_cases e : i < j
            · exact hall.out i e
            · obtain rfl : i = j := by omega
              unfold hitO
              rw [hx]; simp)
          rw [hx] at hB
          clear hall hBd hl hx
          generalize goesV wd hi c (j + 1 : Nat) = v at hL hBit hB hv
          obtain ⟨va, vb⟩ := hv
          go_wp2_with (first | (refine at_load 35 rfl ?_; refine wpList_load_row rfl 35 _ rfl _ rfl _ _ _ _ r0 Try.underlying35 rfl hi0 ?_) | (go_at_call 87; refine (hL _).mono ?_; rintro e w1 ⟨rfl, hb1⟩; replace r0 := keep hb1 r0; replace rB := chain rB hb1; clear hb1) | (go_at_call 70; refine (hBit _).mono ?_; rintro e w1 ⟨rfl, rfl⟩))
          go_round
          case rel => exact ⟨j + 1, by omega, by go_num, r0, rB, hn⟩
          case measure => simp [intOf]; omega
        · have hY := mkHid (show besideO wd hi others c = true from besO_hit hjl (by unfold hitO; rw [hx, decide_eq_true hv.1]; rfl))
          rw [hx] at hB
          clear hall hBd hl hx
          generalize goesV wd hi c (j + 1 : Nat) = v at hL hBit hB hv
          obtain ⟨va, vb⟩ := hv
          go_wp2_with (first | (refine at_load 35 rfl ?_; refine wpList_load_row rfl 35 _ rfl _ rfl _ _ _ _ r0 Try.underlying35 rfl hi0 ?_) | (go_at_call 87; refine (hL _).mono ?_; rintro e w1 ⟨rfl, hb1⟩; replace r0 := keep hb1 r0; replace rB := chain rB hb1; clear hb1) | (go_at_call 70; refine (hBit _).mono ?_; rintro e w1 ⟨rfl, rfl⟩))
          go_ret
          exact ⟨congrArg (fun b => Ending.returned (Value.bool b)) hY.out.symm, rB⟩
    · obtain rfl : j = 4 := by omega
      have hN := mkHid (show besideO wd hi others c = false from besO_none hall.out)
      clear hall hLT hBd hl
      go_wp2
      go_ret
      exact ⟨congrArg (fun b => Ending.returned (Value.bool b)) hN.out.symm, rB⟩
end Go.Proofs.Ytbgkcfgdedhclaa
