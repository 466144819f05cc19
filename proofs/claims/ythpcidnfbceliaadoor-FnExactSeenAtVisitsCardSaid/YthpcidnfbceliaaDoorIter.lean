/- The program's iterator over all cells has its contract. -/
import Derived.RangeFuncNested
import Derived.RangeFuncBound
import Derived.RangeFuncCalls
import Derived.RangeFuncLeaves
import Derived.Shelf.Abstract
import Derived.Shelf.RegionOpen
import Derived.WalkKit
import Derived.OwnWalkIn
import Derived.TacticsInMore
import Derived.LoopNIn
import Derived.LoopIn
import Derived.Test.YthpcidnfbceliaaDoorImplA
namespace Go.Proofs.YthpcidnfbceliaaDoor
open Go.ChangeShapes Go.WideShapes Go.ChangeAt Go.RowKit Go.Shelf
set_option linter.unusedVariables false
attribute [local go_sem] Oper.semAt_some

/-- A cell of a grid. -/
def CellOf (wd hi : Int) : Type := { c : Int // isB wd hi c = true }

/-- The cells with numbers below k, in ascending order. -/
def uptoL (wd hi : Int) : Nat → List (CellOf wd hi)
  | 0 => []
  | k + 1 => if h : isB wd hi k = true then uptoL wd hi k ++ [⟨k, h⟩] else uptoL wd hi k

theorem uptoL_length (wd hi : Int) : ∀ k, (uptoL wd hi k).length ≤ k
  | 0 => Nat.le_refl 0
  | k + 1 => by
    have := uptoL_length wd hi k
    unfold uptoL
    split
    · rw [List.length_append]; show _ + 1 ≤ _; omega
    · omega
theorem uptoL_yes {wd hi : Int} {k : Nat} (h : isB wd hi k = true) : uptoL wd hi (k + 1) = uptoL wd hi k ++ [⟨k, h⟩] := by
  conv => lhs; unfold uptoL
  rw [dif_pos h]
theorem uptoL_no {wd hi : Int} {k : Nat} (h : isB wd hi k = false) : uptoL wd hi (k + 1) = uptoL wd hi k := by
  conv => lhs; unfold uptoL
  rw [dif_neg (by simp [h])]
theorem uptoL_skip {wd hi : Int} (k : Nat) : ∀ n, (∀ j, j < n → isB wd hi (k + j : Nat) = false) → uptoL wd hi (k + n) = uptoL wd hi k
  | 0, _ => rfl
  | n + 1, h => by
    rw [← Nat.add_assoc, uptoL_no (h n (by omega))]
    exact uptoL_skip k n fun j hj => h j (by omega)
theorem uptoL_row {wd hi y : Nat} (hw : wd ≤ 6) : uptoL wd hi (6 * (y + 1)) = uptoL wd hi (6 * y + wd) := by
  have := uptoL_skip (wd := wd) (hi := hi) (6 * y + wd) (6 - wd) (fun j hj => decide_eq_false fun h => by omega)
  rwa [show 6 * y + wd + (6 - wd) = 6 * (y + 1) by omega] at this
theorem uptoL_end {wd hi : Nat} (hh : hi ≤ 6) : uptoL wd hi 36 = uptoL wd hi (6 * hi) := by
  have := uptoL_skip (wd := wd) (hi := hi) (6 * hi) (36 - 6 * hi) (fun j hj => decide_eq_false fun h => by omega)
  rwa [show 6 * hi + (36 - 6 * hi) = 36 by omega] at this
theorem isB_at {wd hi x y : Nat} (hw : wd ≤ 6) (hh : hi ≤ 6) (hx : x < wd) (hy : y < hi) : isB wd hi (6 * y + x : Nat) = true := decide_eq_true (by omega)

theorem uptoL_prefix {wd hi : Int} {k : Nat} : ∀ {m : Nat}, k ≤ m → uptoL wd hi k <+: uptoL wd hi m
  | 0, h => by obtain rfl : k = 0 := by omega
               exact List.prefix_refl _
  | m + 1, h => by
    by_cases e : k = m + 1
    · subst e; exact List.prefix_refl _
    · have := uptoL_prefix (wd := wd) (hi := hi) (k := k) (m := m) (by omega)
      refine this.trans ?_
      by_cases hb : isB wd hi m = true
      · rw [uptoL_yes hb]; exact List.prefix_append _ _
      · rw [uptoL_no (by simpa using hb)]; exact List.prefix_refl _

/-- Both boxes lie as they lay. -/
def KeepBoxes (bh bw : Nat) (W W' : World) : Prop := (∀ o, W.heap[bh]? = some o → W'.heap[bh]? = some o) ∧ (∀ o, W.heap[bw]? = some o → W'.heap[bw]? = some o)

set_option maxHeartbeats 400000 in
theorem impl_cellOf_exact (x y : Int) (hx : 0 ≤ x ∧ x ≤ 100) (hy : 0 ≤ y ∧ y ≤ 100) (w : World) : Calls Tryd.prog 124 #[.agg #[.int .i64 x, .int .i64 y]] w fun e w' => e = .returned (.int .i64 (x + 6 * y)) ∧ w.alloc (.cells #[.int .i64 x, .int .i64 y] 174) = w' := by
  obtain ⟨xa, xb⟩ := hx
  obtain ⟨ya, yb⟩ := hy
  go_enter Tryd.func124, Tryd.ntmps124
  go_wp2
  go_ret
  exact ⟨rfl, rfl⟩

set_option maxRecDepth 100000 in
set_option maxHeartbeats 1000000 in
theorem eachCell_in (n : Nat) (hn : 1 ≤ n) (l bh bw wd hi : Nat) (hw6 : wd ≤ 6) (hh6 : hi ≤ 6) (J Jx : List (CellOf wd hi) → World → Prop) (B : Nat) (hJ : AbidesFrom B J)
    (hY : ∀ pre x W, J pre W → pre.length < 36 → YieldAt Fence.wide (n - 1) Tryd.prog l #[.int .i64 x.1] W fun e W' =>
      (e = .returned (.bool true) ∧ J (pre ++ [x]) W' ∧ KeepBoxes bh bw W W') ∨ (e = .returned (.bool false) ∧ Jx (pre ++ [x]) W'))
    (W : World) (hbh : W.heap[bh]? = some (.cells #[.int .i64 hi] 2 (0, 0))) (hbw : W.heap[bw]? = some (.cells #[.int .i64 wd] 2 (0, 0))) (h0 : J [] W) :
    CallsIn Fence.wide n Tryd.prog 123 #[.func (.yield l) #[] #[], .pointer (some ⟨bh, 0, none⟩), .pointer (some ⟨bw, 0, none⟩)] W fun e W' => (∃ v, e = .returned v) ∧
      ((∃ ys, ys = uptoL wd hi 36 ∧ J ys W') ∨ (∃ pre, pre <+: uptoL wd hi 36 ∧ Jx pre W')) := by
  refine callsIn_of_wp Tryd.func123 rfl trivial ?_ rfl
  simp only [Tryd.ntmps123, List.size_toArray, List.length_cons, List.length_nil, Nat.reduceAdd, Nat.reduceSub, Array.replicate_succ, Array.replicate_zero, List.push_toArray, List.append_toArray, List.nil_append, List.cons_append]
  have ch : W.cell? ⟨bh, 0, none⟩ = some (.int .i64 hi) := by rw [cell_of_row W bh 0 _ _ _ hbh]; rfl
  gi_wp2
  gi_loopw [7] (fun yv wr => ∃ y : Nat, y ≤ hi ∧ yv = .int .i64 y ∧ J (uptoL wd hi (6 * y)) wr ∧ wr.heap[bh]? = some (.cells #[.int .i64 hi] 2 (0, 0)) ∧ wr.heap[bw]? = some (.cells #[.int .i64 wd] 2 (0, 0))) (fun yv _ => hi - (intOf yv).toNat)
  case atStart => exact ⟨0, Nat.zero_le _, rfl, h0, hbh, hbw⟩
  case round =>
    obtain ⟨y, hy, rfl, hJ0, hbh0, hbw0⟩ := hrel
    clear ch hbh hbw h0
    by_cases hlt : y < hi
    · have cw : wr.cell? ⟨bw, 0, none⟩ = some (.int .i64 wd) := by rw [cell_of_row wr bw 0 _ _ _ hbw0]; rfl
      gi_wp2
      clear cw
      gi_loopw [5, 11] (fun _ xv wq => ∃ x : Nat, x ≤ wd ∧ xv = .int .i64 x ∧ J (uptoL wd hi (6 * y + x)) wq ∧ wq.heap[bh]? = some (.cells #[.int .i64 hi] 2 (0, 0)) ∧ wq.heap[bw]? = some (.cells #[.int .i64 wd] 2 (0, 0))) (fun _ xv _ => wd - (intOf xv).toNat)
      case atStart => exact ⟨0, Nat.zero_le _, rfl, hJ0, hbh0, hbw0⟩
      case round =>
        obtain ⟨x, hx, rfl, hJ1, hbh1, hbw1⟩ := hrel
        clear hbh0 hbw0 hJ0
        by_cases hxl : x < wd
        · have hB := isB_at hw6 hh6 hxl hlt
          have hJ' : J (uptoL wd hi (6 * y + x)) (wr.alloc (.cells #[.int .i64 x, .int .i64 y] 174)) := hJ _ _ _ none hJ1 (World.grownBy_alloc _ _ _) (fun r e => by cases e)
          have hlen := uptoL_length wd hi (6 * y + x)
          obtain ⟨fn, tmps, assign, body, hy', hR⟩ := hY (uptoL wd hi (6 * y + x)) ⟨_, hB⟩ _ hJ' (by omega)
          dsimp only at hy'
          rw [show ((6 * y + x : Nat) : Int) = (x : Int) + 6 * (y : Int) by omega] at hy'
          rw [← uptoL_yes hB] at hR
          have HB := mkHid hB
          clear hB hlen hJ'
          gi_wp2_with (refine ⟨trivial, ?_⟩; gi_at_call 124; refine (callsIn_wide.2 (impl_cellOf_exact x y ⟨by omega, by omega⟩ ⟨by omega, by omega⟩ _)).mono ?_; rintro e w1 ⟨rfl, rfl⟩)
          refine hR.mono ?_
          rintro e W2 (⟨rfl, hJ2, hk⟩ | ⟨rfl, hJx2⟩)
          · have hbh2 := hk.1 _ (keepAlloc (.cells #[.int .i64 x, .int .i64 y] 174) hbh1)
            have hbw2 := hk.2 _ (keepAlloc (.cells #[.int .i64 x, .int .i64 y] 174) hbw1)
            clear hk hbh1 hbw1 hJ1 hy' hR
            gi_wp2
            go_roundw
            case rel => exact ⟨x + 1, by omega, by go_num, by rw [show 6 * y + (x + 1) = 6 * y + x + 1 by omega]; exact hJ2, hbh2, hbw2⟩
            case measure => simp [intOf]; omega
          · gi_wp2
            refine bodyPost_ret (results_none rfl _ _ _) rfl ?_
            exact ⟨⟨_, rfl⟩, .inr ⟨_, uptoL_prefix (by omega), hJx2⟩⟩
        · obtain rfl : x = wd := by omega
          have hJ2 := hJ1
          rw [← uptoL_row hw6] at hJ2
          clear hJ1
          gi_wp2
          go_roundw
          case rel => exact ⟨y + 1, by omega, by go_num, hJ2, hbh1, hbw1⟩
          case measure => simp [intOf]; omega
    · obtain rfl : y = hi := by omega
      rw [← uptoL_end hh6] at hJ0
      gi_wp2
      go_end0
      exact ⟨⟨_, rfl⟩, .inl ⟨_, rfl, hJ0⟩⟩
end Go.Proofs.YthpcidnfbceliaaDoor
