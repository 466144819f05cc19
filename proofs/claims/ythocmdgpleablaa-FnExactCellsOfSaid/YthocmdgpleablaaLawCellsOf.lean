/- CellsOf answers as its model: at all seas. No conditions. -/
import Derived.Test.YthocmdgpleablaaRows
import Derived.Test.YthocmdgpleablaaSpecOk
import Derived.Test.YthocmdgpleablaaImplD
namespace Go.Proofs.Ythocmdgpleablaa
open Go.ChangeShapes Go.WideShapes Go.ChangeAt Go.RowKit
set_option linter.unusedVariables false

/-- What a function on the bits of cells answers. -/
def bitsV (ok : Bool) (b : Int) : Value := bif ok then .tuple #[.int .u64 b, .int .i64 0] else .tuple #[.int .u64 0, .int .i64 1]

theorem impl_cellBits' (wd hi ld : Int) (T : Array Value) (hS : SeaIn wd hi ld T) (hb : 1 ≤ wd ∧ wd ≤ 6 ∧ 1 ≤ hi ∧ hi ≤ 6) (w : World) :
    Calls Try.prog 34 #[.agg (sea wd hi ld T)] w fun e w' => e = .returned (.int .u64 (cellsUp wd hi 36)) ∧ Below w.heap.size w w' := by
  obtain ⟨a, rfl⟩ : ∃ a : Nat, wd = (a : Int) := ⟨wd.toNat, by omega⟩
  obtain ⟨b, rfl⟩ : ∃ b : Nat, hi = (b : Int) := ⟨hi.toNat, by omega⟩
  exact impl_cellBits a b ld T hS.size (by omega) (by omega) w

set_option maxHeartbeats 1000000 in
theorem spec_CellsOf (wd hi ld : Int) (T : Array Value) (hS : SeaIn wd hi ld T) (w : World) :
    Calls Try.prog 12 #[.agg (sea wd hi ld T)] w fun e w' => e = .returned (bitsV (okB wd hi ld T) (cellsUp wd hi 36)) ∧ Below w.heap.size w w' := by
  have q0 := newBlock w (.cells (sea wd hi ld T) 35)
  have qB := chainAlloc (Below.refl w.heap.size w) (.cells (sea wd hi ld T) 35)
  have hC := spec_l01Ok w.heap.size 35 (0, 0) wd hi ld T hS _ q0
  unfold bitsV
  cases h : okB wd hi ld T
  · simp only [h] at hC
    clear h hS q0
    go_enter Try.func12, Try.ntmps12
    go_wp2_with ((go_at_call 31; refine (hC).mono ?_; rintro e w1 ⟨rfl, hb1⟩; replace qB := chain qB hb1; clear hb1))
    go_ret2
    exact ⟨rfl, qB⟩
  · simp only [h] at hC
    have hK := fun (W : World) (q : W.heap[w.heap.size]? = some (.cells (sea wd hi ld T) 35 (0, 0))) => spec_l01Cells w.heap.size 35 (0, 0) wd hi ld T W q hS.wide hS.high
    clear h hS
    go_enter Try.func12, Try.ntmps12
    go_wp2_with (first | (go_at_call 31; refine (hC).mono ?_; rintro e w1 ⟨rfl, hb1⟩; replace q0 := keep hb1 q0; replace qB := chain qB hb1; clear hb1) | (go_at_call 32; refine (hK _ (by exact q0)).mono ?_; rintro e w2 ⟨rfl, rfl⟩))
    go_ret2
    exact ⟨rfl, qB⟩

set_option maxHeartbeats 1000000 in
theorem impl_CellsOf (wd hi ld : Int) (T : Array Value) (hS : SeaIn wd hi ld T) (w : World) :
    Calls Try.prog 13 #[.agg (sea wd hi ld T)] w fun e w' => e = .returned (bitsV (okB wd hi ld T) (cellsUp wd hi 36)) ∧ Below w.heap.size w w' := by
  have q0 := newBlock w (.cells (sea wd hi ld T) 35)
  have qB := chainAlloc (Below.refl w.heap.size w) (.cells (sea wd hi ld T) 35)
  have hi0 : (Try.prog.info? 35).map (·.size) = some (sea wd hi ld T).size := by rw [sea_size, hS.size]; kernel_rfl
  have hC := impl_seaCode wd hi ld T hS
  unfold bitsV
  cases h : okB wd hi ld T
  · simp only [h, cond_false] at hC
    clear h hS
    go_enter Try.func13, Try.ntmps13
    go_wp2_with (first | (refine at_load 35 rfl ?_; refine wpList_load_row rfl 35 _ rfl _ rfl _ _ _ _ q0 Try.underlying35 rfl hi0 ?_) | (go_at_call 33; refine (hC _).mono ?_; rintro e w1 ⟨rfl, hb1⟩; replace q0 := keep hb1 q0; replace qB := chain qB hb1; clear hb1))
    go_ret2
    exact ⟨rfl, qB⟩
  · have hBd := okB_bounds h
    simp only [h, cond_true] at hC
    have hB := impl_cellBits' wd hi ld T hS hBd
    clear h hS hBd
    go_enter Try.func13, Try.ntmps13
    go_wp2_with (first | (refine at_load 35 rfl ?_; refine wpList_load_row rfl 35 _ rfl _ rfl _ _ _ _ q0 Try.underlying35 rfl hi0 ?_) | (go_at_call 33; refine (hC _).mono ?_; rintro e w1 ⟨rfl, hb1⟩; replace q0 := keep hb1 q0; replace qB := chain qB hb1; clear hb1) | (go_at_call 34; refine (hB _).mono ?_; rintro e w1 ⟨rfl, hb1⟩; replace q0 := keep hb1 q0; replace qB := chain qB hb1; clear hb1))
    go_ret2
    exact ⟨rfl, qB⟩

set_option maxHeartbeats 1000000 in
theorem law_CellsOf (wd hi ld : Int) (T : Array Value) (hS : SeaIn wd hi ld T) (w : World) :
    Calls Try.prog 4 #[.agg (sea wd hi ld T)] w fun e w' => e = .returned (.bool true) ∧ Below w.heap.size w w' := by
  have q0 := newBlock w (.cells (sea wd hi ld T) 28)
  have qB := chainAlloc (Below.refl w.heap.size w) (.cells (sea wd hi ld T) 28)
  have hi0 : (Try.prog.info? 28).map (·.size) = some (sea wd hi ld T).size := by rw [sea_size, hS.size]; kernel_rfl
  have hT := laws_toSea wd hi ld T hS.size hS.bytes
  have hG := spec_CellsOf wd hi ld T hS
  have hI := impl_CellsOf wd hi ld T hS
  obtain ⟨a, b, hv⟩ : ∃ a b : Int, bitsV (okB wd hi ld T) (cellsUp wd hi 36) = .tuple #[.int .u64 a, .int .i64 b] := by
    unfold bitsV
    cases okB wd hi ld T
    · exact ⟨_, _, rfl⟩
    · exact ⟨_, _, rfl⟩
  rw [hv] at hG hI
  clear hS hv
  go_enter Try.func4, Try.ntmps4
  go_wp2_with (first | (refine at_load 28 rfl ?_; refine wpList_load_row rfl 28 _ rfl _ rfl _ _ _ _ q0 Try.underlying28 rfl hi0 ?_) | (go_at_call 10; refine (hT _).mono ?_; rintro e w1 ⟨rfl, hb1⟩; replace q0 := keep hb1 q0; replace qB := chain qB hb1; clear hb1) | (go_at_call 12; refine (hG _).mono ?_; rintro e w1 ⟨rfl, hb1⟩; replace q0 := keep hb1 q0; replace qB := chain qB hb1; clear hb1) | (go_at_call 13; refine (hI _).mono ?_; rintro e w1 ⟨rfl, hb1⟩; replace q0 := keep hb1 q0; replace qB := chain qB hb1; clear hb1))
  go_ret
  exact ⟨rfl, qB⟩

namespace lawCellsOf
theorem lifted (os : Os) (started : os.Started) (H : Type) (enc : TypeId × Value → H) :
    ReturnsInHanded {} Try.checked os 4 .any (Rows.fnExactCellsOfSpec.pre6 enc Try.prog Try.f4 Rows.fnExactCellsOfRow.domain false) (Rows.fnExactCellsOfSpec.post enc Try.prog Try.f4 false true false false) := by
  refine law_lifted (C := Try.checked) (tb := 4) (by kernel_rfl) (by kernel_rfl) (by kernel_rfl) Try.func4 (by kernel_rfl) Try.underlying4 (of_decide_eq_true (by kernel_rfl)) rfl ?_ os started H enc
    (ChangeSpec.witness6 (enc := enc) (C := Try.checked) false ⟨#[], #[.agg (sea 0 0 0 (zeros 360))], []⟩ 8 (by kernel_rfl) (by kernel_rfl) (by kernel_rfl) (by kernel_rfl)) ?_
  · intro H ds hds
    rw [show Try.f4.params.toList.length = 1 by kernel_rfl] at hds
    match ds, hds with
    | [_], _ => rfl
  · intro W base args ds ps hval hA
    rw [Try.params4] at hA hval
    obtain ⟨v0, d0, hargs, rfl, h0⟩ := trodAll_one hA
    obtain ⟨wda, hia, lda, Ta, e0, sa⟩ := open_sea (hval 0 28 v0 rfl (by rw [hargs]; rfl)) h0
    obtain rfl : args = #[.agg (sea wda hia lda Ta)] := by rw [hargs, e0]
    exact law_CellsOf wda hia lda Ta sa W

theorem over : Rows.fnExactCellsOfRow.holds Try.pinned (OpenSpec.ofChange Rows.fnExactCellsOfSpec) :=
  OpenClaim.holds_of_wide 4 Try.f4 rfl rfl rfl rfl rfl rfl rfl ⟨rfl, rfl, rfl, rfl, rfl⟩ rfl rfl rfl rfl rfl (by kernel_rfl) Try.func4 (by kernel_rfl)
    (of_decide_eq_true (by kernel_rfl)) (by unfold Func.isWrapper; first | (rw [if_pos (by decide +kernel)]; kernel_rfl) | (rw [if_neg (by decide +kernel)]; exact ⟨rfl, rfl⟩))
    (fun os started H enc _ => lifted os started H enc)

theorem proved : Rows.FnExactCellsOfSaid := over
#print axioms proved
end lawCellsOf
end Go.Proofs.Ythocmdgpleablaa
