/- ValidSea answers as its model: at all seas. No conditions. -/
import Derived.Test.YtcddegplppmgbaaRows
import Derived.Test.YtcddegplppmgbaaSpecOk
namespace Go.Proofs.Ytcddegplppmgbaa
open Go.ChangeShapes Go.WideShapes Go.ChangeAt Go.RowKit
set_option linter.unusedVariables false

theorem impl_ValidSea (wd hi ld : Int) (T : Array Value) (hS : SeaIn wd hi ld T) (w : World) :
    Calls Try.prog 21 #[.agg (sea wd hi ld T)] w fun e w' => e = .returned (.bool (okB wd hi ld T)) ∧ Below w.heap.size w w' := by
  by_cases h : 1 ≤ wd ∧ wd ≤ 6 ∧ 1 ≤ hi ∧ hi ≤ 6
  · obtain ⟨a, rfl⟩ : ∃ a : Nat, wd = (a : Int) := ⟨wd.toNat, by omega⟩
    obtain ⟨b, rfl⟩ : ∃ b : Nat, hi = (b : Int) := ⟨hi.toNat, by omega⟩
    exact impl_ValidSea_in a b ld T hS (by omega) (by omega) (by omega) (by omega) w
  · have hn : (inB wd 1 6 && inB hi 1 6) = false := by
      unfold inB
      rw [← Bool.not_eq_true]
      intro e
      simp only [Bool.and_eq_true, decide_eq_true_eq] at e
      exact h ⟨e.1.1, e.1.2, e.2.1, e.2.2⟩
    rw [okB_size hn]
    exact impl_ValidSea_size wd hi ld T hS h w

set_option maxHeartbeats 400000 in
theorem spec_ValidSea (wd hi ld : Int) (T : Array Value) (hS : SeaIn wd hi ld T) (w : World) :
    Calls Try.prog 20 #[.agg (sea wd hi ld T)] w fun e w' => e = .returned (.bool (okB wd hi ld T)) ∧ Below w.heap.size w w' := by
  have q0 := newBlock w (.cells (sea wd hi ld T) 39)
  have qB := chainAlloc (Below.refl w.heap.size w) (.cells (sea wd hi ld T) 39)
  have hC := spec_l01Ok w.heap.size 39 (0, 0) wd hi ld T hS _ q0
  clear q0
  go_enter Try.func20, Try.ntmps20
  go_wp2_with (go_at_call 36; refine hC.mono ?_; rintro e w1 ⟨rfl, hb1⟩; replace qB := chain qB hb1)
  go_ret
  exact ⟨rfl, qB⟩

set_option maxHeartbeats 1000000 in
theorem law_ValidSea (wd hi ld : Int) (T : Array Value) (hS : SeaIn wd hi ld T) (w : World) :
    Calls Try.prog 7 #[.agg (sea wd hi ld T)] w fun e w' => e = .returned (.bool true) ∧ Below w.heap.size w w' := by
  have q0 := newBlock w (.cells (sea wd hi ld T) 34)
  have qB := chainAlloc (Below.refl w.heap.size w) (.cells (sea wd hi ld T) 34)
  have hi0 : (Try.prog.info? 34).map (·.size) = some (sea wd hi ld T).size := by rw [sea_size, hS.size]; kernel_rfl
  have hT := laws_toSea wd hi ld T hS.size hS.bytes
  have hG := spec_ValidSea wd hi ld T hS
  have hI := impl_ValidSea wd hi ld T hS
  clear hS
  go_enter Try.func7, Try.ntmps7
  go_wp2_with (first | (refine at_load 34 rfl ?_; refine wpList_load_row rfl 34 _ rfl _ rfl _ _ _ _ q0 Try.underlying34 rfl hi0 ?_) | (go_at_call 15; refine (hT _).mono ?_; rintro e w1 ⟨rfl, hb1⟩; replace q0 := keep hb1 q0; replace qB := chain qB hb1; clear hb1) | (go_at_call 20; refine (hG _).mono ?_; rintro e w1 ⟨rfl, hb1⟩; replace q0 := keep hb1 q0; replace qB := chain qB hb1; clear hb1) | (go_at_call 21; refine (hI _).mono ?_; rintro e w1 ⟨rfl, hb1⟩; replace q0 := keep hb1 q0; replace qB := chain qB hb1; clear hb1))
  go_ret
  exact ⟨rfl, qB⟩

namespace lawValidSea
theorem lifted (os : Os) (started : os.Started) (H : Type) (enc : TypeId × Value → H) :
    ReturnsInHanded {} Try.checked os 7 .any (Rows.fnExactValidSeaSpec.pre6 enc Try.prog Try.f7 Rows.fnExactValidSeaRow.domain false) (Rows.fnExactValidSeaSpec.post enc Try.prog Try.f7 false true false false) := by
  refine law_lifted (C := Try.checked) (tb := 4) (by kernel_rfl) (by kernel_rfl) (by kernel_rfl) Try.func7 (by kernel_rfl) Try.underlying4 (of_decide_eq_true (by kernel_rfl)) rfl ?_ os started H enc
    (ChangeSpec.witness6 (enc := enc) (C := Try.checked) false ⟨#[], #[.agg (sea 0 0 0 (zeros 360))], []⟩ 8 (by kernel_rfl) (by kernel_rfl) (by kernel_rfl) (by kernel_rfl)) ?_
  · intro H ds hds
    rw [show Try.f7.params.toList.length = 1 by kernel_rfl] at hds
    match ds, hds with
    | [_], _ => rfl
  · intro W base args ds ps hval hA
    rw [Try.params7] at hA hval
    obtain ⟨v0, d0, hargs, rfl, h0⟩ := trodAll_one hA
    obtain ⟨wda, hia, lda, Ta, e0, sa⟩ := open_sea (hval 0 34 v0 rfl (by rw [hargs]; rfl)) h0
    obtain rfl : args = #[.agg (sea wda hia lda Ta)] := by rw [hargs, e0]
    exact law_ValidSea wda hia lda Ta sa W

theorem over : Rows.fnExactValidSeaRow.holds Try.pinned (OpenSpec.ofChange Rows.fnExactValidSeaSpec) :=
  OpenClaim.holds_of_wide 7 Try.f7 rfl rfl rfl rfl rfl rfl rfl ⟨rfl, rfl, rfl, rfl, rfl⟩ rfl rfl rfl rfl rfl (by kernel_rfl) Try.func7 (by kernel_rfl)
    (of_decide_eq_true (by kernel_rfl)) (by unfold Func.isWrapper; first | (rw [if_pos (by decide +kernel)]; kernel_rfl) | (rw [if_neg (by decide +kernel)]; exact ⟨rfl, rfl⟩))
    (fun os started H enc _ => lifted os started H enc)

theorem proved : Rows.FnExactValidSeaSaid := over
#print axioms proved
end lawValidSea
end Go.Proofs.Ytcddegplppmgbaa
