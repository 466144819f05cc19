/- ValidChances answers as its model: at all chances. No conditions. -/
import Derived.Test.YtcddegplppmgbaaRows
import Derived.Test.YtcddegplppmgbaaChances
import Derived.Test.YtcddegplppmgbaaOpen
namespace Go.Proofs.Ytcddegplppmgbaa
open Go.ChangeShapes Go.WideShapes Go.ChangeAt Go.RowKit
set_option linter.unusedVariables false

set_option maxHeartbeats 1000000 in
theorem law_ValidChances (x0 x1 x2 x3 x4 : Int) (h0 : 0 ≤ x0 ∧ x0 ≤ 255) (h1 : 0 ≤ x1 ∧ x1 ≤ 255) (h2 : 0 ≤ x2 ∧ x2 ≤ 255) (h3 : 0 ≤ x3 ∧ x3 ≤ 255) (h4 : 0 ≤ x4 ∧ x4 ≤ 255) (w : World) :
    Calls Try.prog 4 #[.agg (ch5 x0 x1 x2 x3 x4)] w fun e w' => e = .returned (.bool true) ∧ Below w.heap.size w w' := by
  have hB0 := chainAlloc (Below.refl w.heap.size w) (.cells (ch5 x0 x1 x2 x3 x4) 24)
  have q0 := newBlock w (.cells (ch5 x0 x1 x2 x3 x4) 24)
  go_enter Try.func4, Try.ntmps4
  go_wp2_with (first | (refine wpList_load_row rfl 24 _ rfl _ rfl _ _ _ _ (by assumption) Try.underlying24 rfl (by kernel_rfl) ?_) | (go_at_call 12; refine (laws_toChances x0 x1 x2 x3 x4 _).mono ?_; rintro e w1 ⟨rfl, hb1⟩; have q1 := keep hb1 (by assumption); have hB1 := chain (by assumption) hb1) | (go_at_call 11; refine (spec_ValidChances x0 x1 x2 x3 x4 h0 h1 h2 h3 h4 _).mono ?_; rintro e w2 ⟨rfl, hb2⟩; have q2 := keep hb2 (by assumption); have hB2 := chain (by assumption) hb2) | (go_at_call 13; refine (impl_ValidChances x0 x1 x2 x3 x4 h0 h1 h2 h3 h4 _).mono ?_; rintro e w4 ⟨rfl, hb4⟩; have hB4 := chain (by assumption) hb4))
  go_ret
  exact ⟨rfl, by assumption⟩

namespace lawValidChances
theorem lifted (os : Os) (started : os.Started) (H : Type) (enc : TypeId × Value → H) :
    ReturnsInHanded {} Try.checked os 4 .any (Rows.fnExactValidChancesSpec.pre6 enc Try.prog Try.f4 Rows.fnExactValidChancesRow.domain false) (Rows.fnExactValidChancesSpec.post enc Try.prog Try.f4 false true false false) := by
  refine law_lifted (C := Try.checked) (tb := 4) (by kernel_rfl) (by kernel_rfl) (by kernel_rfl) Try.func4 (by kernel_rfl) Try.underlying4 (of_decide_eq_true (by kernel_rfl)) rfl ?_ os started H enc
    (ChangeSpec.witness6 (enc := enc) (C := Try.checked) false ⟨#[], #[.agg (ch5 0 0 0 0 0)], []⟩ 8 (by kernel_rfl) (by kernel_rfl) (by kernel_rfl) (by kernel_rfl)) ?_
  · intro H ds hds
    rw [show Try.f4.params.toList.length = 1 by kernel_rfl] at hds
    match ds, hds with
    | [_], _ => rfl
  · intro W base args ds ps hval hA
    rw [Try.params4] at hA hval
    obtain ⟨v0, d0, hargs, rfl, h0⟩ := trodAll_one hA
    obtain ⟨cs, rfl⟩ := agg_of_okWide Try.underlying24 rfl (hval 0 24 v0 rfl (by rw [hargs]; rfl))
    obtain ⟨fuel, hf⟩ := h0
    obtain ⟨hl, hq⟩ := trod_array_all (m := 1) Try.underlying24 (by kernel_rfl) (by omega) (by kernel_rfl) (trod_u8 Try.underlying5) hf
    obtain ⟨x0, x1, x2, x3, x4, e, b0, b1, b2, b3, b4⟩ := five_u8 hl hq
    obtain rfl : cs = ch5 x0 x1 x2 x3 x4 := by
      have : cs.toList = _ := e
      exact Array.toList_inj.1 (by rw [this])
    obtain rfl : args = #[.agg (ch5 x0 x1 x2 x3 x4)] := hargs
    exact law_ValidChances x0 x1 x2 x3 x4 b0 b1 b2 b3 b4 W

theorem over : Rows.fnExactValidChancesRow.holds Try.pinned (OpenSpec.ofChange Rows.fnExactValidChancesSpec) :=
  OpenClaim.holds_of_wide 4 Try.f4 rfl rfl rfl rfl rfl rfl rfl ⟨rfl, rfl, rfl, rfl, rfl⟩ rfl rfl rfl rfl rfl (by kernel_rfl) Try.func4 (by kernel_rfl)
    (of_decide_eq_true (by kernel_rfl)) (by unfold Func.isWrapper; first | (rw [if_pos (by decide +kernel)]; kernel_rfl) | (rw [if_neg (by decide +kernel)]; exact ⟨rfl, rfl⟩))
    (fun os started H enc _ => lifted os started H enc)

theorem proved : Rows.FnExactValidChancesSaid := over
#print axioms proved
end lawValidChances
end Go.Proofs.Ytcddegplppmgbaa
