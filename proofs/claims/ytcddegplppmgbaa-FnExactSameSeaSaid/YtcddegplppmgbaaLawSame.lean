/- SameSea answers as its model: at all seas. No conditions. -/
import Derived.Test.YtcddegplppmgbaaRows
import Derived.Test.YtcddegplppmgbaaSame2
import Derived.Test.YtcddegplppmgbaaSeaOpen
import Derived.Test.YtcddegplppmgbaaOrders
namespace Go.Proofs.Ytcddegplppmgbaa
open Go.ChangeShapes Go.WideShapes Go.ChangeAt Go.RowKit
set_option linter.unusedVariables false

set_option maxHeartbeats 1000000 in
theorem law_SameSea (wd hi ld : Int) (T : Array Value) (wd' hi' ld' : Int) (T' : Array Value) (hT : T.size = 360) (hT' : T'.size = 360) (hu : ∀ v ∈ T, IsU8 v) (hu' : ∀ v ∈ T', IsU8 v) (w : World) :
    Calls Try.prog 5 #[.agg (sea wd hi ld T), .agg (sea wd' hi' ld' T')] w fun e w' => e = .returned (.bool true) ∧ Below w.heap.size w w' := by
  have q0 := keepAlloc (.cells (sea wd' hi' ld' T') 34) (newBlock w (.cells (sea wd hi ld T) 34))
  have q1 := newAt (w.alloc (.cells (sea wd hi ld T) 34)) (.cells (sea wd' hi' ld' T') 34) (n := w.heap.size + 1) (by simp)
  have qB := chainAlloc (chainAlloc (Below.refl w.heap.size w) (.cells (sea wd hi ld T) 34)) (.cells (sea wd' hi' ld' T') 34)
  have hi0 : (Try.prog.info? 34).map (·.size) = some (sea wd hi ld T).size := by rw [sea_size, hT]; kernel_rfl
  have hi1 : (Try.prog.info? 34).map (·.size) = some (sea wd' hi' ld' T').size := by rw [sea_size, hT']; kernel_rfl
  go_enter Try.func5, Try.ntmps5
  go_wp2_with fail
  refine wp_region_held_drew (S := (fun W => W.heap[w.heap.size]? = some (.cells (sea wd hi ld T) 34 (0, 0)) ∧ W.heap[w.heap.size + 1]? = some (.cells (sea wd' hi' ld' T') 34 (0, 0)) ∧ Below w.heap.size w W)) (by kernel_rfl) ⟨q0, q1, qB.drew⟩ (fun hS1 => ?_)
  clear q0 q1 qB
  refine wpAnyH_take (i := 0) rfl (by kernel_rfl) (by kernel_rfl) (by kernel_rfl) (fun _ _ _ h => h) (yields_row rfl 34 _ rfl _ rfl _ _ _ (fun W h => h.1) _ Try.underlying34 rfl hi0) hS1 ?_
  refine wpAnyH_take (i := 2) rfl (by kernel_rfl) (by kernel_rfl) (by kernel_rfl) (fun _ _ _ h => h) (yields_row rfl 34 _ rfl _ rfl _ _ _ (fun W h => h.2.1) _ Try.underlying34 rfl hi1) hS1 ?_
  simp only [Act.put, List.setIfInBounds_toArray]
  refine wpAnyH_ready (rs := [1]) (by kernel_rfl) (by simp) (AllReadyH.cons rfl (fun K hK => ?_) AllReadyH.nil)
  go_simp
  refine (laws_toSea wd hi ld T hT hu _).mono ?_
  rintro e w2 ⟨rfl, hb⟩
  refine hK.out _ _ ⟨keep hb hS1.1, keep hb hS1.2.1, chain hS1.2.2 hb⟩ (fun hS2 => ?_)
  clear hK K hS1 hb
  refine wpAnyH_ready (rs := [3]) (by kernel_rfl) (by simp) (AllReadyH.cons rfl (fun K hK => ?_) AllReadyH.nil)
  go_simp
  refine (laws_toSea wd' hi' ld' T' hT' hu' _).mono ?_
  rintro e w3 ⟨rfl, hb⟩
  refine hK.out _ _ ⟨keep hb hS2.1, keep hb hS2.2.1, chain hS2.2.2 hb⟩ (fun hS3 => ?_)
  clear hK K hS2 hb
  refine wpAnyH_ready (rs := [4]) (by kernel_rfl) (by simp) (AllReadyH.cons rfl (fun K hK => ?_) AllReadyH.nil)
  go_simp
  refine (spec_SameSea wd hi ld T wd' hi' ld' T' hT hT' hu hu' _).mono ?_
  rintro e w4 ⟨rfl, hb⟩
  refine hK.out _ _ ⟨keep hb hS3.1, keep hb hS3.2.1, chain hS3.2.2 hb⟩ (fun hS4 => ?_)
  clear hK K hS3 hb
  refine wpAnyH_ready (rs := [5]) (by kernel_rfl) (by simp) (AllReadyH.cons rfl (fun K hK => ?_) AllReadyH.nil)
  go_simp
  refine hK.out _ _ hS4 (fun _ => ?_)
  clear hK K
  refine wpAnyH_done (by kernel_rfl) ?_ _
  go_wp2_with fail
  refine wp_region_held_drew (S := (fun W => W.heap[w.heap.size]? = some (.cells (sea wd hi ld T) 34 (0, 0)) ∧ W.heap[w.heap.size + 1]? = some (.cells (sea wd' hi' ld' T') 34 (0, 0)) ∧ Below w.heap.size w W)) (by kernel_rfl) ⟨hS4.1, hS4.2.1, hS4.2.2.drew⟩ (fun hS5 => ?_)
  clear hS4
  refine wpAnyH_take (i := 0) rfl (by kernel_rfl) (by kernel_rfl) (by kernel_rfl) (fun _ _ _ h => h) (yields_row rfl 34 _ rfl _ rfl _ _ _ (fun W h => h.1) _ Try.underlying34 rfl hi0) hS5 ?_
  refine wpAnyH_take (i := 2) rfl (by kernel_rfl) (by kernel_rfl) (by kernel_rfl) (fun _ _ _ h => h) (yields_row rfl 34 _ rfl _ rfl _ _ _ (fun W h => h.2.1) _ Try.underlying34 rfl hi1) hS5 ?_
  simp only [Act.put, List.setIfInBounds_toArray]
  refine wpAnyH_ready (rs := [1]) (by kernel_rfl) (by simp) (AllReadyH.cons rfl (fun K hK => ?_) AllReadyH.nil)
  go_simp
  refine (laws_toSea wd hi ld T hT hu _).mono ?_
  rintro e w6 ⟨rfl, hb⟩
  refine hK.out _ _ ⟨keep hb hS5.1, keep hb hS5.2.1, chain hS5.2.2 hb⟩ (fun hS6 => ?_)
  clear hK K hS5 hb
  refine wpAnyH_ready (rs := [3]) (by kernel_rfl) (by simp) (AllReadyH.cons rfl (fun K hK => ?_) AllReadyH.nil)
  go_simp
  refine (laws_toSea wd' hi' ld' T' hT' hu' _).mono ?_
  rintro e w7 ⟨rfl, hb⟩
  refine hK.out _ _ ⟨keep hb hS6.1, keep hb hS6.2.1, chain hS6.2.2 hb⟩ (fun hS7 => ?_)
  clear hK K hS6 hb
  refine wpAnyH_ready (rs := [4]) (by kernel_rfl) (by simp) (AllReadyH.cons rfl (fun K hK => ?_) AllReadyH.nil)
  go_simp
  refine (impl_SameSea wd hi ld T wd' hi' ld' T' hT hT' hu hu' _).mono ?_
  rintro e w8 ⟨rfl, hb⟩
  refine hK.out _ _ ⟨keep hb hS7.1, keep hb hS7.2.1, chain hS7.2.2 hb⟩ (fun hS8 => ?_)
  clear hK K hS7 hb
  refine wpAnyH_ready (rs := [5]) (by kernel_rfl) (by simp) (AllReadyH.cons rfl (fun K hK => ?_) AllReadyH.nil)
  go_simp
  refine hK.out _ _ hS8 (fun _ => ?_)
  clear hK K
  refine wpAnyH_done (by kernel_rfl) ?_ _
  go_wp2_with fail
  go_ret
  exact ⟨rfl, hS8.2.2⟩

namespace lawSameSea
theorem lifted (os : Os) (started : os.Started) (H : Type) (enc : TypeId × Value → H) :
    ReturnsInHanded {} Try.checked os 5 .any (Rows.fnExactSameSeaSpec.pre6 enc Try.prog Try.f5 Rows.fnExactSameSeaRow.domain false) (Rows.fnExactSameSeaSpec.post enc Try.prog Try.f5 false true false false) := by
  refine law_lifted (C := Try.checked) (tb := 4) (by kernel_rfl) (by kernel_rfl) (by kernel_rfl) Try.func5 (by kernel_rfl) Try.underlying4 (of_decide_eq_true (by kernel_rfl)) rfl ?_ os started H enc
    (ChangeSpec.witness6 (enc := enc) (C := Try.checked) false ⟨#[], #[.agg (sea 0 0 0 (zeros 360)), .agg (sea 0 0 0 (zeros 360))], []⟩ 8 (by kernel_rfl) (by kernel_rfl) (by kernel_rfl) (by kernel_rfl)) ?_
  · intro H ds hds
    rw [show Try.f5.params.toList.length = 2 by kernel_rfl] at hds
    match ds, hds with
    | [_, _], _ => rfl
  · intro W base args ds ps hval hA
    rw [Try.params5] at hA hval
    obtain ⟨v0, v1, d0, d1, p0, p1, hargs, rfl, rfl, h0, h1⟩ := trodAll_two hA
    obtain ⟨wda, hia, lda, Ta, e0, sa⟩ := open_sea (hval 0 34 v0 rfl (by rw [hargs]; rfl)) h0
    obtain ⟨wdb, hib, ldb, Tb, e1, sb⟩ := open_sea (hval 1 34 v1 rfl (by rw [hargs]; rfl)) h1
    obtain rfl : args = #[.agg (sea wda hia lda Ta), .agg (sea wdb hib ldb Tb)] := by rw [hargs, e0, e1]
    exact law_SameSea wda hia lda Ta wdb hib ldb Tb sa.size sb.size sa.bytes sb.bytes W

theorem over : Rows.fnExactSameSeaRow.holds Try.pinned (OpenSpec.ofChange Rows.fnExactSameSeaSpec) :=
  OpenClaim.holds_of_wide 5 Try.f5 rfl rfl rfl rfl rfl rfl rfl ⟨rfl, rfl, rfl, rfl, rfl⟩ rfl rfl rfl rfl rfl (by kernel_rfl) Try.func5 (by kernel_rfl)
    (of_decide_eq_true (by kernel_rfl)) (by unfold Func.isWrapper; first | (rw [if_pos (by decide +kernel)]; kernel_rfl) | (rw [if_neg (by decide +kernel)]; exact ⟨rfl, rfl⟩))
    (fun os started H enc _ => lifted os started H enc)

theorem proved : Rows.FnExactSameSeaSaid := over
#print axioms proved
end lawSameSea
end Go.Proofs.Ytcddegplppmgbaa
