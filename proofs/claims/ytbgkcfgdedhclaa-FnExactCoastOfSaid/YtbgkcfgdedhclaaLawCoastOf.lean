/- CoastOf answers as its model: at all seas. No conditions. -/
import Derived.Test.YtbgkcfgdedhclaaRows
import Derived.Test.YtbgkcfgdedhclaaBeaches
namespace Go.Proofs.Ytbgkcfgdedhclaa
open Go.ChangeShapes Go.WideShapes Go.ChangeAt Go.RowKit
set_option linter.unusedVariables false

set_option maxHeartbeats 1000000 in
theorem spec_CoastOf (wd hi ld : Int) (T : Array Value) (hS : SeaIn wd hi ld T) (w : World) :
    Calls Try.prog 18 #[.agg (sea wd hi ld T)] w fun e w' => e = .returned (bitsV (okB wd hi ld T) (besV wd hi ld false 36)) ∧ Below w.heap.size w w' := by
  have q0 := newBlock w (.cells (sea wd hi ld T) 35)
  have qB := chainAlloc (Below.refl w.heap.size w) (.cells (sea wd hi ld T) 35)
  have hC := spec_l01Ok w.heap.size 35 (0, 0) wd hi ld T hS _ q0
  unfold bitsV
  cases h : okB wd hi ld T
  · simp only [h] at hC
    generalize besV wd hi ld false 36 = bv
    clear h hS q0
    go_enter Try.func18, Try.ntmps18
    go_wp2_with ((go_at_call 42; refine (hC).mono ?_; rintro e w1 ⟨rfl, hb1⟩; replace qB := chain qB hb1; clear hb1))
    go_ret2
    exact ⟨rfl, qB⟩
  · have hBd := okB_bounds h
    simp only [h] at hC
    have hK := fun (W : World) (q : W.heap[w.heap.size]? = some (.cells (sea wd hi ld T) 35 (0, 0))) => spec_l01Beside w.heap.size 35 (0, 0) wd hi ld T false W q hBd (bounds_u64 hS.land).1
    clear h hS hBd
    generalize besV wd hi ld false 36 = bv at hK ⊢
    go_enter Try.func18, Try.ntmps18
    go_wp2_with (first | (go_at_call 42; refine (hC).mono ?_; rintro e w1 ⟨rfl, hb1⟩; replace q0 := keep hb1 q0; replace qB := chain qB hb1; clear hb1) | (go_at_call 43; refine (hK _ (by exact q0)).mono ?_; rintro e w2 ⟨rfl, rfl⟩))
    go_ret2
    exact ⟨rfl, qB⟩

set_option maxRecDepth 100000 in
set_option maxHeartbeats 1000000 in
theorem impl_CoastOf (wd hi ld : Int) (T : Array Value) (hS : SeaIn wd hi ld T) (w : World) :
    Calls Try.prog 19 #[.agg (sea wd hi ld T)] w fun e w' => e = .returned (bitsV (okB wd hi ld T) (besV wd hi ld false 36)) ∧ Below w.heap.size w w' := by
  have q0 := newBlock w (.cells (sea wd hi ld T) 35)
  have qB := chainAlloc (Below.refl w.heap.size w) (.cells (sea wd hi ld T) 35)
  have hi0 : (Try.prog.info? 35).map (·.size) = some (sea wd hi ld T).size := by rw [sea_size, hS.size]; kernel_rfl
  have hC := impl_seaCode wd hi ld T hS
  unfold bitsV
  cases h : okB wd hi ld T
  · simp only [h, cond_false] at hC
    generalize besV wd hi ld false 36 = bv
    clear h hS
    go_enter Try.func19, Try.ntmps19
    go_wp2_with (first | (refine at_load 35 rfl ?_; refine wpList_load_row rfl 35 _ rfl _ rfl _ _ _ _ q0 Try.underlying35 rfl hi0 ?_) | (go_at_call 45; refine (hC _).mono ?_; rintro e w1 ⟨rfl, hb1⟩; replace q0 := keep hb1 q0; replace qB := chain qB hb1; clear hb1))
    go_ret2
    exact ⟨rfl, qB⟩
  · have hBd := okB_bounds h
    simp only [h, cond_true] at hC
    have hW := impl_waterBits wd hi ld T hS hBd
    have hwf : (Lit.int .u64 (bits .andNot .u64 (cellsUp wd hi 36) ld)).wf = true := by
      obtain ⟨n, e, hn, _⟩ := water_nat (wd := wd) (hi := hi) hS.land
      rw [e]
      exact WalkArith.wf_u64 (by omega)
    have hA := impl_besideAny' wd hi ld T hS hBd (bits .andNot .u64 (cellsUp wd hi 36) ld) (ld) hwf hS.land
    rw [← coast_eq (wd := wd) (hi := hi) hS.land] at hA
    clear h hS hBd
    generalize besV wd hi ld false 36 = bv at hA ⊢
    generalize bits .andNot .u64 (cellsUp wd hi 36) ld = wv at hW hA hwf
    go_enter Try.func19, Try.ntmps19
    go_wp2_with (first | (refine at_load 35 rfl ?_; refine wpList_load_row rfl 35 _ rfl _ rfl _ _ _ _ q0 Try.underlying35 rfl hi0 ?_) | (go_at_call 45; refine (hC _).mono ?_; rintro e w1 ⟨rfl, hb1⟩; replace q0 := keep hb1 q0; replace qB := chain qB hb1; clear hb1))
    refine wp_region_held_drew (S := (fun W => W.heap[w.heap.size]? = some (.cells (sea wd hi ld T) 35 (0, 0)) ∧ W.cell? ⟨w.heap.size, 2, none⟩ = some (.int .u64 ld) ∧ Below w.heap.size w W)) (by kernel_rfl) ⟨q0, cellAt (W := World.drew _) q0 (sea_2 _ _ _ _), qB.drew⟩ (fun hS1 => ?_)
    clear q0 qB
    refine take_first (i := 0) (some 10) rfl rfl (by kernel_rfl) (by kernel_rfl) (by kernel_rfl) (fun _ _ _ h => h) (yields_row (by rfl) 35 _ rfl _ rfl _ _ _ (fun W h => h.1) _ Try.underlying35 rfl hi0) hS1 ?_
    simp only [Act.put, List.setIfInBounds_toArray]; try simp only [List.set_cons_succ, List.set_cons_zero]
    refine take_first (i := 1) (some 11) rfl rfl (by kernel_rfl) (by kernel_rfl) (by kernel_rfl) (fun _ _ _ h => h) (yields_row (by rfl) 35 _ rfl _ rfl _ _ _ (fun W h => h.1) _ Try.underlying35 rfl hi0) hS1 ?_
    simp only [Act.put, List.setIfInBounds_toArray]; try simp only [List.set_cons_succ, List.set_cons_zero]
    refine take_first (i := 3) (v := ?_) (some 13) rfl rfl (by kernel_rfl) (by kernel_rfl) (by kernel_rfl) (fun _ _ _ h => h) (Or.inl ⟨by rfl, ?_⟩) hS1 ?_
    rotate_left
    · intro W hW
      (try dsimp only at hW)
      first | (go_simp; done) | (go_simp; with_reducible rfl)
    simp only [Act.put, List.setIfInBounds_toArray]; try simp only [List.set_cons_succ, List.set_cons_zero]
    refine take_first (i := 4) (v := ?_) (some 14) rfl rfl (by kernel_rfl) (by kernel_rfl) (by kernel_rfl) (fun _ _ _ h => h) (Or.inl ⟨by rfl, ?_⟩) hS1 ?_
    rotate_left
    · intro W hW
      (try dsimp only at hW)
      first | (go_simp; done) | (go_simp; with_reducible rfl)
    simp only [Act.put, List.setIfInBounds_toArray]; try simp only [List.set_cons_succ, List.set_cons_zero]
    refine wpAnyH_ready (rs := [2]) (by kernel_rfl) (by simp) (AllReadyH.cons rfl (fun K hK => ?_) AllReadyH.nil)
    go_simp
    refine (hW _).mono ?_
    rintro e v2 ⟨rfl, hb⟩
    refine hK.out _ _ ⟨keep hb hS1.1, cellAt (keep hb hS1.1) (sea_2 _ _ _ _), chain hS1.2.2 hb⟩ (fun hS2 => ?_)
    clear hK K hS1 hb
    refine wpAnyH_ready (rs := [5]) (by kernel_rfl) (by simp) (AllReadyH.cons rfl (fun K hK => ?_) AllReadyH.nil)
    go_simp
    refine (hA _).mono ?_
    rintro e v3 ⟨rfl, hb⟩
    refine hK.out _ _ ⟨keep hb hS2.1, cellAt (keep hb hS2.1) (sea_2 _ _ _ _), chain hS2.2.2 hb⟩ (fun hS3 => ?_)
    clear hK K hS2 hb
    refine take_first (i := 6) (v := ?_) (some 2) rfl rfl (by kernel_rfl) (by kernel_rfl) (by kernel_rfl) (fun _ _ _ h => h) (Or.inl ⟨by rfl, ?_⟩) hS3 ?_
    rotate_left
    · intro W hW
      (try dsimp only at hW)
      first | (go_simp; done) | (go_simp; with_reducible rfl)
    simp only [Act.put, List.setIfInBounds_toArray]; try simp only [List.set_cons_succ, List.set_cons_zero]
    refine take_first (i := 7) (v := ?_) (some 3) rfl rfl (by kernel_rfl) (by kernel_rfl) (by kernel_rfl) (fun _ _ _ h => h) (Or.inl ⟨by rfl, ?_⟩) hS3 ?_
    rotate_left
    · intro W hW
      (try dsimp only at hW)
      first | (go_simp; done) | (go_simp; with_reducible rfl)
    simp only [Act.put, List.setIfInBounds_toArray]; try simp only [List.set_cons_succ, List.set_cons_zero]
    refine wpAnyH_done (by kernel_rfl) ?_ _
    go_wp2_with fail
    go_ret2
    exact ⟨rfl, hS3.2.2⟩

set_option maxHeartbeats 1000000 in
theorem law_CoastOf (wd hi ld : Int) (T : Array Value) (hS : SeaIn wd hi ld T) (w : World) :
    Calls Try.prog 4 #[.agg (sea wd hi ld T)] w fun e w' => e = .returned (.bool true) ∧ Below w.heap.size w w' := by
  have q0 := newBlock w (.cells (sea wd hi ld T) 28)
  have qB := chainAlloc (Below.refl w.heap.size w) (.cells (sea wd hi ld T) 28)
  have hi0 : (Try.prog.info? 28).map (·.size) = some (sea wd hi ld T).size := by rw [sea_size, hS.size]; kernel_rfl
  have hT := laws_toSea wd hi ld T hS.size hS.bytes
  have hG := spec_CoastOf wd hi ld T hS
  have hI := impl_CoastOf wd hi ld T hS
  generalize (besV wd hi ld false 36) = bv at hG hI
  obtain ⟨a, b, hv⟩ : ∃ a b : Int, bitsV (okB wd hi ld T) bv = .tuple #[.int .u64 a, .int .i64 b] := by
    unfold bitsV
    cases okB wd hi ld T
    · exact ⟨_, _, rfl⟩
    · exact ⟨_, _, rfl⟩
  rw [hv] at hG hI
  clear hS hv
  go_enter Try.func4, Try.ntmps4
  go_wp2_with (first | (refine at_load 28 rfl ?_; refine wpList_load_row rfl 28 _ rfl _ rfl _ _ _ _ q0 Try.underlying28 rfl hi0 ?_) | (go_at_call 16; refine (hT _).mono ?_; rintro e w1 ⟨rfl, hb1⟩; replace q0 := keep hb1 q0; replace qB := chain qB hb1; clear hb1) | (go_at_call 18; refine (hG _).mono ?_; rintro e w1 ⟨rfl, hb1⟩; replace q0 := keep hb1 q0; replace qB := chain qB hb1; clear hb1) | (go_at_call 19; refine (hI _).mono ?_; rintro e w1 ⟨rfl, hb1⟩; replace q0 := keep hb1 q0; replace qB := chain qB hb1; clear hb1))
  go_ret
  exact ⟨rfl, qB⟩

namespace lawCoastOf
theorem lifted (os : Os) (started : os.Started) (H : Type) (enc : TypeId × Value → H) :
    ReturnsInHanded {} Try.checked os 4 .any (Rows.fnExactCoastOfSpec.pre6 enc Try.prog Try.f4 Rows.fnExactCoastOfRow.domain false) (Rows.fnExactCoastOfSpec.post enc Try.prog Try.f4 false true false false) := by
  refine law_lifted (C := Try.checked) (tb := 4) (by kernel_rfl) (by kernel_rfl) (by kernel_rfl) Try.func4 (by kernel_rfl) Try.underlying4 (of_decide_eq_true (by kernel_rfl)) rfl ?_ os started H enc
    (ChangeSpec.witness6 (enc := enc) (C := Try.checked) false ⟨#[], #[.agg (sea 0 0 0 (zeros 360))], []⟩ 8 (by kernel_rfl) (by kernel_rfl) (by kernel_rfl) (by kernel_rfl)) ?_
  · intro H ds hds
    rw [show Try.f4.params.toList.length = 1 by kernel_rfl] at hds
    match ds, hds with
    | [_], _ => rfl
  · intro W base args ds ps hval hA
    rw [Try.params4] at hA hval
    obtain ⟨v0, d0, hargs, rfl, h0⟩ := trodAll_one hA
    obtain ⟨wda, hia, lda, Ta, e0, sa⟩ := open_sea (hval 0 28 v0 rfl (by rw [hargs]; rfl)) h0
    obtain rfl : args = #[.agg (sea wda hia lda Ta)] := by rw [hargs, e0]
    exact law_CoastOf wda hia lda Ta sa W

theorem over : Rows.fnExactCoastOfRow.holds Try.pinned (OpenSpec.ofChange Rows.fnExactCoastOfSpec) :=
  OpenClaim.holds_of_wide 4 Try.f4 rfl rfl rfl rfl rfl rfl rfl ⟨rfl, rfl, rfl, rfl, rfl⟩ rfl rfl rfl rfl rfl (by kernel_rfl) Try.func4 (by kernel_rfl)
    (of_decide_eq_true (by kernel_rfl)) (by unfold Func.isWrapper; first | (rw [if_pos (by decide +kernel)]; kernel_rfl) | (rw [if_neg (by decide +kernel)]; exact ⟨rfl, rfl⟩))
    (fun os started H enc _ => lifted os started H enc)

theorem proved : Rows.FnExactCoastOfSaid := over
#print axioms proved
end lawCoastOf
end Go.Proofs.Ytbgkcfgdedhclaa
