/- The program's land, water and cells. -/
import Derived.Test.YthpcidnfbceliaaDoorImplA
namespace Go.Proofs.YthpcidnfbceliaaDoor
open Go.ChangeShapes Go.WideShapes Go.ChangeAt Go.RowKit
set_option linter.unusedVariables false

theorem chainDraws {B : Nat} {a w : World} (h : Below B a w) (n : Nat) : Below B a (w.drewN n) := ⟨h.os, h.tape, h.output, h.size, h.block⟩

theorem land_bit {ld c : Int} (hl : (Lit.int .u64 ld).wf = true) (hc : 0 ≤ c ∧ c ≤ 35) : (bits .and .u64 ld (IntKind.u64.wrap (2 ^ c.toNat)) != 0) = dryB ld c := by
  obtain ⟨k, rfl⟩ : ∃ k : Nat, c = (k : Int) := ⟨c.toNat, by omega⟩
  obtain ⟨h0, h1⟩ := bounds_u64 hl
  obtain ⟨n, rfl⟩ : ∃ n : Nat, ld = (n : Int) := ⟨ld.toNat, by omega⟩
  have hk : k ≤ 35 := by omega
  have hp : (2 : Nat) ^ k < 18446744073709551616 := Nat.lt_of_le_of_lt (Nat.pow_le_pow_right (by omega) hk) (by decide)
  have hw : IntKind.u64.wrap (2 ^ k) = ((2 ^ k : Nat) : Int) := by
    rw [IntKind.wrap_u64]
    have : ((2 : Int) ^ k) = ((2 ^ k : Nat) : Int) := by simp
    rw [this]
    generalize (2 : Nat) ^ k = m at hp ⊢
    omega
  rw [Int.toNat_natCast, hw, u64_and_nat n (2 ^ k) (by omega) hp, nat_bit]
  unfold dryB
  have hd : ((n : Int) / 2 ^ (k : Int).toNat).tmod 2 = ((n / 2 ^ k % 2 : Nat) : Int) := by
    rw [Int.toNat_natCast]
    have : ((n : Int) / 2 ^ k) = ((n / 2 ^ k : Nat) : Int) := by simp
    rw [this]
    rw [Int.tmod_eq_emod_of_nonneg (Int.natCast_nonneg _)]
    exact (Int.natCast_emod _ 2).symm
  rw [hd]
  have hm : n / 2 ^ k % 2 = 0 ∨ n / 2 ^ k % 2 = 1 := by omega
  have hpos : 0 < 2 ^ k := Nat.pow_pos (by omega)
  rcases hm with h | h
  · rw [h]; simp
  · rw [h]
    have hne : ((1 * 2 ^ k : Nat) : Int) ≠ 0 := by omega
    rw [bne_iff_ne.2 hne]
    rfl

set_option maxHeartbeats 1000000 in
theorem impl_isLand (wd hi ld : Int) (T : Array Value) (hl : (Lit.int .u64 ld).wf = true) (c : Int) (hc : 0 ≤ c ∧ c ≤ 35) (w : World) :
    Calls Tryd.prog 109 #[.agg (sea wd hi ld T), .int .i64 c] w fun e w' => e = .returned (.bool (dryB ld c)) ∧ Below w.heap.size w w' := by
  have s2 := sea_2 wd hi ld T
  have hB := land_bit hl hc
  clear hl
  go_enter Tryd.func109, Tryd.ntmps109
  go_wp2_with fail
  go_quiet ((go_at_call 72; exact Calls.quiet_of_same ((impl_bitOf c hc _).mono fun _ _ h => ⟨h.1, h.2.symm⟩)))
  go_wp2_with fail
  go_ret
  exact ⟨rfl, chainDraws (chainAlloc (Below.refl w.heap.size w) _) _⟩

set_option maxHeartbeats 1000000 in
theorem impl_isWater (wd hi ld : Int) (T : Array Value) (hT : T.size = 360) (hl : (Lit.int .u64 ld).wf = true) (c : Int) (hc : 0 ≤ c ∧ c ≤ 35) (w : World) :
    Calls Tryd.prog 85 #[.agg (sea wd hi ld T), .int .i64 c] w fun e w' => e = .returned (.bool (!dryB ld c)) ∧ Below w.heap.size w w' := by
  have q0 := newBlock w (.cells (sea wd hi ld T) 38)
  have qB := chainAlloc (Below.refl w.heap.size w) (.cells (sea wd hi ld T) 38)
  have hi0 : (Tryd.prog.info? 38).map (·.size) = some (sea wd hi ld T).size := by rw [sea_size, hT]; kernel_rfl
  have hL := fun w => impl_isLand wd hi ld T hl c hc w
  clear hl
  go_enter Tryd.func85, Tryd.ntmps85
  go_wp2_with (first | (refine at_load 38 rfl ?_; refine wpList_load_row rfl 38 _ rfl _ rfl _ _ _ _ q0 Tryd.underlying38 rfl hi0 ?_) | (go_at_call 109; refine (hL _).mono ?_; rintro e w1 ⟨rfl, hb1⟩; replace qB := chain qB hb1))
  go_ret
  exact ⟨rfl, qB⟩

theorem isB_place {wd hi c : Int} (hc : 0 ≤ c ∧ c ≤ 35) : plB wd hi (c % 6) (c / 6) = isB wd hi c := by
  unfold plB isB
  rw [decide_eq_decide]
  constructor
  · rintro ⟨_, h1, _, h2⟩; exact ⟨hc.1, hc.2, h1, h2⟩
  · rintro ⟨_, _, h1, h2⟩; exact ⟨by omega, h1, by omega, h2⟩

set_option maxHeartbeats 1000000 in
theorem impl_hasCell (wd hi ld : Int) (T : Array Value) (hT : T.size = 360) (hw1 : -128 ≤ wd ∧ wd ≤ 127) (hh1 : -128 ≤ hi ∧ hi ≤ 127) (c : Int) (w : World) :
    Calls Tryd.prog 84 #[.agg (sea wd hi ld T), .int .i64 c] w fun e w' => e = .returned (.bool (isB wd hi c)) ∧ Below w.heap.size w w' := by
  have q0 := newBlock w (.cells (sea wd hi ld T) 38)
  have qB := chainAlloc (Below.refl w.heap.size w) (.cells (sea wd hi ld T) 38)
  have hi0 : (Tryd.prog.info? 38).map (·.size) = some (sea wd hi ld T).size := by rw [sea_size, hT]; kernel_rfl
  by_cases h1 : 0 ≤ c
  · by_cases h2 : c < 36
    · have hpl := impl_placeOf c ⟨h1, by omega⟩
      have hha := impl_hasPlace wd hi ld T hw1 hh1 (c % 6) (c / 6)
      rw [isB_place ⟨h1, by omega⟩] at hha
      have h1' : decide (0 ≤ c) = true := decide_eq_true h1
      have h2' : decide (c < 36) = true := decide_eq_true h2
      go_enter Tryd.func84, Tryd.ntmps84
      go_wp2_with fail
      refine wp_region_held_drew (S := (fun W => W.heap[w.heap.size]? = some (.cells (sea wd hi ld T) 38 (0, 0)) ∧ Below w.heap.size w W)) (by kernel_rfl) ⟨q0, qB.drew⟩ (fun hS1 => ?_)
      clear q0 qB
      refine take_first (i := 0) (v := ?_) (some 5) rfl rfl (by kernel_rfl) (by kernel_rfl) (by kernel_rfl) (fun _ _ _ h => h) (Or.inl ⟨by rfl, ?_⟩) hS1 ?_
      rotate_left
      · intro W hW
        first | (go_simp; done) | (go_simp; with_reducible rfl)
      simp only [Act.put, List.setIfInBounds_toArray]
      refine take_first (i := 1) (v := ?_) (some 6) rfl rfl (by kernel_rfl) (by kernel_rfl) (by kernel_rfl) (fun _ _ _ h => h) (Or.inl ⟨by rfl, ?_⟩) hS1 ?_
      rotate_left
      · intro W hW
        first | (go_simp; done) | (go_simp; with_reducible rfl)
      simp only [Act.put, List.setIfInBounds_toArray]
      refine take_first (i := 2) (v := ?_) (some 7) rfl rfl (by kernel_rfl) (by kernel_rfl) (by kernel_rfl) (fun _ _ _ h => h) (Or.inl ⟨by rfl, ?_⟩) hS1 ?_
      rotate_left
      · intro W hW
        first | (go_simp; done) | (go_simp; with_reducible rfl)
      simp only [Act.put, List.setIfInBounds_toArray]
      refine take_first (i := 3) (v := ?_) (some 8) rfl rfl (by kernel_rfl) (by kernel_rfl) (by kernel_rfl) (fun _ _ _ h => h) (Or.inl ⟨by rfl, ?_⟩) hS1 ?_
      rotate_left
      · intro W hW
        first | (go_simp; done) | (go_simp; with_reducible rfl)
      simp only [Act.put, List.setIfInBounds_toArray]
      refine take_first (i := 4) (v := ?_) (some 9) rfl rfl (by kernel_rfl) (by kernel_rfl) (by kernel_rfl) (fun _ _ _ h => h) (Or.inl ⟨by rfl, ?_⟩) hS1 ?_
      rotate_left
      · intro W hW
        first | (go_simp; done) | (go_simp; with_reducible rfl)
      simp only [Act.put, List.setIfInBounds_toArray]
      refine take_first (i := 5) (v := ?_) (some 10) rfl rfl (by kernel_rfl) (by kernel_rfl) (by kernel_rfl) (fun _ _ _ h => h) (Or.inl ⟨by rfl, ?_⟩) hS1 ?_
      rotate_left
      · intro W hW
        first | (go_simp; done) | (go_simp; with_reducible rfl)
      simp only [Act.put, List.setIfInBounds_toArray]
      refine take_first (i := 6) (v := ?_) (some 11) rfl rfl (by kernel_rfl) (by kernel_rfl) (by kernel_rfl) (fun _ _ _ h => h) (Or.inl ⟨by rfl, ?_⟩) hS1 ?_
      rotate_left
      · intro W hW
        first | (go_simp; done) | (go_simp; with_reducible rfl)
      simp only [Act.put, List.setIfInBounds_toArray]
      refine take_first (i := 7) (some 12) rfl rfl (by kernel_rfl) (by kernel_rfl) (by kernel_rfl) (fun _ _ _ h => h) (yields_row (by rfl) 38 _ rfl _ rfl _ _ _ (fun W h => h.1) _ Tryd.underlying38 rfl hi0) hS1 ?_
      simp only [Act.put, List.setIfInBounds_toArray]
      refine take_first (i := 8) (v := ?_) (some 13) rfl rfl (by kernel_rfl) (by kernel_rfl) (by kernel_rfl) (fun _ _ _ h => h) (Or.inl ⟨by rfl, ?_⟩) hS1 ?_
      rotate_left
      · intro W hW
        first | (go_simp; done) | (go_simp; with_reducible rfl)
      simp only [Act.put, List.setIfInBounds_toArray]
      refine wpAnyH_ready (rs := [9]) (by kernel_rfl) (by simp) (AllReadyH.cons rfl (fun K hK => ?_) AllReadyH.nil)
      go_simp
      refine (hpl _).mono ?_
      rintro e v2 ⟨rfl, hb⟩
      refine hK.out _ _ ⟨keep hb hS1.1, chain hS1.2 hb⟩ (fun hS2 => ?_)
      clear hK K hS1 hb
      refine wpAnyH_ready (rs := [10]) (by kernel_rfl) (by simp) (AllReadyH.cons rfl (fun K hK => ?_) AllReadyH.nil)
      go_simp
      refine (hha _).mono ?_
      rintro e v3 ⟨rfl, hb⟩
      refine hK.out _ _ ⟨keep hb hS2.1, chain hS2.2 hb⟩ (fun hS3 => ?_)
      clear hK K hS2 hb
      refine take_first (i := 11) (v := ?_) (some 16) rfl rfl (by kernel_rfl) (by kernel_rfl) (by kernel_rfl) (fun _ _ _ h => h) (Or.inl ⟨by rfl, ?_⟩) hS3 ?_
      rotate_left
      · intro W hW
        first | (go_simp; done) | (go_simp; with_reducible rfl)
      simp only [Act.put, List.setIfInBounds_toArray]
      refine take_first (i := 12) (v := ?_) (some 4) rfl rfl (by kernel_rfl) (by kernel_rfl) (by kernel_rfl) (fun _ _ _ h => h) (Or.inl ⟨by rfl, ?_⟩) hS3 ?_
      rotate_left
      · intro W hW
        first | (go_simp; done) | (go_simp; with_reducible rfl)
      simp only [Act.put, List.setIfInBounds_toArray]
      refine wpAnyH_done (by kernel_rfl) ?_ _
      go_wp2_with fail
      go_ret
      exact ⟨rfl, hS3.2⟩
    · have h1' : decide (0 ≤ c) = true := decide_eq_true h1
      have h2' : decide (c < 36) = false := decide_eq_false h2
      have hR : isB wd hi c = false := decide_eq_false fun h => by omega
      rw [hR]
      go_enter Tryd.func84, Tryd.ntmps84
      go_wp2_with fail
      refine wp_region_held_drew (S := (fun W => W.heap[w.heap.size]? = some (.cells (sea wd hi ld T) 38 (0, 0)) ∧ Below w.heap.size w W)) (by kernel_rfl) ⟨q0, qB.drew⟩ (fun hS1 => ?_)
      clear q0 qB
      refine take_first (i := 0) (v := ?_) (some 5) rfl rfl (by kernel_rfl) (by kernel_rfl) (by kernel_rfl) (fun _ _ _ h => h) (Or.inl ⟨by rfl, ?_⟩) hS1 ?_
      rotate_left
      · intro W hW
        first | (go_simp; done) | (go_simp; with_reducible rfl)
      simp only [Act.put, List.setIfInBounds_toArray]
      refine take_first (i := 1) (v := ?_) (some 6) rfl rfl (by kernel_rfl) (by kernel_rfl) (by kernel_rfl) (fun _ _ _ h => h) (Or.inl ⟨by rfl, ?_⟩) hS1 ?_
      rotate_left
      · intro W hW
        first | (go_simp; done) | (go_simp; with_reducible rfl)
      simp only [Act.put, List.setIfInBounds_toArray]
      refine take_first (i := 2) (v := ?_) (some 7) rfl rfl (by kernel_rfl) (by kernel_rfl) (by kernel_rfl) (fun _ _ _ h => h) (Or.inl ⟨by rfl, ?_⟩) hS1 ?_
      rotate_left
      · intro W hW
        first | (go_simp; done) | (go_simp; with_reducible rfl)
      simp only [Act.put, List.setIfInBounds_toArray]
      refine take_first (i := 3) (v := ?_) (some 8) rfl rfl (by kernel_rfl) (by kernel_rfl) (by kernel_rfl) (fun _ _ _ h => h) (Or.inl ⟨by rfl, ?_⟩) hS1 ?_
      rotate_left
      · intro W hW
        first | (go_simp; done) | (go_simp; with_reducible rfl)
      simp only [Act.put, List.setIfInBounds_toArray]
      refine take_first (i := 4) (v := ?_) (some 9) rfl rfl (by kernel_rfl) (by kernel_rfl) (by kernel_rfl) (fun _ _ _ h => h) (Or.inl ⟨by rfl, ?_⟩) hS1 ?_
      rotate_left
      · intro W hW
        first | (go_simp; done) | (go_simp; with_reducible rfl)
      simp only [Act.put, List.setIfInBounds_toArray]
      refine take_first (i := 5) (v := ?_) (some 10) rfl rfl (by kernel_rfl) (by kernel_rfl) (by kernel_rfl) (fun _ _ _ h => h) (Or.inl ⟨by rfl, ?_⟩) hS1 ?_
      rotate_left
      · intro W hW
        first | (go_simp; done) | (go_simp; with_reducible rfl)
      simp only [Act.put, List.setIfInBounds_toArray]
      refine take_first (i := 6) (v := ?_) (some 11) rfl rfl (by kernel_rfl) (by kernel_rfl) (by kernel_rfl) (fun _ _ _ h => h) (Or.inl ⟨by rfl, ?_⟩) hS1 ?_
      rotate_left
      · intro W hW
        first | (go_simp; done) | (go_simp; with_reducible rfl)
      simp only [Act.put, List.setIfInBounds_toArray]
      refine take_first (i := 7) (some 12) rfl rfl (by kernel_rfl) (by kernel_rfl) (by kernel_rfl) (fun _ _ _ h => h) (Or.inr ⟨by rfl, rfl⟩) hS1 ?_
      simp only [Act.put, List.setIfInBounds_toArray]
      refine take_first (i := 8) (some 13) rfl rfl (by kernel_rfl) (by kernel_rfl) (by kernel_rfl) (fun _ _ _ h => h) (Or.inr ⟨by rfl, rfl⟩) hS1 ?_
      simp only [Act.put, List.setIfInBounds_toArray]
      refine take_first (i := 9) (some 14) rfl rfl (by kernel_rfl) (by kernel_rfl) (by kernel_rfl) (fun _ _ _ h => h) (Or.inr ⟨by rfl, rfl⟩) hS1 ?_
      simp only [Act.put, List.setIfInBounds_toArray]
      refine take_first (i := 10) (some 15) rfl rfl (by kernel_rfl) (by kernel_rfl) (by kernel_rfl) (fun _ _ _ h => h) (Or.inr ⟨by rfl, rfl⟩) hS1 ?_
      simp only [Act.put, List.setIfInBounds_toArray]
      refine take_first (i := 11) (v := ?_) (some 16) rfl rfl (by kernel_rfl) (by kernel_rfl) (by kernel_rfl) (fun _ _ _ h => h) (Or.inl ⟨by rfl, ?_⟩) hS1 ?_
      rotate_left
      · intro W hW
        first | (go_simp; done) | (go_simp; with_reducible rfl)
      simp only [Act.put, List.setIfInBounds_toArray]
      refine take_first (i := 12) (v := ?_) (some 4) rfl rfl (by kernel_rfl) (by kernel_rfl) (by kernel_rfl) (fun _ _ _ h => h) (Or.inl ⟨by rfl, ?_⟩) hS1 ?_
      rotate_left
      · intro W hW
        first | (go_simp; done) | (go_simp; with_reducible rfl)
      simp only [Act.put, List.setIfInBounds_toArray]
      refine wpAnyH_done (by kernel_rfl) ?_ _
      go_wp2_with fail
      go_ret
      exact ⟨rfl, hS1.2⟩
  · have h1' : decide (0 ≤ c) = false := decide_eq_false h1
    have hR : isB wd hi c = false := decide_eq_false fun h => h1 h.1
    rw [hR]
    go_enter Tryd.func84, Tryd.ntmps84
    go_wp2_with fail
    refine wp_region_held_drew (S := (fun W => W.heap[w.heap.size]? = some (.cells (sea wd hi ld T) 38 (0, 0)) ∧ Below w.heap.size w W)) (by kernel_rfl) ⟨q0, qB.drew⟩ (fun hS1 => ?_)
    clear q0 qB
    refine take_first (i := 0) (v := ?_) (some 5) rfl rfl (by kernel_rfl) (by kernel_rfl) (by kernel_rfl) (fun _ _ _ h => h) (Or.inl ⟨by rfl, ?_⟩) hS1 ?_
    rotate_left
    · intro W hW
      first | (go_simp; done) | (go_simp; with_reducible rfl)
    simp only [Act.put, List.setIfInBounds_toArray]
    refine take_first (i := 1) (v := ?_) (some 6) rfl rfl (by kernel_rfl) (by kernel_rfl) (by kernel_rfl) (fun _ _ _ h => h) (Or.inl ⟨by rfl, ?_⟩) hS1 ?_
    rotate_left
    · intro W hW
      first | (go_simp; done) | (go_simp; with_reducible rfl)
    simp only [Act.put, List.setIfInBounds_toArray]
    refine take_first (i := 2) (v := ?_) (some 7) rfl rfl (by kernel_rfl) (by kernel_rfl) (by kernel_rfl) (fun _ _ _ h => h) (Or.inl ⟨by rfl, ?_⟩) hS1 ?_
    rotate_left
    · intro W hW
      first | (go_simp; done) | (go_simp; with_reducible rfl)
    simp only [Act.put, List.setIfInBounds_toArray]
    refine take_first (i := 3) (some 8) rfl rfl (by kernel_rfl) (by kernel_rfl) (by kernel_rfl) (fun _ _ _ h => h) (Or.inr ⟨by rfl, rfl⟩) hS1 ?_
    simp only [Act.put, List.setIfInBounds_toArray]
    refine take_first (i := 4) (some 9) rfl rfl (by kernel_rfl) (by kernel_rfl) (by kernel_rfl) (fun _ _ _ h => h) (Or.inr ⟨by rfl, rfl⟩) hS1 ?_
    simp only [Act.put, List.setIfInBounds_toArray]
    refine take_first (i := 5) (v := ?_) (some 10) rfl rfl (by kernel_rfl) (by kernel_rfl) (by kernel_rfl) (fun _ _ _ h => h) (Or.inl ⟨by rfl, ?_⟩) hS1 ?_
    rotate_left
    · intro W hW
      first | (go_simp; done) | (go_simp; with_reducible rfl)
    simp only [Act.put, List.setIfInBounds_toArray]
    refine take_first (i := 6) (v := ?_) (some 11) rfl rfl (by kernel_rfl) (by kernel_rfl) (by kernel_rfl) (fun _ _ _ h => h) (Or.inl ⟨by rfl, ?_⟩) hS1 ?_
    rotate_left
    · intro W hW
      first | (go_simp; done) | (go_simp; with_reducible rfl)
    simp only [Act.put, List.setIfInBounds_toArray]
    refine take_first (i := 7) (some 12) rfl rfl (by kernel_rfl) (by kernel_rfl) (by kernel_rfl) (fun _ _ _ h => h) (Or.inr ⟨by rfl, rfl⟩) hS1 ?_
    simp only [Act.put, List.setIfInBounds_toArray]
    refine take_first (i := 8) (some 13) rfl rfl (by kernel_rfl) (by kernel_rfl) (by kernel_rfl) (fun _ _ _ h => h) (Or.inr ⟨by rfl, rfl⟩) hS1 ?_
    simp only [Act.put, List.setIfInBounds_toArray]
    refine take_first (i := 9) (some 14) rfl rfl (by kernel_rfl) (by kernel_rfl) (by kernel_rfl) (fun _ _ _ h => h) (Or.inr ⟨by rfl, rfl⟩) hS1 ?_
    simp only [Act.put, List.setIfInBounds_toArray]
    refine take_first (i := 10) (some 15) rfl rfl (by kernel_rfl) (by kernel_rfl) (by kernel_rfl) (fun _ _ _ h => h) (Or.inr ⟨by rfl, rfl⟩) hS1 ?_
    simp only [Act.put, List.setIfInBounds_toArray]
    refine take_first (i := 11) (v := ?_) (some 16) rfl rfl (by kernel_rfl) (by kernel_rfl) (by kernel_rfl) (fun _ _ _ h => h) (Or.inl ⟨by rfl, ?_⟩) hS1 ?_
    rotate_left
    · intro W hW
      first | (go_simp; done) | (go_simp; with_reducible rfl)
    simp only [Act.put, List.setIfInBounds_toArray]
    refine take_first (i := 12) (v := ?_) (some 4) rfl rfl (by kernel_rfl) (by kernel_rfl) (by kernel_rfl) (fun _ _ _ h => h) (Or.inl ⟨by rfl, ?_⟩) hS1 ?_
    rotate_left
    · intro W hW
      first | (go_simp; done) | (go_simp; with_reducible rfl)
    simp only [Act.put, List.setIfInBounds_toArray]
    refine wpAnyH_done (by kernel_rfl) ?_ _
    go_wp2_with fail
    go_ret
    exact ⟨rfl, hS1.2⟩
end Go.Proofs.YthpcidnfbceliaaDoor
