/- The program's ValidSea. -/
import Derived.Test.YthpcidnfbceliaaDoorEach
import Derived.Test.YthpcidnfbceliaaDoorImplC
namespace Go.Proofs.YthpcidnfbceliaaDoor
open Go.ChangeShapes Go.WideShapes Go.ChangeAt Go.RowKit
set_option linter.unusedVariables false

theorem cellAt {W : World} {g o : Nat} {C : Array Value} {t : TypeId} {fr : Nat × Nat} {v : Value} (h : W.heap[g]? = some (.cells C t fr)) (hv : C[o]? = some v) : W.cell? ⟨g, o, none⟩ = some v := by
  rw [cell_of_row W g o C t fr h]; exact hv

/-- The five parts of a number in a tide. -/
def chAt (T : Array Value) (t k : Nat) : Array Value := T.extract (t * 180 + k * 5) (t * 180 + k * 5 + 5)
theorem chAt_size {T : Array Value} (hT : T.size = 360) {t k : Nat} (ht : t < 2) (hk : k < 36) : (chAt T t k).size = 5 := by
  unfold chAt; simp; omega
theorem chAt_u8 {T : Array Value} (hu : ∀ v ∈ T, IsU8 v) (t k : Nat) : ∀ v ∈ chAt T t k, IsU8 v := fun v hv => hu v (mem_extract' hv)
theorem sea_chAt (wd hi ld : Int) (T : Array Value) (hT : T.size = 360) {t k : Nat} (ht : t < 2) (hk : k < 36) : (sea wd hi ld T).extract (3 + t * 180 + k * 5) (3 + t * 180 + k * 5 + 5) = chAt T t k := by
  have := sea_part wd hi ld T (t * 180 + k * 5) 5 (by omega)
  rw [show 3 + t * 180 + k * 5 = 3 + (t * 180 + k * 5) by omega]
  exact this

/-- Is the land where there are cells? -/
def landB (wd hi ld : Int) : Bool := bits .andNot .u64 ld (cellsUp wd hi 36) == 0
/-- Does a number have chances that it may have, in both tides? -/
def bothB (wd hi ld : Int) (T : Array Value) (k : Nat) : Bool := fitB (wetB wd hi ld k) (chAt T 0 k) && fitB (wetB wd hi ld k) (chAt T 1 k)
/-- Is a sea valid? -/
def okB (wd hi ld : Int) (T : Array Value) : Bool := (inB wd 1 6 && inB hi 1 6) && (landB wd hi ld && (List.range 36).all fun k => bothB wd hi ld T k)

theorem okB_size {wd hi ld : Int} {T : Array Value} (h : (inB wd 1 6 && inB hi 1 6) = false) : okB wd hi ld T = false := by unfold okB; rw [h]; rfl
theorem okB_land {wd hi ld : Int} {T : Array Value} (h : landB wd hi ld = false) : okB wd hi ld T = false := by unfold okB; rw [h]; simp
theorem okB_bad {wd hi ld : Int} {T : Array Value} {k : Nat} (hk : k < 36) (h : bothB wd hi ld T k = false) : okB wd hi ld T = false := by
  unfold okB
  have : (List.range 36).all (fun k => bothB wd hi ld T k) = false := by
    rw [← Bool.not_eq_true]
    intro ha
    have := all_range_iff.1 ha k hk
    rw [h] at this; cases this
  rw [this]; simp
theorem okB_yes {wd hi ld : Int} {T : Array Value} (h1 : (inB wd 1 6 && inB hi 1 6) = true) (h2 : landB wd hi ld = true) (h3 : ∀ k, k < 36 → bothB wd hi ld T k = true) : okB wd hi ld T = true := by
  unfold okB; rw [h1, h2, all_range_iff.2 h3]; rfl

set_option maxRecDepth 100000 in
set_option maxHeartbeats 2000000 in
theorem impl_ValidSea_size (wd hi ld : Int) (T : Array Value) (hS : SeaIn wd hi ld T) (hsz : ¬ (1 ≤ wd ∧ wd ≤ 6 ∧ 1 ≤ hi ∧ hi ≤ 6)) (w : World) :
    Calls Tryd.prog 63 #[.agg (sea wd hi ld T)] w fun e w' => e = .returned (.bool false) ∧ Below w.heap.size w w' := by
  have s0 := sea_0 wd hi ld T
  have s1 := sea_1 wd hi ld T
  obtain ⟨wa, wb⟩ := hS.wide
  obtain ⟨ha, hb⟩ := hS.high
  clear hS
  by_cases h1 : wd < 1
  · go_enter Tryd.func63, Tryd.ntmps63
    go_wp2
    go_ret
    exact ⟨rfl, chainAlloc (Below.refl w.heap.size w) _⟩
  · by_cases h2 : 6 < wd
    · go_enter Tryd.func63, Tryd.ntmps63
      go_wp2
      go_ret
      exact ⟨rfl, chainAlloc (Below.refl w.heap.size w) _⟩
    · by_cases h3 : hi < 1
      · go_enter Tryd.func63, Tryd.ntmps63
        go_wp2
        go_ret
        exact ⟨rfl, chainAlloc (Below.refl w.heap.size w) _⟩
      · have h4 : 6 < hi := by omega
        go_enter Tryd.func63, Tryd.ntmps63
        go_wp2
        go_ret
        exact ⟨rfl, chainAlloc (Below.refl w.heap.size w) _⟩

set_option maxRecDepth 100000 in
set_option maxHeartbeats 2000000 in
theorem impl_ValidSea_in (wd hi : Nat) (ld : Int) (T : Array Value) (hS : SeaIn wd hi ld T) (hw1 : 1 ≤ wd) (hw6 : wd ≤ 6) (hh1 : 1 ≤ hi) (hh6 : hi ≤ 6) (w : World) :
    Calls Tryd.prog 63 #[.agg (sea wd hi ld T)] w fun e w' => e = .returned (.bool (okB wd hi ld T)) ∧ Below w.heap.size w w' := by
  have s0 := sea_0 wd hi ld T
  have s1 := sea_1 wd hi ld T
  have q0 := newBlock w (.cells (sea wd hi ld T) 38)
  have qB := chainAlloc (Below.refl w.heap.size w) (.cells (sea wd hi ld T) 38)
  have hi0 : (Tryd.prog.info? 38).map (·.size) = some (sea wd hi ld T).size := by rw [sea_size, hS.size]; kernel_rfl
  have i1 : decide ((wd : Int) < 1) = false := decide_eq_false (by omega)
  have i2 : decide (6 < (wd : Int)) = false := decide_eq_false (by omega)
  have i3 : decide ((hi : Int) < 1) = false := decide_eq_false (by omega)
  have i4 : decide (6 < (hi : Int)) = false := decide_eq_false (by omega)
  have hCB := impl_cellBits wd hi ld T hS.size hw6 hh6
  cases hL : landB wd hi ld
  · rw [okB_land hL]
    unfold landB at hL
    go_enter Tryd.func63, Tryd.ntmps63
    go_wp2_with fail
    refine wp_region_held_drew (S := (fun W => W.heap[w.heap.size]? = some (.cells (sea wd hi ld T) 38 (0, 0)) ∧ W.cell? ⟨w.heap.size, 2, none⟩ = some (.int .u64 ld) ∧ Below w.heap.size w W)) (by kernel_rfl) ⟨q0, cellAt (W := (w.alloc _).drew) q0 (sea_2 _ _ _ _), qB.drew⟩ (fun hS1 => ?_)
    clear q0 qB
    refine take_first (i := 0) (v := ?_) (some 22) rfl rfl (by kernel_rfl) (by kernel_rfl) (by kernel_rfl) (fun _ _ _ h => h) (Or.inl ⟨by rfl, ?_⟩) hS1 ?_
    rotate_left
    · intro W hW
      (try dsimp only at hW)
      first | (go_simp; done) | (go_simp; with_reducible rfl)
    simp only [Act.put, List.setIfInBounds_toArray]; try simp only [List.set_cons_succ, List.set_cons_zero]
    refine take_first (i := 1) (v := ?_) (some 23) rfl rfl (by kernel_rfl) (by kernel_rfl) (by kernel_rfl) (fun _ _ _ h => h) (Or.inl ⟨by rfl, ?_⟩) hS1 ?_
    rotate_left
    · intro W hW
      (try dsimp only at hW)
      first | (go_simp; done) | (go_simp; with_reducible rfl)
    simp only [Act.put, List.setIfInBounds_toArray]; try simp only [List.set_cons_succ, List.set_cons_zero]
    refine take_first (i := 2) (some 24) rfl rfl (by kernel_rfl) (by kernel_rfl) (by kernel_rfl) (fun _ _ _ h => h) (yields_row (by rfl) 38 _ rfl _ rfl _ _ _ (fun W h => h.1) _ Tryd.underlying38 rfl hi0) hS1 ?_
    simp only [Act.put, List.setIfInBounds_toArray]; try simp only [List.set_cons_succ, List.set_cons_zero]
    refine wpAnyH_ready (rs := [3]) (by kernel_rfl) (by simp) (AllReadyH.cons rfl (fun K hK => ?_) AllReadyH.nil)
    go_simp
    refine (hCB _).mono ?_
    rintro e v2 ⟨rfl, hb⟩
    refine hK.out _ _ ⟨keep hb hS1.1, cellAt (keep hb hS1.1) (sea_2 _ _ _ _), chain hS1.2.2 hb⟩ (fun hS2 => ?_)
    clear hK K hS1 hb
    refine take_first (i := 4) (v := ?_) (some 26) rfl rfl (by kernel_rfl) (by kernel_rfl) (by kernel_rfl) (fun _ _ _ h => h) (Or.inl ⟨by rfl, ?_⟩) hS2 ?_
    rotate_left
    · intro W hW
      (try dsimp only at hW)
      first | (go_simp; done) | (go_simp; with_reducible rfl)
    simp only [Act.put, List.setIfInBounds_toArray]; try simp only [List.set_cons_succ, List.set_cons_zero]
    refine take_first (i := 5) (v := ?_) (some 27) rfl rfl (by kernel_rfl) (by kernel_rfl) (by kernel_rfl) (fun _ _ _ h => h) (Or.inl ⟨by rfl, ?_⟩) hS2 ?_
    rotate_left
    · intro W hW
      (try dsimp only at hW)
      first | (go_simp; done) | (go_simp; with_reducible rfl)
    simp only [Act.put, List.setIfInBounds_toArray]; try simp only [List.set_cons_succ, List.set_cons_zero]
    refine wpAnyH_done (by kernel_rfl) ?_ _
    go_wp2_with fail
    go_ret
    exact ⟨rfl, hS2.2.2⟩
  · have hz : inB wd 1 6 = true ∧ inB hi 1 6 = true := by unfold inB; simp; omega
    have hyes := fun h3 => okB_yes (wd := wd) (hi := hi) (ld := ld) (T := T) (by rw [hz.1, hz.2]; rfl) hL h3
    have hbad := fun k hk h => okB_bad (wd := wd) (hi := hi) (ld := ld) (T := T) (k := k) hk h
    clear hz
    have hN : (bits .andNot .u64 ld (cellsUp wd hi 36) != 0) = false := by
      unfold landB at hL
      rw [eq_of_beq hL]; rfl
    clear hL
    go_enter Tryd.func63, Tryd.ntmps63
    go_wp2_with fail
    refine wp_region_held_drew (S := (fun W => W.heap[w.heap.size]? = some (.cells (sea wd hi ld T) 38 (0, 0)) ∧ W.cell? ⟨w.heap.size, 2, none⟩ = some (.int .u64 ld) ∧ Below w.heap.size w W)) (by kernel_rfl) ⟨q0, cellAt (W := (w.alloc _).drew) q0 (sea_2 _ _ _ _), qB.drew⟩ (fun hS1 => ?_)
    clear q0 qB
    refine take_first (i := 0) (v := ?_) (some 22) rfl rfl (by kernel_rfl) (by kernel_rfl) (by kernel_rfl) (fun _ _ _ h => h) (Or.inl ⟨by rfl, ?_⟩) hS1 ?_
    rotate_left
    · intro W hW
      (try dsimp only at hW)
      first | (go_simp; done) | (go_simp; with_reducible rfl)
    simp only [Act.put, List.setIfInBounds_toArray]; try simp only [List.set_cons_succ, List.set_cons_zero]
    refine take_first (i := 1) (v := ?_) (some 23) rfl rfl (by kernel_rfl) (by kernel_rfl) (by kernel_rfl) (fun _ _ _ h => h) (Or.inl ⟨by rfl, ?_⟩) hS1 ?_
    rotate_left
    · intro W hW
      (try dsimp only at hW)
      first | (go_simp; done) | (go_simp; with_reducible rfl)
    simp only [Act.put, List.setIfInBounds_toArray]; try simp only [List.set_cons_succ, List.set_cons_zero]
    refine take_first (i := 2) (some 24) rfl rfl (by kernel_rfl) (by kernel_rfl) (by kernel_rfl) (fun _ _ _ h => h) (yields_row (by rfl) 38 _ rfl _ rfl _ _ _ (fun W h => h.1) _ Tryd.underlying38 rfl hi0) hS1 ?_
    simp only [Act.put, List.setIfInBounds_toArray]; try simp only [List.set_cons_succ, List.set_cons_zero]
    refine wpAnyH_ready (rs := [3]) (by kernel_rfl) (by simp) (AllReadyH.cons rfl (fun K hK => ?_) AllReadyH.nil)
    go_simp
    refine (hCB _).mono ?_
    rintro e v2 ⟨rfl, hb⟩
    refine hK.out _ _ ⟨keep hb hS1.1, cellAt (keep hb hS1.1) (sea_2 _ _ _ _), chain hS1.2.2 hb⟩ (fun hS2 => ?_)
    clear hK K hS1 hb
    refine take_first (i := 4) (v := ?_) (some 26) rfl rfl (by kernel_rfl) (by kernel_rfl) (by kernel_rfl) (fun _ _ _ h => h) (Or.inl ⟨by rfl, ?_⟩) hS2 ?_
    rotate_left
    · intro W hW
      (try dsimp only at hW)
      first | (go_simp; done) | (go_simp; with_reducible rfl)
    simp only [Act.put, List.setIfInBounds_toArray]; try simp only [List.set_cons_succ, List.set_cons_zero]
    refine take_first (i := 5) (v := ?_) (some 27) rfl rfl (by kernel_rfl) (by kernel_rfl) (by kernel_rfl) (fun _ _ _ h => h) (Or.inl ⟨by rfl, ?_⟩) hS2 ?_
    rotate_left
    · intro W hW
      (try dsimp only at hW)
      first | (go_simp; done) | (go_simp; with_reducible rfl)
    simp only [Act.put, List.setIfInBounds_toArray]; try simp only [List.set_cons_succ, List.set_cons_zero]
    refine wpAnyH_done (by kernel_rfl) ?_ _
    go_wp2_with fail
    have hB0 := hS2.2.2
    have hq0 := hS2.1
    clear hS2 hN hCB i1 i2 i3 i4 s0 s1
    go_loopw [3, 28] (fun _ iv wr => ∃ k : Nat, k ≤ 36 ∧ iv = .int .i64 k ∧ wr.heap[w.heap.size]? = some (.cells (sea wd hi ld T) 38 (0, 0)) ∧ Below w.heap.size w wr ∧ Hid (∀ j, j < k → bothB wd hi ld T j = true)) (fun _ iv _ => 36 - (intOf iv).toNat)
    case atStart => exact ⟨0, Nat.zero_le _, rfl, hq0, hB0, mkHid fun j hj => absurd hj (Nat.not_lt_zero _)⟩
    case round =>
      obtain ⟨k, hk, rfl, r0, rB, hall⟩ := hrel
      clear hq0 hB0
      by_cases hlt : k < 36
      · have hF0 := impl_chancesFit wd hi ld T hS k (chAt T 0 k) (chAt_size hS.size (by omega) hlt) (chAt_u8 hS.bytes 0 k)
        have hF1 := impl_chancesFit wd hi ld T hS k (chAt T 1 k) (chAt_size hS.size (by omega) hlt) (chAt_u8 hS.bytes 1 k)
        have hn0 : 3 + k * 5 + 5 ≤ (sea wd hi ld T).size := by rw [sea_size, hS.size]; omega
        have hn1 : 183 + k * 5 + 5 ≤ (sea wd hi ld T).size := by rw [sea_size, hS.size]; omega
        have hD0 := mkHid (sea_chAt wd hi ld T hS.size (t := 0) (by omega) hlt)
        have hD1 := mkHid (sea_chAt wd hi ld T hS.size (t := 1) (by omega) hlt)
        have hbk := mkHid (hbad k hlt)
        have hb2 := mkHid (show bothB wd hi ld T k = (fitB (wetB wd hi ld k) (chAt T 0 k) && fitB (wetB wd hi ld k) (chAt T 1 k)) from rfl)
        cases h0 : fitB (wetB wd hi ld k) (chAt T 0 k)
        · rw [h0] at hF0
          have hbad' := mkHid (hbk.out (by rw [hb2.out, h0]; rfl))
          clear hbk hb2 hyes hbad h0
          go_wp2_with fail
          refine wp_region_held_drew (S := (fun W => W.heap[w.heap.size]? = some (.cells (sea wd hi ld T) 38 (0, 0)) ∧ Below w.heap.size w W)) (by kernel_rfl) ⟨r0, rB.drew⟩ (fun hS11 => ?_)
          clear r0 rB
          refine take_first (i := 0) (some 31) rfl rfl (by kernel_rfl) (by kernel_rfl) (by kernel_rfl) (fun _ _ _ h => h) (yields_row (by rfl) 38 _ rfl _ rfl _ _ _ (fun W h => h.1) _ Tryd.underlying38 rfl hi0) hS11 ?_
          simp only [Act.put, List.setIfInBounds_toArray]; try simp only [List.set_cons_succ, List.set_cons_zero]
          refine take_first (i := 1) (v := ?_) (some 32) rfl rfl (by kernel_rfl) (by kernel_rfl) (by kernel_rfl) (fun _ _ _ h => h) (Or.inl ⟨by rfl, ?_⟩) hS11 ?_
          rotate_left
          · intro W hW
            (try dsimp only at hW)
            first | (go_simp; done) | (go_simp; with_reducible rfl)
          simp only [Act.put, List.setIfInBounds_toArray]; try simp only [List.set_cons_succ, List.set_cons_zero]
          refine take_first (i := 2) (v := ?_) (some 33) rfl rfl (by kernel_rfl) (by kernel_rfl) (by kernel_rfl) (fun _ _ _ h => h) (Or.inl ⟨by rfl, ?_⟩) hS11 ?_
          rotate_left
          · intro W hW
            (try dsimp only at hW)
            first | (go_simp; done) | (go_simp; with_reducible rfl)
          simp only [Act.put, List.setIfInBounds_toArray]; try simp only [List.set_cons_succ, List.set_cons_zero]
          refine take_first (i := 3) (v := ?_) (some 34) rfl rfl (by kernel_rfl) (by kernel_rfl) (by kernel_rfl) (fun _ _ _ h => h) (Or.inl ⟨by rfl, ?_⟩) hS11 ?_
          rotate_left
          · intro W hW
            (try dsimp only at hW)
            first | (go_simp; done) | (go_simp; with_reducible rfl)
          simp only [Act.put, List.setIfInBounds_toArray]; try simp only [List.set_cons_succ, List.set_cons_zero]
          refine take_first (i := 4) (v := ?_) (some 35) rfl rfl (by kernel_rfl) (by kernel_rfl) (by kernel_rfl) (fun _ _ _ h => h) (Or.inl ⟨by rfl, ?_⟩) hS11 ?_
          rotate_left
          · intro W hW
            (try dsimp only at hW)
            first | (go_simp; done) | (go_simp; with_reducible rfl)
          simp only [Act.put, List.setIfInBounds_toArray]; try simp only [List.set_cons_succ, List.set_cons_zero]
          refine take_first (i := 5) (v := ?_) (some 36) rfl rfl (by kernel_rfl) (by kernel_rfl) (by kernel_rfl) (fun _ _ _ h => h) (Or.inl ⟨by rfl, ?_⟩) hS11 ?_
          rotate_left
          · intro W hW
            (try dsimp only at hW)
            first | (go_simp; done) | (go_simp; with_reducible rfl)
          simp only [Act.put, List.setIfInBounds_toArray]; try simp only [List.set_cons_succ, List.set_cons_zero]
          refine take_first (i := 6) (some 37) rfl rfl (by kernel_rfl) (by kernel_rfl) (by kernel_rfl) (fun _ _ _ h => h) (yields_mid (chAt T 0 k) (by rfl) 34 _ rfl _ _ rfl _ _ _ (fun W h => h.1) _ Tryd.underlying34 rfl 5 (by kernel_rfl) hn0 hD0.out) hS11 ?_
          simp only [Act.put, List.setIfInBounds_toArray]; try simp only [List.set_cons_succ, List.set_cons_zero]
          refine wpAnyH_ready (rs := [7]) (by kernel_rfl) (by simp) (AllReadyH.cons rfl (fun K hK => ?_) AllReadyH.nil)
          go_simp
          refine (hF0 _).mono ?_
          rintro e v12 ⟨rfl, hb⟩
          refine hK.out _ _ ⟨keep hb hS11.1, chain hS11.2 hb⟩ (fun hS12 => ?_)
          clear hK K hS11 hb
          refine take_first (i := 8) (v := ?_) (some 39) rfl rfl (by kernel_rfl) (by kernel_rfl) (by kernel_rfl) (fun _ _ _ h => h) (Or.inl ⟨by rfl, ?_⟩) hS12 ?_
          rotate_left
          · intro W hW
            (try dsimp only at hW)
            first | (go_simp; done) | (go_simp; with_reducible rfl)
          simp only [Act.put, List.setIfInBounds_toArray]; try simp only [List.set_cons_succ, List.set_cons_zero]
          refine take_first (i := 9) (v := ?_) (some 40) rfl rfl (by kernel_rfl) (by kernel_rfl) (by kernel_rfl) (fun _ _ _ h => h) (Or.inl ⟨by rfl, ?_⟩) hS12 ?_
          rotate_left
          · intro W hW
            (try dsimp only at hW)
            first | (go_simp; done) | (go_simp; with_reducible rfl)
          simp only [Act.put, List.setIfInBounds_toArray]; try simp only [List.set_cons_succ, List.set_cons_zero]
          refine take_first (i := 10) (some 41) rfl rfl (by kernel_rfl) (by kernel_rfl) (by kernel_rfl) (fun _ _ _ h => h) (Or.inr ⟨by rfl, rfl⟩) hS12 ?_
          simp only [Act.put, List.setIfInBounds_toArray]; try simp only [List.set_cons_succ, List.set_cons_zero]
          refine take_first (i := 11) (some 42) rfl rfl (by kernel_rfl) (by kernel_rfl) (by kernel_rfl) (fun _ _ _ h => h) (Or.inr ⟨by rfl, rfl⟩) hS12 ?_
          simp only [Act.put, List.setIfInBounds_toArray]; try simp only [List.set_cons_succ, List.set_cons_zero]
          refine take_first (i := 12) (some 43) rfl rfl (by kernel_rfl) (by kernel_rfl) (by kernel_rfl) (fun _ _ _ h => h) (Or.inr ⟨by rfl, rfl⟩) hS12 ?_
          simp only [Act.put, List.setIfInBounds_toArray]; try simp only [List.set_cons_succ, List.set_cons_zero]
          refine take_first (i := 13) (some 44) rfl rfl (by kernel_rfl) (by kernel_rfl) (by kernel_rfl) (fun _ _ _ h => h) (Or.inr ⟨by rfl, rfl⟩) hS12 ?_
          simp only [Act.put, List.setIfInBounds_toArray]; try simp only [List.set_cons_succ, List.set_cons_zero]
          refine take_first (i := 14) (some 45) rfl rfl (by kernel_rfl) (by kernel_rfl) (by kernel_rfl) (fun _ _ _ h => h) (Or.inr ⟨by rfl, rfl⟩) hS12 ?_
          simp only [Act.put, List.setIfInBounds_toArray]; try simp only [List.set_cons_succ, List.set_cons_zero]
          refine take_first (i := 15) (some 46) rfl rfl (by kernel_rfl) (by kernel_rfl) (by kernel_rfl) (fun _ _ _ h => h) (Or.inr ⟨by rfl, rfl⟩) hS12 ?_
          simp only [Act.put, List.setIfInBounds_toArray]; try simp only [List.set_cons_succ, List.set_cons_zero]
          refine take_first (i := 16) (some 47) rfl rfl (by kernel_rfl) (by kernel_rfl) (by kernel_rfl) (fun _ _ _ h => h) (Or.inr ⟨by rfl, rfl⟩) hS12 ?_
          simp only [Act.put, List.setIfInBounds_toArray]; try simp only [List.set_cons_succ, List.set_cons_zero]
          refine take_first (i := 17) (some 48) rfl rfl (by kernel_rfl) (by kernel_rfl) (by kernel_rfl) (fun _ _ _ h => h) (Or.inr ⟨by rfl, rfl⟩) hS12 ?_
          simp only [Act.put, List.setIfInBounds_toArray]; try simp only [List.set_cons_succ, List.set_cons_zero]
          refine take_first (i := 18) (some 49) rfl rfl (by kernel_rfl) (by kernel_rfl) (by kernel_rfl) (fun _ _ _ h => h) (Or.inr ⟨by rfl, rfl⟩) hS12 ?_
          simp only [Act.put, List.setIfInBounds_toArray]; try simp only [List.set_cons_succ, List.set_cons_zero]
          refine take_first (i := 19) (v := ?_) (some 50) rfl rfl (by kernel_rfl) (by kernel_rfl) (by kernel_rfl) (fun _ _ _ h => h) (Or.inl ⟨by rfl, ?_⟩) hS12 ?_
          rotate_left
          · intro W hW
            (try dsimp only at hW)
            first | (go_simp; done) | (go_simp; with_reducible rfl)
          simp only [Act.put, List.setIfInBounds_toArray]; try simp only [List.set_cons_succ, List.set_cons_zero]
          refine wpAnyH_done (by kernel_rfl) ?_ _
          go_wp2_with fail
          go_ret
          exact ⟨ret_bool hbad'.out.symm, hS12.2⟩
        · rw [h0] at hF0
          cases h1 : fitB (wetB wd hi ld k) (chAt T 1 k)
          · rw [h1] at hF1
            have hbad' := mkHid (hbk.out (by rw [hb2.out, h0, h1]; rfl))
            clear hbk hb2 hyes hbad h0 h1
            go_wp2_with fail
            refine wp_region_held_drew (S := (fun W => W.heap[w.heap.size]? = some (.cells (sea wd hi ld T) 38 (0, 0)) ∧ Below w.heap.size w W)) (by kernel_rfl) ⟨r0, rB.drew⟩ (fun hS11 => ?_)
            clear r0 rB
            refine take_first (i := 0) (some 31) rfl rfl (by kernel_rfl) (by kernel_rfl) (by kernel_rfl) (fun _ _ _ h => h) (yields_row (by rfl) 38 _ rfl _ rfl _ _ _ (fun W h => h.1) _ Tryd.underlying38 rfl hi0) hS11 ?_
            simp only [Act.put, List.setIfInBounds_toArray]; try simp only [List.set_cons_succ, List.set_cons_zero]
            refine take_first (i := 1) (v := ?_) (some 32) rfl rfl (by kernel_rfl) (by kernel_rfl) (by kernel_rfl) (fun _ _ _ h => h) (Or.inl ⟨by rfl, ?_⟩) hS11 ?_
            rotate_left
            · intro W hW
              (try dsimp only at hW)
              first | (go_simp; done) | (go_simp; with_reducible rfl)
            simp only [Act.put, List.setIfInBounds_toArray]; try simp only [List.set_cons_succ, List.set_cons_zero]
            refine take_first (i := 2) (v := ?_) (some 33) rfl rfl (by kernel_rfl) (by kernel_rfl) (by kernel_rfl) (fun _ _ _ h => h) (Or.inl ⟨by rfl, ?_⟩) hS11 ?_
            rotate_left
            · intro W hW
              (try dsimp only at hW)
              first | (go_simp; done) | (go_simp; with_reducible rfl)
            simp only [Act.put, List.setIfInBounds_toArray]; try simp only [List.set_cons_succ, List.set_cons_zero]
            refine take_first (i := 3) (v := ?_) (some 34) rfl rfl (by kernel_rfl) (by kernel_rfl) (by kernel_rfl) (fun _ _ _ h => h) (Or.inl ⟨by rfl, ?_⟩) hS11 ?_
            rotate_left
            · intro W hW
              (try dsimp only at hW)
              first | (go_simp; done) | (go_simp; with_reducible rfl)
            simp only [Act.put, List.setIfInBounds_toArray]; try simp only [List.set_cons_succ, List.set_cons_zero]
            refine take_first (i := 4) (v := ?_) (some 35) rfl rfl (by kernel_rfl) (by kernel_rfl) (by kernel_rfl) (fun _ _ _ h => h) (Or.inl ⟨by rfl, ?_⟩) hS11 ?_
            rotate_left
            · intro W hW
              (try dsimp only at hW)
              first | (go_simp; done) | (go_simp; with_reducible rfl)
            simp only [Act.put, List.setIfInBounds_toArray]; try simp only [List.set_cons_succ, List.set_cons_zero]
            refine take_first (i := 5) (v := ?_) (some 36) rfl rfl (by kernel_rfl) (by kernel_rfl) (by kernel_rfl) (fun _ _ _ h => h) (Or.inl ⟨by rfl, ?_⟩) hS11 ?_
            rotate_left
            · intro W hW
              (try dsimp only at hW)
              first | (go_simp; done) | (go_simp; with_reducible rfl)
            simp only [Act.put, List.setIfInBounds_toArray]; try simp only [List.set_cons_succ, List.set_cons_zero]
            refine take_first (i := 6) (some 37) rfl rfl (by kernel_rfl) (by kernel_rfl) (by kernel_rfl) (fun _ _ _ h => h) (yields_mid (chAt T 0 k) (by rfl) 34 _ rfl _ _ rfl _ _ _ (fun W h => h.1) _ Tryd.underlying34 rfl 5 (by kernel_rfl) hn0 hD0.out) hS11 ?_
            simp only [Act.put, List.setIfInBounds_toArray]; try simp only [List.set_cons_succ, List.set_cons_zero]
            refine wpAnyH_ready (rs := [7]) (by kernel_rfl) (by simp) (AllReadyH.cons rfl (fun K hK => ?_) AllReadyH.nil)
            go_simp
            refine (hF0 _).mono ?_
            rintro e v12 ⟨rfl, hb⟩
            refine hK.out _ _ ⟨keep hb hS11.1, chain hS11.2 hb⟩ (fun hS12 => ?_)
            clear hK K hS11 hb
            refine take_first (i := 8) (v := ?_) (some 39) rfl rfl (by kernel_rfl) (by kernel_rfl) (by kernel_rfl) (fun _ _ _ h => h) (Or.inl ⟨by rfl, ?_⟩) hS12 ?_
            rotate_left
            · intro W hW
              (try dsimp only at hW)
              first | (go_simp; done) | (go_simp; with_reducible rfl)
            simp only [Act.put, List.setIfInBounds_toArray]; try simp only [List.set_cons_succ, List.set_cons_zero]
            refine take_first (i := 9) (v := ?_) (some 40) rfl rfl (by kernel_rfl) (by kernel_rfl) (by kernel_rfl) (fun _ _ _ h => h) (Or.inl ⟨by rfl, ?_⟩) hS12 ?_
            rotate_left
            · intro W hW
              (try dsimp only at hW)
              first | (go_simp; done) | (go_simp; with_reducible rfl)
            simp only [Act.put, List.setIfInBounds_toArray]; try simp only [List.set_cons_succ, List.set_cons_zero]
            refine take_first (i := 10) (some 41) rfl rfl (by kernel_rfl) (by kernel_rfl) (by kernel_rfl) (fun _ _ _ h => h) (yields_row (by rfl) 38 _ rfl _ rfl _ _ _ (fun W h => h.1) _ Tryd.underlying38 rfl hi0) hS12 ?_
            simp only [Act.put, List.setIfInBounds_toArray]; try simp only [List.set_cons_succ, List.set_cons_zero]
            refine take_first (i := 11) (v := ?_) (some 42) rfl rfl (by kernel_rfl) (by kernel_rfl) (by kernel_rfl) (fun _ _ _ h => h) (Or.inl ⟨by rfl, ?_⟩) hS12 ?_
            rotate_left
            · intro W hW
              (try dsimp only at hW)
              first | (go_simp; done) | (go_simp; with_reducible rfl)
            simp only [Act.put, List.setIfInBounds_toArray]; try simp only [List.set_cons_succ, List.set_cons_zero]
            refine take_first (i := 12) (v := ?_) (some 43) rfl rfl (by kernel_rfl) (by kernel_rfl) (by kernel_rfl) (fun _ _ _ h => h) (Or.inl ⟨by rfl, ?_⟩) hS12 ?_
            rotate_left
            · intro W hW
              (try dsimp only at hW)
              first | (go_simp; done) | (go_simp; with_reducible rfl)
            simp only [Act.put, List.setIfInBounds_toArray]; try simp only [List.set_cons_succ, List.set_cons_zero]
            refine take_first (i := 13) (v := ?_) (some 44) rfl rfl (by kernel_rfl) (by kernel_rfl) (by kernel_rfl) (fun _ _ _ h => h) (Or.inl ⟨by rfl, ?_⟩) hS12 ?_
            rotate_left
            · intro W hW
              (try dsimp only at hW)
              first | (go_simp; done) | (go_simp; with_reducible rfl)
            simp only [Act.put, List.setIfInBounds_toArray]; try simp only [List.set_cons_succ, List.set_cons_zero]
            refine take_first (i := 14) (v := ?_) (some 45) rfl rfl (by kernel_rfl) (by kernel_rfl) (by kernel_rfl) (fun _ _ _ h => h) (Or.inl ⟨by rfl, ?_⟩) hS12 ?_
            rotate_left
            · intro W hW
              (try dsimp only at hW)
              first | (go_simp; done) | (go_simp; with_reducible rfl)
            simp only [Act.put, List.setIfInBounds_toArray]; try simp only [List.set_cons_succ, List.set_cons_zero]
            refine take_first (i := 15) (v := ?_) (some 46) rfl rfl (by kernel_rfl) (by kernel_rfl) (by kernel_rfl) (fun _ _ _ h => h) (Or.inl ⟨by rfl, ?_⟩) hS12 ?_
            rotate_left
            · intro W hW
              (try dsimp only at hW)
              first | (go_simp; done) | (go_simp; with_reducible rfl)
            simp only [Act.put, List.setIfInBounds_toArray]; try simp only [List.set_cons_succ, List.set_cons_zero]
            refine take_first (i := 16) (some 47) rfl rfl (by kernel_rfl) (by kernel_rfl) (by kernel_rfl) (fun _ _ _ h => h) (yields_mid (chAt T 1 k) (by rfl) 34 _ rfl _ _ rfl _ _ _ (fun W h => h.1) _ Tryd.underlying34 rfl 5 (by kernel_rfl) hn1 hD1.out) hS12 ?_
            simp only [Act.put, List.setIfInBounds_toArray]; try simp only [List.set_cons_succ, List.set_cons_zero]
            refine wpAnyH_ready (rs := [17]) (by kernel_rfl) (by simp) (AllReadyH.cons rfl (fun K hK => ?_) AllReadyH.nil)
            go_simp
            refine (hF1 _).mono ?_
            rintro e v13 ⟨rfl, hb⟩
            refine hK.out _ _ ⟨keep hb hS12.1, chain hS12.2 hb⟩ (fun hS13 => ?_)
            clear hK K hS12 hb
            refine take_first (i := 18) (v := ?_) (some 49) rfl rfl (by kernel_rfl) (by kernel_rfl) (by kernel_rfl) (fun _ _ _ h => h) (Or.inl ⟨by rfl, ?_⟩) hS13 ?_
            rotate_left
            · intro W hW
              (try dsimp only at hW)
              first | (go_simp; done) | (go_simp; with_reducible rfl)
            simp only [Act.put, List.setIfInBounds_toArray]; try simp only [List.set_cons_succ, List.set_cons_zero]
            refine take_first (i := 19) (v := ?_) (some 50) rfl rfl (by kernel_rfl) (by kernel_rfl) (by kernel_rfl) (fun _ _ _ h => h) (Or.inl ⟨by rfl, ?_⟩) hS13 ?_
            rotate_left
            · intro W hW
              (try dsimp only at hW)
              first | (go_simp; done) | (go_simp; with_reducible rfl)
            simp only [Act.put, List.setIfInBounds_toArray]; try simp only [List.set_cons_succ, List.set_cons_zero]
            refine wpAnyH_done (by kernel_rfl) ?_ _
            go_wp2_with fail
            go_ret
            exact ⟨ret_bool hbad'.out.symm, hS13.2⟩
          · rw [h1] at hF1
            have hgood := mkHid (show bothB wd hi ld T k = true by rw [hb2.out, h0, h1]; rfl)
            clear hbk hb2 hyes hbad h0 h1
            go_wp2_with fail
            refine wp_region_held_drew (S := (fun W => W.heap[w.heap.size]? = some (.cells (sea wd hi ld T) 38 (0, 0)) ∧ Below w.heap.size w W)) (by kernel_rfl) ⟨r0, rB.drew⟩ (fun hS11 => ?_)
            clear r0 rB
            refine take_first (i := 0) (some 31) rfl rfl (by kernel_rfl) (by kernel_rfl) (by kernel_rfl) (fun _ _ _ h => h) (yields_row (by rfl) 38 _ rfl _ rfl _ _ _ (fun W h => h.1) _ Tryd.underlying38 rfl hi0) hS11 ?_
            simp only [Act.put, List.setIfInBounds_toArray]; try simp only [List.set_cons_succ, List.set_cons_zero]
            refine take_first (i := 1) (v := ?_) (some 32) rfl rfl (by kernel_rfl) (by kernel_rfl) (by kernel_rfl) (fun _ _ _ h => h) (Or.inl ⟨by rfl, ?_⟩) hS11 ?_
            rotate_left
            · intro W hW
              (try dsimp only at hW)
              first | (go_simp; done) | (go_simp; with_reducible rfl)
            simp only [Act.put, List.setIfInBounds_toArray]; try simp only [List.set_cons_succ, List.set_cons_zero]
            refine take_first (i := 2) (v := ?_) (some 33) rfl rfl (by kernel_rfl) (by kernel_rfl) (by kernel_rfl) (fun _ _ _ h => h) (Or.inl ⟨by rfl, ?_⟩) hS11 ?_
            rotate_left
            · intro W hW
              (try dsimp only at hW)
              first | (go_simp; done) | (go_simp; with_reducible rfl)
            simp only [Act.put, List.setIfInBounds_toArray]; try simp only [List.set_cons_succ, List.set_cons_zero]
            refine take_first (i := 3) (v := ?_) (some 34) rfl rfl (by kernel_rfl) (by kernel_rfl) (by kernel_rfl) (fun _ _ _ h => h) (Or.inl ⟨by rfl, ?_⟩) hS11 ?_
            rotate_left
            · intro W hW
              (try dsimp only at hW)
              first | (go_simp; done) | (go_simp; with_reducible rfl)
            simp only [Act.put, List.setIfInBounds_toArray]; try simp only [List.set_cons_succ, List.set_cons_zero]
            refine take_first (i := 4) (v := ?_) (some 35) rfl rfl (by kernel_rfl) (by kernel_rfl) (by kernel_rfl) (fun _ _ _ h => h) (Or.inl ⟨by rfl, ?_⟩) hS11 ?_
            rotate_left
            · intro W hW
              (try dsimp only at hW)
              first | (go_simp; done) | (go_simp; with_reducible rfl)
            simp only [Act.put, List.setIfInBounds_toArray]; try simp only [List.set_cons_succ, List.set_cons_zero]
            refine take_first (i := 5) (v := ?_) (some 36) rfl rfl (by kernel_rfl) (by kernel_rfl) (by kernel_rfl) (fun _ _ _ h => h) (Or.inl ⟨by rfl, ?_⟩) hS11 ?_
            rotate_left
            · intro W hW
              (try dsimp only at hW)
              first | (go_simp; done) | (go_simp; with_reducible rfl)
            simp only [Act.put, List.setIfInBounds_toArray]; try simp only [List.set_cons_succ, List.set_cons_zero]
            refine take_first (i := 6) (some 37) rfl rfl (by kernel_rfl) (by kernel_rfl) (by kernel_rfl) (fun _ _ _ h => h) (yields_mid (chAt T 0 k) (by rfl) 34 _ rfl _ _ rfl _ _ _ (fun W h => h.1) _ Tryd.underlying34 rfl 5 (by kernel_rfl) hn0 hD0.out) hS11 ?_
            simp only [Act.put, List.setIfInBounds_toArray]; try simp only [List.set_cons_succ, List.set_cons_zero]
            refine wpAnyH_ready (rs := [7]) (by kernel_rfl) (by simp) (AllReadyH.cons rfl (fun K hK => ?_) AllReadyH.nil)
            go_simp
            refine (hF0 _).mono ?_
            rintro e v12 ⟨rfl, hb⟩
            refine hK.out _ _ ⟨keep hb hS11.1, chain hS11.2 hb⟩ (fun hS12 => ?_)
            clear hK K hS11 hb
            refine take_first (i := 8) (v := ?_) (some 39) rfl rfl (by kernel_rfl) (by kernel_rfl) (by kernel_rfl) (fun _ _ _ h => h) (Or.inl ⟨by rfl, ?_⟩) hS12 ?_
            rotate_left
            · intro W hW
              (try dsimp only at hW)
              first | (go_simp; done) | (go_simp; with_reducible rfl)
            simp only [Act.put, List.setIfInBounds_toArray]; try simp only [List.set_cons_succ, List.set_cons_zero]
            refine take_first (i := 9) (v := ?_) (some 40) rfl rfl (by kernel_rfl) (by kernel_rfl) (by kernel_rfl) (fun _ _ _ h => h) (Or.inl ⟨by rfl, ?_⟩) hS12 ?_
            rotate_left
            · intro W hW
              (try dsimp only at hW)
              first | (go_simp; done) | (go_simp; with_reducible rfl)
            simp only [Act.put, List.setIfInBounds_toArray]; try simp only [List.set_cons_succ, List.set_cons_zero]
            refine take_first (i := 10) (some 41) rfl rfl (by kernel_rfl) (by kernel_rfl) (by kernel_rfl) (fun _ _ _ h => h) (yields_row (by rfl) 38 _ rfl _ rfl _ _ _ (fun W h => h.1) _ Tryd.underlying38 rfl hi0) hS12 ?_
            simp only [Act.put, List.setIfInBounds_toArray]; try simp only [List.set_cons_succ, List.set_cons_zero]
            refine take_first (i := 11) (v := ?_) (some 42) rfl rfl (by kernel_rfl) (by kernel_rfl) (by kernel_rfl) (fun _ _ _ h => h) (Or.inl ⟨by rfl, ?_⟩) hS12 ?_
            rotate_left
            · intro W hW
              (try dsimp only at hW)
              first | (go_simp; done) | (go_simp; with_reducible rfl)
            simp only [Act.put, List.setIfInBounds_toArray]; try simp only [List.set_cons_succ, List.set_cons_zero]
            refine take_first (i := 12) (v := ?_) (some 43) rfl rfl (by kernel_rfl) (by kernel_rfl) (by kernel_rfl) (fun _ _ _ h => h) (Or.inl ⟨by rfl, ?_⟩) hS12 ?_
            rotate_left
            · intro W hW
              (try dsimp only at hW)
              first | (go_simp; done) | (go_simp; with_reducible rfl)
            simp only [Act.put, List.setIfInBounds_toArray]; try simp only [List.set_cons_succ, List.set_cons_zero]
            refine take_first (i := 13) (v := ?_) (some 44) rfl rfl (by kernel_rfl) (by kernel_rfl) (by kernel_rfl) (fun _ _ _ h => h) (Or.inl ⟨by rfl, ?_⟩) hS12 ?_
            rotate_left
            · intro W hW
              (try dsimp only at hW)
              first | (go_simp; done) | (go_simp; with_reducible rfl)
            simp only [Act.put, List.setIfInBounds_toArray]; try simp only [List.set_cons_succ, List.set_cons_zero]
            refine take_first (i := 14) (v := ?_) (some 45) rfl rfl (by kernel_rfl) (by kernel_rfl) (by kernel_rfl) (fun _ _ _ h => h) (Or.inl ⟨by rfl, ?_⟩) hS12 ?_
            rotate_left
            · intro W hW
              (try dsimp only at hW)
              first | (go_simp; done) | (go_simp; with_reducible rfl)
            simp only [Act.put, List.setIfInBounds_toArray]; try simp only [List.set_cons_succ, List.set_cons_zero]
            refine take_first (i := 15) (v := ?_) (some 46) rfl rfl (by kernel_rfl) (by kernel_rfl) (by kernel_rfl) (fun _ _ _ h => h) (Or.inl ⟨by rfl, ?_⟩) hS12 ?_
            rotate_left
            · intro W hW
              (try dsimp only at hW)
              first | (go_simp; done) | (go_simp; with_reducible rfl)
            simp only [Act.put, List.setIfInBounds_toArray]; try simp only [List.set_cons_succ, List.set_cons_zero]
            refine take_first (i := 16) (some 47) rfl rfl (by kernel_rfl) (by kernel_rfl) (by kernel_rfl) (fun _ _ _ h => h) (yields_mid (chAt T 1 k) (by rfl) 34 _ rfl _ _ rfl _ _ _ (fun W h => h.1) _ Tryd.underlying34 rfl 5 (by kernel_rfl) hn1 hD1.out) hS12 ?_
            simp only [Act.put, List.setIfInBounds_toArray]; try simp only [List.set_cons_succ, List.set_cons_zero]
            refine wpAnyH_ready (rs := [17]) (by kernel_rfl) (by simp) (AllReadyH.cons rfl (fun K hK => ?_) AllReadyH.nil)
            go_simp
            refine (hF1 _).mono ?_
            rintro e v13 ⟨rfl, hb⟩
            refine hK.out _ _ ⟨keep hb hS12.1, chain hS12.2 hb⟩ (fun hS13 => ?_)
            clear hK K hS12 hb
            refine take_first (i := 18) (v := ?_) (some 49) rfl rfl (by kernel_rfl) (by kernel_rfl) (by kernel_rfl) (fun _ _ _ h => h) (Or.inl ⟨by rfl, ?_⟩) hS13 ?_
            rotate_left
            · intro W hW
              (try dsimp only at hW)
              first | (go_simp; done) | (go_simp; with_reducible rfl)
            simp only [Act.put, List.setIfInBounds_toArray]; try simp only [List.set_cons_succ, List.set_cons_zero]
            refine take_first (i := 19) (v := ?_) (some 50) rfl rfl (by kernel_rfl) (by kernel_rfl) (by kernel_rfl) (fun _ _ _ h => h) (Or.inl ⟨by rfl, ?_⟩) hS13 ?_
            rotate_left
            · intro W hW
              (try dsimp only at hW)
              first | (go_simp; done) | (go_simp; with_reducible rfl)
            simp only [Act.put, List.setIfInBounds_toArray]; try simp only [List.set_cons_succ, List.set_cons_zero]
            refine wpAnyH_done (by kernel_rfl) ?_ _
            go_wp2_with fail
            go_roundw
            case rel =>
              have hnext := mkHid (fun (j : Nat) (hj : j < k + 1) => show bothB wd hi ld T j = true by
                by_cases e : j = k
                · rw [e]; exact hgood.out
                · exact hall.out j (by omega))
              exact ⟨k + 1, by omega, by go_num, hS13.1, hS13.2, hnext⟩
            case measure => simp [intOf]; omega
      · obtain rfl : k = 36 := by omega
        have hy := mkHid (hyes hall.out)
        clear hyes hbad
        go_wp2_with fail
        go_ret
        exact ⟨ret_bool hy.out.symm, rB⟩
end Go.Proofs.YthpcidnfbceliaaDoor
