/- The laws' copy of a sea: it has the same cells. -/
import Derived.Test.YthpcidnfbceliaaDoorChances
import Derived.Test.YthpcidnfbceliaaDoorCells
namespace Go.Proofs.YthpcidnfbceliaaDoor
open Go.ChangeShapes Go.WideShapes Go.ChangeAt Go.RowKit
set_option linter.unusedVariables false

theorem newAt (W : World) (o : Obj) {n : Nat} (h : W.heap.size = n) : (W.alloc o).heap[n]? = some o := by subst h; exact newBlock W o
theorem chainStore {w W w1 : World} {g : Nat} (h : Below w.heap.size w W) (hs : Below g W w1) (hg : w.heap.size ≤ g) : Below w.heap.size w w1 := h.trans (hs.mono hg)

/-- So many cells of the byte 0. -/
def zeros (n : Nat) : Array Value := Array.replicate n (.int .u8 0)
theorem zeros_size (n : Nat) : (zeros n).size = n := by simp [zeros]

/-- The first cells of one row, the others of another. -/
def mix (A Z : Array Value) (k : Nat) : Array Value := A.extract 0 k ++ Z.extract k Z.size

theorem mix_get {A Z : Array Value} (hs : A.size = Z.size) {k : Nat} (hk : k ≤ A.size) (i : Nat) : (mix A Z k)[i]? = if i < k then A[i]? else Z[i]? := by
  unfold mix
  rw [Array.getElem?_append]
  have hsz : (A.extract 0 k).size = k := by simp; omega
  rw [hsz]
  by_cases h : i < k
  · rw [if_pos h, if_pos h, Array.getElem?_extract, if_pos (by omega)]; simp
  · rw [if_neg h, if_neg h, Array.getElem?_extract]
    by_cases h2 : i < Z.size
    · rw [if_pos (by omega), show k + (i - k) = i by omega]
    · rw [if_neg (by omega), Array.getElem?_eq_none (by omega)]
theorem mix_size {A Z : Array Value} (hs : A.size = Z.size) {k : Nat} (hk : k ≤ A.size) : (mix A Z k).size = Z.size := by
  unfold mix; simp; omega
theorem mix_zero {A Z : Array Value} (hs : A.size = Z.size) : mix A Z 0 = Z := by
  refine Array.ext_getElem? fun i => ?_
  rw [mix_get hs (Nat.zero_le _), if_neg (by omega)]
theorem mix_all {A Z : Array Value} (hs : A.size = Z.size) : mix A Z A.size = A := by
  refine Array.ext_getElem? fun i => ?_
  rw [mix_get hs (Nat.le_refl _)]
  split
  · rfl
  · rw [Array.getElem?_eq_none (by omega), Array.getElem?_eq_none (by omega)]
theorem mix_next {A Z : Array Value} (hs : A.size = Z.size) {k n : Nat} (hk : k + n ≤ A.size) :
    splice (mix A Z k) k (A.extract k (k + n)).toList = mix A Z (k + n) := by
  refine Array.ext_getElem? fun i => ?_
  have hlen : (A.extract k (k + n)).toList.length = n := by simp; omega
  rw [splice_get _ _ _ (by rw [hlen, mix_size hs (by omega)]; omega), mix_get hs hk, mix_get hs (by omega), hlen]
  by_cases h1 : k ≤ i ∧ i < k + n
  · rw [if_pos h1, if_pos h1.2, Array.getElem?_toList, Array.getElem?_extract, if_pos (by omega), show k + (i - k) = i by omega]
  · rw [if_neg h1]
    by_cases h2 : i < k
    · rw [if_pos h2, if_pos (by omega)]
    · rw [if_neg h2, if_neg (by omega)]

theorem mem_extract {A : Array Value} {o n : Nat} {v : Value} (h : v ∈ A.extract o n) : v ∈ A := by
  obtain ⟨i, hi, rfl⟩ := Array.mem_iff_getElem.1 h
  simp

theorem laws_toChances' (D : Array Value) (hD : D.size = 5) (hu : ∀ v ∈ D, IsU8 v) (w : World) :
    Calls Tryd.prog 83 #[.agg D] w fun e w' => e = .returned (.agg D) ∧ Below w.heap.size w w' := by
  obtain ⟨x0, x1, x2, x3, x4, e, _⟩ := five_u8 (cs := D.toList) (by simpa using hD) (fun v hv => hu v (by simpa using hv))
  obtain rfl : D = ch5 x0 x1 x2 x3 x4 := Array.toList_inj.1 e
  exact laws_toChances x0 x1 x2 x3 x4 w

set_option maxRecDepth 100000 in
set_option maxHeartbeats 1000000 in
theorem laws_toChancesA36 (A : Array Value) (hA : A.size = 180) (hu : ∀ v ∈ A, IsU8 v) (w : World) :
    Calls Tryd.prog 54 #[.agg A] w fun e w' => e = .returned (.agg A) ∧ Below w.heap.size w w' := by
  have hz : (Tryd.prog.info? 35).map (·.zero) = some (some (.agg (zeros 180))) := by kernel_rfl
  have hB0 := chainAlloc (chainAlloc (chainAlloc (Below.refl w.heap.size w) (.cells A 25)) (.cells (zeros 180) 35)) (.cells (zeros 180) 35)
  have q0 := keepAlloc (.cells (zeros 180) 35) (keepAlloc (.cells (zeros 180) 35) (newBlock w (.cells A 25)))
  go_enter Tryd.func54, Tryd.ntmps54
  go_wp2_with (refine op_alloc rfl 35 rfl (zeros 180) hz ?_)
  go_loopw [4] (fun i wr => ∃ k : Nat, k ≤ 36 ∧ i = .int .i64 k ∧ wr.heap[w.heap.size]? = some (.cells A 25 (0, 0)) ∧ wr.heap[w.heap.size + 1]? = some (.cells (zeros 180) 35 (0, 0)) ∧ wr.heap[w.heap.size + 1 + 1]? = some (.cells (mix A (zeros 180) (k * 5)) 35 (0, 0)) ∧ Below w.heap.size w wr) (fun i _ => 36 - (intOf i).toNat)
  case atStart =>
    refine ⟨0, Nat.zero_le _, rfl, q0, keepAlloc _ (newAt _ _ (by simp)), ?_, hB0⟩
    rw [mix_zero (by rw [zeros_size]; exact hA)]
    exact newAt _ _ (by simp)
  case round =>
    obtain ⟨k, hk, rfl, r0, r1, r2, rB⟩ := hrel
    clear q0 hB0
    have hsA : A.size = (zeros 180).size := by rw [zeros_size]; exact hA
    by_cases hlt : k < 36
    · have hn : k * 5 + 5 ≤ A.size := by omega
      have hsz : (A.extract (k * 5) (k * 5 + 5)).size = 5 := by simp; omega
      have hu5 : ∀ v ∈ A.extract (k * 5) (k * 5 + 5), IsU8 v := fun v hv => hu v (mem_extract hv)
      have hi5 : (Tryd.prog.info? 34).map (·.size) = some (A.extract (k * 5) (k * 5 + 5)).size := by rw [hsz]; kernel_rfl
      have hn5 : k * 5 + (A.extract (k * 5) (k * 5 + 5)).size ≤ (mix A (zeros 180) (k * 5)).size := by rw [hsz, mix_size hsA (by omega), zeros_size]; omega
      go_wp2_with (first | (refine op_load rfl 24 _ rfl _ _ rfl _ _ _ r0 _ Tryd.underlying24 rfl 5 (by kernel_rfl) hn ?_) | (go_at_call 83; refine (laws_toChances' _ hsz hu5 _).mono ?_; rintro e w1 ⟨rfl, hb1⟩; have q0 := keep hb1 r0; have q1 := keep hb1 r1; have q2 := keep hb1 r2; have qB := chain rB hb1; clear r0 r1 r2 rB hb1) | (refine op_store rfl 34 _ _ rfl _ _ rfl _ rfl _ _ q2 hi5 hn5 (allU8_one hu5) ?_; intro w2 s2 so sB; have p0 := (so _ (by omega)).trans q0; have p1 := (so _ (by omega)).trans q1; have pB := chainStore qB sB (by omega); clear q0 q1 q2 qB so sB))
      go_roundw
      case rel => exact ⟨k + 1, by omega, by go_num, p0, p1, by rw [mix_next hsA hn] at s2; rw [show (k + 1) * 5 = k * 5 + 5 by omega]; exact s2, pB⟩
      case measure => simp [intOf]; omega
    · obtain rfl : k = 36 := by omega
      rw [show 36 * 5 = A.size by omega, mix_all hsA] at r2
      have hi : (Tryd.prog.info? 35).map (·.size) = some A.size := by rw [hA]; kernel_rfl
      go_wp2_with (first | (refine wpList_load_row rfl 35 _ rfl _ rfl _ _ _ _ r2 Tryd.underlying35 rfl hi ?_) | (refine wpList_store_row rfl 35 _ _ rfl _ _ rfl rfl _ _ r1 hi (by rw [zeros_size, hA]) (allU8_one hu) ?_))
      refine bodyPost_ret (results_cell_row (p := 2) (ty := 35) rfl _ _ (w.heap.size + 1) 35 A (0, 0) _ rfl (setRow_heap _ _ _ _ _ _ r1) Tryd.underlying35 rfl hi) rfl ⟨rfl, ?_⟩
      exact below_setRow rB (by omega) _
set_option maxRecDepth 100000 in
set_option maxHeartbeats 1000000 in
theorem laws_toChancesA36A2 (A : Array Value) (hA : A.size = 360) (hu : ∀ v ∈ A, IsU8 v) (w : World) :
    Calls Tryd.prog 28 #[.agg A] w fun e w' => e = .returned (.agg A) ∧ Below w.heap.size w w' := by
  have hz : (Tryd.prog.info? 36).map (·.zero) = some (some (.agg (zeros 360))) := by kernel_rfl
  have hB0 := chainAlloc (chainAlloc (chainAlloc (Below.refl w.heap.size w) (.cells A 26)) (.cells (zeros 360) 36)) (.cells (zeros 360) 36)
  have q0 := keepAlloc (.cells (zeros 360) 36) (keepAlloc (.cells (zeros 360) 36) (newBlock w (.cells A 26)))
  go_enter Tryd.func28, Tryd.ntmps28
  go_wp2_with (refine op_alloc rfl 36 rfl (zeros 360) hz ?_)
  go_loopw [4] (fun i wr => ∃ k : Nat, k ≤ 2 ∧ i = .int .i64 k ∧ wr.heap[w.heap.size]? = some (.cells A 26 (0, 0)) ∧ wr.heap[w.heap.size + 1]? = some (.cells (zeros 360) 36 (0, 0)) ∧ wr.heap[w.heap.size + 1 + 1]? = some (.cells (mix A (zeros 360) (k * 180)) 36 (0, 0)) ∧ Below w.heap.size w wr) (fun i _ => 2 - (intOf i).toNat)
  case atStart =>
    refine ⟨0, Nat.zero_le _, rfl, q0, keepAlloc _ (newAt _ _ (by simp)), ?_, hB0⟩
    rw [mix_zero (by rw [zeros_size]; exact hA)]
    exact newAt _ _ (by simp)
  case round =>
    obtain ⟨k, hk, rfl, r0, r1, r2, rB⟩ := hrel
    clear q0 hB0
    have hsA : A.size = (zeros 360).size := by rw [zeros_size]; exact hA
    by_cases hlt : k < 2
    · have hn : k * 180 + 180 ≤ A.size := by omega
      have hsz : (A.extract (k * 180) (k * 180 + 180)).size = 180 := by simp; omega
      have hu5 : ∀ v ∈ A.extract (k * 180) (k * 180 + 180), IsU8 v := fun v hv => hu v (mem_extract hv)
      have hi5 : (Tryd.prog.info? 35).map (·.size) = some (A.extract (k * 180) (k * 180 + 180)).size := by rw [hsz]; kernel_rfl
      have hn5 : k * 180 + (A.extract (k * 180) (k * 180 + 180)).size ≤ (mix A (zeros 360) (k * 180)).size := by rw [hsz, mix_size hsA (by omega), zeros_size]; omega
      go_wp2_with (first | (refine op_load rfl 25 _ rfl _ _ rfl _ _ _ r0 _ Tryd.underlying25 rfl 180 (by kernel_rfl) hn ?_) | (go_at_call 54; refine (laws_toChancesA36 _ hsz hu5 _).mono ?_; rintro e w1 ⟨rfl, hb1⟩; have q0 := keep hb1 r0; have q1 := keep hb1 r1; have q2 := keep hb1 r2; have qB := chain rB hb1; clear r0 r1 r2 rB hb1) | (refine op_store rfl 35 _ _ rfl _ _ rfl _ rfl _ _ q2 hi5 hn5 (allU8_one hu5) ?_; intro w2 s2 so sB; have p0 := (so _ (by omega)).trans q0; have p1 := (so _ (by omega)).trans q1; have pB := chainStore qB sB (by omega); clear q0 q1 q2 qB so sB))
      go_roundw
      case rel => exact ⟨k + 1, by omega, by go_num, p0, p1, by rw [mix_next hsA hn] at s2; rw [show (k + 1) * 180 = k * 180 + 180 by omega]; exact s2, pB⟩
      case measure => simp [intOf]; omega
    · obtain rfl : k = 2 := by omega
      rw [show 2 * 180 = A.size by omega, mix_all hsA] at r2
      have hi : (Tryd.prog.info? 36).map (·.size) = some A.size := by rw [hA]; kernel_rfl
      go_wp2_with (first | (refine wpList_load_row rfl 36 _ rfl _ rfl _ _ _ _ r2 Tryd.underlying36 rfl hi ?_) | (refine wpList_store_row rfl 36 _ _ rfl _ _ rfl rfl _ _ r1 hi (by rw [zeros_size, hA]) (allU8_one hu) ?_))
      refine bodyPost_ret (results_cell_row (p := 2) (ty := 36) rfl _ _ (w.heap.size + 1) 36 A (0, 0) _ rfl (setRow_heap _ _ _ _ _ _ r1) Tryd.underlying36 rfl hi) rfl ⟨rfl, ?_⟩
      exact below_setRow rB (by omega) _
end Go.Proofs.YthpcidnfbceliaaDoor
