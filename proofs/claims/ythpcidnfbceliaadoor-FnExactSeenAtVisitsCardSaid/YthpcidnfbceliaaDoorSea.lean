/- A sea's cells; the laws' copy of a sea has the same ones. -/
import Derived.Test.YthpcidnfbceliaaDoorToSea
namespace Go.Proofs.YthpcidnfbceliaaDoor
open Go.ChangeShapes Go.WideShapes Go.ChangeAt Go.RowKit
set_option linter.unusedVariables false

/-- The cells of a sea: how wide and how high it is, its land, the parts of both tides. -/
def sea (wd hi ld : Int) (T : Array Value) : Array Value := #[.int .i8 wd, .int .i8 hi, .int .u64 ld] ++ T

theorem sea_0 (wd hi ld : Int) (T : Array Value) : (sea wd hi ld T)[0]? = some (.int .i8 wd) := by simp [sea, Array.getElem?_append]
theorem sea_1 (wd hi ld : Int) (T : Array Value) : (sea wd hi ld T)[1]? = some (.int .i8 hi) := by simp [sea, Array.getElem?_append]
theorem sea_2 (wd hi ld : Int) (T : Array Value) : (sea wd hi ld T)[2]? = some (.int .u64 ld) := by simp [sea, Array.getElem?_append]
theorem sea_3 (wd hi ld : Int) (T : Array Value) (k : Nat) : (sea wd hi ld T)[3 + k]? = T[k]? := by
  unfold sea
  rw [Array.getElem?_append, if_neg (by simp)]
  simp
theorem sea_size (wd hi ld : Int) (T : Array Value) : (sea wd hi ld T).size = 3 + T.size := by simp [sea]
theorem sea_part (wd hi ld : Int) (T : Array Value) (o n : Nat) (h : o + n ≤ T.size) : (sea wd hi ld T).extract (3 + o) (3 + o + n) = T.extract o (o + n) := by
  refine Array.ext_getElem? fun i => ?_
  rw [Array.getElem?_extract, Array.getElem?_extract, sea_size]
  by_cases hi' : i < n
  · rw [if_pos (by omega), if_pos (by omega), show 3 + o + i = 3 + (o + i) by omega, sea_3]
  · rw [if_neg (by omega), if_neg (by omega)]
theorem sea_tides (wd hi ld : Int) (T : Array Value) (h : T.size = 360) : (sea wd hi ld T).extract 3 (3 + 360) = T := by
  have := sea_part wd hi ld T 0 360 (by omega)
  rw [show 3 + 0 = 3 by rfl, show 0 + 360 = T.size by omega] at this
  rw [this]; simp

theorem sea_copied (wd hi ld : Int) (T : Array Value) (hT : T.size = 360) :
    splice ((((sea 0 0 0 (zeros 360)).setIfInBounds 0 (.int .i8 wd)).setIfInBounds 1 (.int .i8 hi)).setIfInBounds 2 (.int .u64 ld)) 3 T.toList = sea wd hi ld T := by
  refine Array.ext_getElem? fun i => ?_
  rw [splice_get _ _ _ (by simp [sea_size, zeros_size]; omega)]
  by_cases h3 : 3 ≤ i ∧ i < 3 + T.toList.length
  · rw [if_pos h3]
    obtain ⟨j, rfl⟩ : ∃ j, i = 3 + j := ⟨i - 3, by omega⟩
    rw [sea_3, show 3 + j - 3 = j by omega]; simp
  · rw [if_neg h3]
    simp only [Array.length_toList] at h3
    by_cases hbig : 363 ≤ i
    · rw [Array.getElem?_eq_none (by simp [sea_size, zeros_size]; omega), Array.getElem?_eq_none (by rw [sea_size]; omega)]
    · obtain rfl | rfl | rfl : i = 0 ∨ i = 1 ∨ i = 2 := by omega
      · rw [sea_0]; simp [Array.getElem?_setIfInBounds, sea_size]
      · rw [sea_1]; simp [Array.getElem?_setIfInBounds, sea_size]; omega
      · rw [sea_2]; simp [Array.getElem?_setIfInBounds, sea_size]; omega

theorem sea_one {wd hi ld : Int} {T : Array Value} (hu : ∀ v ∈ T, IsU8 v) : (sea wd hi ld T).all (·.oneCell') = true := by
  refine Array.all_eq_true_iff_forall_mem.2 fun v hv => ?_
  simp only [sea, Array.mem_append] at hv
  rcases hv with hv | hv
  · simp at hv; rcases hv with rfl | rfl | rfl <;> rfl
  · exact (hu v hv).one

set_option maxRecDepth 100000 in
set_option maxHeartbeats 400000 in
theorem laws_toSea (wd hi ld : Int) (T : Array Value) (hT : T.size = 360) (hu : ∀ v ∈ T, IsU8 v) (w : World) :
    Calls Tryd.prog 9 #[.agg (sea wd hi ld T)] w fun e w' => e = .returned (.agg (sea wd hi ld T)) ∧ Below w.heap.size w w' := by
  have hz : (Tryd.prog.info? 38).map (·.zero) = some (some (.agg (sea 0 0 0 (zeros 360)))) := by kernel_rfl
  have hi39 : (Tryd.prog.info? 38).map (·.size) = some (sea wd hi ld T).size := by rw [sea_size, hT]; kernel_rfl
  have hi37 : (Tryd.prog.info? 36).map (·.size) = some T.size := by rw [hT]; kernel_rfl
  have hsz : (sea wd hi ld T).size = 363 := by rw [sea_size, hT]
  have hzz : (sea 0 0 0 (zeros 360)).size = 363 := by rw [sea_size, zeros_size]
  have hT3 := mkHid (sea_tides wd hi ld T hT)
  have qB := chainAlloc (chainAlloc (chainAlloc (Below.refl w.heap.size w) (.cells (sea wd hi ld T) 28)) (.cells (sea 0 0 0 (zeros 360)) 38)) (.cells (sea 0 0 0 (zeros 360)) 38)
  have q0 := keepAlloc (.cells (sea 0 0 0 (zeros 360)) 38) (keepAlloc (.cells (sea 0 0 0 (zeros 360)) 38) (newBlock w (.cells (sea wd hi ld T) 28)))
  have q1 := keepAlloc (.cells (sea 0 0 0 (zeros 360)) 38) (newAt (w.alloc (.cells (sea wd hi ld T) 28)) (.cells (sea 0 0 0 (zeros 360)) 38) (n := w.heap.size + 1) (by simp))
  have q2 := newAt ((w.alloc (.cells (sea wd hi ld T) 28)).alloc (.cells (sea 0 0 0 (zeros 360)) 38)) (.cells (sea 0 0 0 (zeros 360)) 38) (n := w.heap.size + 1 + 1) (by simp)
  go_enter Tryd.func9, Tryd.ntmps9
  go_wp2_with (first | (refine op_alloc rfl 38 rfl (sea 0 0 0 (zeros 360)) hz ?_) | (refine op_load1 rfl 22 _ rfl _ _ rfl _ _ _ q0 _ Tryd.underlying22 rfl _ (by first | exact sea_0 _ _ _ _ | exact sea_1 _ _ _ _) ?_) | (refine op_load1 rfl 23 _ rfl _ _ rfl _ _ _ q0 _ Tryd.underlying23 rfl _ (sea_2 _ _ _ _) ?_) | (refine op_store1 rfl _ _ _ rfl _ _ rfl _ rfl _ _ q2 (by kernel_rfl) (by simp [hzz]) rfl ?_; intro w1 s2 so sB; replace q0 := (so _ (by omega)).trans q0; replace q1 := (so _ (by omega)).trans q1; replace qB := chainStore qB sB (by omega); replace q2 := s2; clear so sB s2) | (refine at_load 26 rfl ?_; refine op_load2 T rfl 26 _ rfl _ _ rfl _ _ _ q0 _ Tryd.underlying26 rfl 360 (by kernel_rfl) (by rw [hsz]; omega) hT3.out ?_) | (go_at_call 28; refine (laws_toChancesA36A2 T hT hu _).mono ?_; rintro e w1 ⟨rfl, hb1⟩; replace q0 := keep hb1 q0; replace q1 := keep hb1 q1; replace q2 := keep hb1 q2; replace qB := chain qB hb1; clear hb1) | (refine at_store 36 rfl ?_; refine op_store2 (sea wd hi ld T) rfl 36 _ _ rfl _ _ rfl _ rfl _ _ q2 hi37 (by simp [hzz, hT]) (allU8_one hu) (sea_copied wd hi ld T hT) ?_; intro w1 s2 so sB; replace q0 := (so _ (by omega)).trans q0; replace q1 := (so _ (by omega)).trans q1; replace qB := chainStore qB sB (by omega); replace q2 := s2; clear so sB s2) | (refine at_load 38 rfl ?_; refine wpList_load_row rfl 38 _ rfl _ rfl _ _ _ _ q2 Tryd.underlying38 rfl hi39 ?_) | (refine at_store 38 rfl ?_; refine wpList_store_row rfl 38 _ _ rfl _ _ rfl rfl _ _ q1 hi39 (by rw [hzz, hsz]) (sea_one hu) ?_))
  refine bodyPost_ret (results_cell_row (p := 2) (ty := 38) rfl _ _ (w.heap.size + 1) 38 (sea wd hi ld T) (0, 0) _ rfl (setRow_heap _ _ _ _ _ _ q1) Tryd.underlying38 rfl hi39) rfl ⟨rfl, ?_⟩
  exact below_setRow qB (by omega) _
end Go.Proofs.YthpcidnfbceliaaDoor
