/- What a valid sea is, cell by cell. -/
import Derived.Test.YthpcidnfbceliaaDoorVeEach
import Derived.Test.YthpcidnfbceliaaDoorVeSeaA
namespace Go.Proofs.YthpcidnfbceliaaDoor
open Go.ChangeShapes Go.WideShapes Go.ChangeAt Go.RowKit Ve
set_option linter.unusedVariables false
set_option maxRecDepth 100000

theorem inC_is {wd hi : Int} {k : Nat} (hk : k < 36) : inC wd hi k = isB wd hi k := by
  unfold inC isB
  rw [← Bool.decide_and]
  exact decide_eq_decide.2 ⟨fun h => by omega, fun h => by omega⟩
theorem lay_sea3 : lay Tryd.prog 38 = 0 :: 0 :: 7 :: List.replicate 360 4 := lay_sea
theorem land_of {S : Array Value} (h : WT Tryd.prog 38 S) : 0 ≤ num S 2 ∧ num S 2 ≤ 18446744073709551615 := wt_land lay_sea h
theorem isLand_dry {S : Array Value} (h : WT Tryd.prog 38 S) {k : Nat} (hk : k < 36) : impl_isLand_v0 S k = dryB (num S 2) k := by
  have hS := land_of h
  have hc : 0 ≤ (k : Int) ∧ (k : Int) ≤ 35 := by omega
  have hl := land_bit (ld := num S 2) (c := (k : Int)) (by show (decide _ && decide _) = true; rw [decide_eq_true (show IntKind.u64.min ≤ num S 2 from hS.1), decide_eq_true (show num S 2 ≤ IntKind.u64.max from hS.2)]; rfl) hc
  rw [← hl]
  unfold impl_isLand_v0 impl_bitOf_v0
  rw [min_c hc, Int.one_mul]
  rfl
theorem water_wet {S : Array Value} (h : WT Tryd.prog 38 S) {k : Nat} (hk : k < 36) : (inC (num S 0) (num S 1) k && impl_isWater_v0 S k) = wetB (num S 0) (num S 1) (num S 2) k := by
  unfold impl_isWater_v0 wetB
  rw [inC_is hk, isLand_dry h hk]
theorem okS_dims {S : Array Value} (h : okS S = true) : 1 ≤ num S 0 ∧ num S 0 ≤ 6 ∧ 1 ≤ num S 1 ∧ num S 1 ≤ 6 := okB_bounds h
theorem okS_iter {S : Array Value} (h : okS S = true) : (decide (0 ≤ num S 0) && decide (num S 0 ≤ 6) && (decide (0 ≤ num S 1) && decide (num S 1 ≤ 6))) = true := by
  obtain ⟨h1, h2, h3, h4⟩ := okS_dims h
  rw [decide_eq_true (show 0 ≤ num S 0 by omega), decide_eq_true h2, decide_eq_true (show 0 ≤ num S 1 by omega), decide_eq_true h4]; rfl
theorem okS_fit {S : Array Value} (h : okS S = true) {t k : Nat} (ht : t < 2) (hk : k < 36) : fitB (wetB (num S 0) (num S 1) (num S 2) k) (chAt (S.extract 3 363) t k) = true := by
  unfold okS Go.Proofs.YthpcidnfbceliaaDoor.okB at h
  simp only [Bool.and_eq_true] at h
  have := all_range_iff.1 h.2.2 k hk
  unfold bothB at this
  simp only [Bool.and_eq_true] at this
  match t, ht with
  | 0, _ => exact this.1
  | 1, _ => exact this.2
/-- The numbers of a cell's chances. -/
theorem chAt_num {S : Array Value} (hz : S.size = 363) {t k j : Nat} (ht : t < 2) (hk : k < 36) (hj : j < 5) : px (chAt (S.extract 3 363) t k) j = num S (3 + t * 180 + k * 5 + j) := by
  unfold chAt
  rw [px_extract hj (by simp; omega)]
  unfold px num
  rw [Array.getElem?_extract, if_pos (by omega), show 3 + (t * 180 + k * 5 + j) = 3 + t * 180 + k * 5 + j by omega]
  rfl
theorem ok_dry {S : Array Value} (h : okS S = true) (hz : S.size = 363) {t k j : Nat} (ht : t < 2) (hk : k < 36) (hj : j < 5) (hw : wetB (num S 0) (num S 1) (num S 2) k = false) : num S (3 + t * 180 + k * 5 + j) = 0 := by
  have hf := okS_fit h ht hk
  rw [hw] at hf
  unfold fitB at hf
  simp only [cond_false] at hf
  rw [← chAt_num hz ht hk hj, eqB_iff.1 hf j hj]
  unfold px zeros
  rw [Array.getElem?_replicate, if_pos hj]
theorem ok_wet {S : Array Value} (h : okS S = true) (hz : S.size = 363) {t k : Nat} (ht : t < 2) (hk : k < 36) (hw : wetB (num S 0) (num S 1) (num S 2) k = true) :
    num S (3 + t * 180 + k * 5 + 0) + num S (3 + t * 180 + k * 5 + 1) + num S (3 + t * 180 + k * 5 + 2) + num S (3 + t * 180 + k * 5 + 3) + num S (3 + t * 180 + k * 5 + 4) = 12 := by
  have hf := okS_fit h ht hk
  rw [hw] at hf
  have := of_decide_eq_true hf
  unfold sum5 at this
  rw [chAt_num hz ht hk (by omega), chAt_num hz ht hk (by omega), chAt_num hz ht hk (by omega), chAt_num hz ht hk (by omega), chAt_num hz ht hk (by omega)] at this
  exact this
theorem num_sub {S : Array Value} {o n j : Nat} (hj : j < n) : num (S.extract o (o + n)) j = num S (o + j) := by
  unfold num
  rw [Array.getElem?_extract]
  by_cases h : o + j < S.size
  · rw [if_pos (by omega)]
  · rw [if_neg (by omega), Array.getElem?_eq_none (by omega)]
theorem seaS_size {S : Array Value} (h : WT Tryd.prog 38 S) : S.size = 363 := by rw [h.layLen, lay_sea]; simp
theorem sea_u8 {S : Array Value} (h : WT Tryd.prog 38 S) {i : Nat} (hi : i < 360) : S[3 + i]? = some (.int .u8 (num S (3 + i))) ∧ 0 ≤ num S (3 + i) ∧ num S (3 + i) ≤ 255 := h.int (k := .u8) (by rw [lay_sea, show 3 + i = i + 3 by omega]; show (List.replicate 360 4)[i]? = some 4; rw [List.getElem?_replicate, if_pos hi])
theorem landBit {S : Array Value} (h : okS S = true) : landB (num S 0) (num S 1) (num S 2) = true := by
  unfold okS Go.Proofs.YthpcidnfbceliaaDoor.okB at h
  simp only [Bool.and_eq_true] at h
  exact h.2.1
end Go.Proofs.YthpcidnfbceliaaDoor
