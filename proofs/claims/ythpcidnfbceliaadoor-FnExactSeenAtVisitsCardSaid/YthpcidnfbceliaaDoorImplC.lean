/- The program's test of a number's chances. -/
import Derived.Test.YthpcidnfbceliaaDoorImplB
import Derived.Test.YthpcidnfbceliaaDoorEqs
namespace Go.Proofs.YthpcidnfbceliaaDoor
open Go.ChangeShapes Go.WideShapes Go.ChangeAt Go.RowKit
set_option linter.unusedVariables false

/-- The sum of five parts. -/
def sum5 (D : Array Value) : Int := px D 0 + px D 1 + px D 2 + px D 3 + px D 4
/-- May a number have these chances? -/
def fitB (wet : Bool) (D : Array Value) : Bool := bif wet then decide (sum5 D = 12) else eqB D (zeros 5) 5

theorem five_of {D : Array Value} (hD : D.size = 5) (hu : ∀ v ∈ D, IsU8 v) : D = ch5 (px D 0) (px D 1) (px D 2) (px D 3) (px D 4) := by
  refine Array.ext_getElem? fun i => ?_
  by_cases hi : i < 5
  · rw [px_get hu (by omega)]
    obtain rfl | rfl | rfl | rfl | rfl : i = 0 ∨ i = 1 ∨ i = 2 ∨ i = 3 ∨ i = 4 := by omega
    all_goals rfl
  · rw [Array.getElem?_eq_none (by omega), Array.getElem?_eq_none (by simp; omega)]

theorem impl_ValidChances' (D : Array Value) (hD : D.size = 5) (hu : ∀ v ∈ D, IsU8 v) (w : World) :
    Calls Tryd.prog 113 #[.agg D] w fun e w' => e = .returned (.bool (decide (sum5 D = 12))) ∧ Below w.heap.size w w' := by
  have h := impl_ValidChances (px D 0) (px D 1) (px D 2) (px D 3) (px D 4) (px_bound hu (by omega)) (px_bound hu (by omega)) (px_bound hu (by omega)) (px_bound hu (by omega)) (px_bound hu (by omega)) w
  rw [← five_of hD hu] at h
  exact h
theorem spec_l01Chances' (D : Array Value) (hD : D.size = 5) (hu : ∀ v ∈ D, IsU8 v) (w : World) :
    Calls Tryd.prog 81 #[.agg D] w fun e w' => e = .returned (.bool (decide (sum5 D = 12))) ∧ Below w.heap.size w w' := by
  have h := spec_l01Chances (px D 0) (px D 1) (px D 2) (px D 3) (px D 4) (px_bound hu (by omega)) (px_bound hu (by omega)) (px_bound hu (by omega)) (px_bound hu (by omega)) (px_bound hu (by omega)) w
  rw [← five_of hD hu] at h
  exact h
theorem zeros_u8 (n : Nat) : ∀ v ∈ zeros n, IsU8 v := fun v hv => by
  unfold zeros at hv
  rw [Array.mem_replicate] at hv
  exact ⟨0, hv.2, by omega, by omega⟩
theorem eq_none (D : Array Value) (hD : D.size = 5) (hu : ∀ v ∈ D, IsU8 v) (w : World) :
    (Op.equalIn 10000 34 (.agg D) (.agg #[.int .u8 0, .int .u8 0, .int .u8 0, .int .u8 0, .int .u8 0])).run Tryd.prog w = .ok (eqB D (zeros 5) 5) w :=
  eq_chances 9998 D (zeros 5) hD (zeros_size 5) hu (zeros_u8 5) w

set_option maxHeartbeats 1000000 in
theorem impl_chancesFit (wd hi ld : Int) (T : Array Value) (hS : SeaIn wd hi ld T) (c : Int) (D : Array Value) (hD : D.size = 5) (hu : ∀ v ∈ D, IsU8 v) (w : World) :
    Calls Tryd.prog 91 #[.agg (sea wd hi ld T), .int .i64 c, .agg D] w fun e w' => e = .returned (.bool (fitB (wetB wd hi ld c) D)) ∧ Below w.heap.size w w' := by
  have q0 := keepAlloc (.cells D 34) (newBlock w (.cells (sea wd hi ld T) 38))
  have q1 := newAt (w.alloc (.cells (sea wd hi ld T) 38)) (.cells D 34) (n := w.heap.size + 1) (by simp)
  have qB := chainAlloc (chainAlloc (Below.refl w.heap.size w) (.cells (sea wd hi ld T) 38)) (.cells D 34)
  have hi0 : (Tryd.prog.info? 38).map (·.size) = some (sea wd hi ld T).size := by rw [sea_size, hS.size]; kernel_rfl
  have hi1 : (Tryd.prog.info? 34).map (·.size) = some D.size := by rw [hD]; kernel_rfl
  have hm : Tryd.prog.eqGuardType Tryd.prog.depth 34 = false := by kernel_rfl
  have hsz : (sea wd hi ld T).size = 363 := by rw [sea_size, hS.size]
  have hall := mkHid (show (sea wd hi ld T).extract 0 (0 + 363) = sea wd hi ld T by rw [Nat.zero_add, ← hsz, Array.extract_size])
  have hC := impl_hasCell wd hi ld T hS.size hS.wide hS.high c
  unfold wetB fitB
  by_cases h1 : isB wd hi c = true
  · have hW := impl_isWater wd hi ld T hS.size hS.land c (isB_range h1)
    rw [h1] at hC
    rw [h1]
    clear h1 hS
    cases h2 : dryB ld c
    · simp only [h2, Bool.not_false] at hW
      clear h2
      go_enter Tryd.func91, Tryd.ntmps91
      go_wp2_with (first | (refine at_load 38 rfl ?_; first | refine wpList_load_row rfl 38 _ rfl _ rfl _ _ _ _ q0 Tryd.underlying38 rfl hi0 ?_ | refine op_load_w (sea wd hi ld T) rfl 38 _ rfl _ _ rfl _ _ _ q0 _ Tryd.underlying38 rfl 363 (by kernel_rfl) (by rw [hsz]; omega) hall.out ?_) | (refine at_load 34 rfl ?_; refine wpList_load_row rfl 34 _ rfl _ rfl _ _ _ _ q1 Tryd.underlying34 rfl hi1 ?_) | (refine at_eql 34 rfl ?_; refine op_eql (eqB D (zeros 5) 5) rfl 34 _ _ _ rfl _ _ rfl rfl hm (eq_none D hD hu _) ?_) | (go_at_call 84; refine (hC _).mono ?_; rintro e w1 ⟨rfl, hb1⟩; replace q0 := keep hb1 q0; replace q1 := keep hb1 q1; replace qB := chain qB hb1; clear hb1) | (go_at_call 85; refine (hW _).mono ?_; rintro e w1 ⟨rfl, hb1⟩; replace q0 := keep hb1 q0; replace q1 := keep hb1 q1; replace qB := chain qB hb1; clear hb1) | (go_at_call 113; refine (impl_ValidChances' D hD hu _).mono ?_; rintro e w1 ⟨rfl, hb1⟩; replace qB := chain qB hb1; clear hb1))
      go_ret
      exact ⟨rfl, qB⟩
    · simp only [h2, Bool.not_true] at hW
      clear h2
      go_enter Tryd.func91, Tryd.ntmps91
      go_wp2_with (first | (refine at_load 38 rfl ?_; first | refine wpList_load_row rfl 38 _ rfl _ rfl _ _ _ _ q0 Tryd.underlying38 rfl hi0 ?_ | refine op_load_w (sea wd hi ld T) rfl 38 _ rfl _ _ rfl _ _ _ q0 _ Tryd.underlying38 rfl 363 (by kernel_rfl) (by rw [hsz]; omega) hall.out ?_) | (refine at_load 34 rfl ?_; refine wpList_load_row rfl 34 _ rfl _ rfl _ _ _ _ q1 Tryd.underlying34 rfl hi1 ?_) | (refine at_eql 34 rfl ?_; refine op_eql (eqB D (zeros 5) 5) rfl 34 _ _ _ rfl _ _ rfl rfl hm (eq_none D hD hu _) ?_) | (go_at_call 84; refine (hC _).mono ?_; rintro e w1 ⟨rfl, hb1⟩; replace q0 := keep hb1 q0; replace q1 := keep hb1 q1; replace qB := chain qB hb1; clear hb1) | (go_at_call 85; refine (hW _).mono ?_; rintro e w1 ⟨rfl, hb1⟩; replace q0 := keep hb1 q0; replace q1 := keep hb1 q1; replace qB := chain qB hb1; clear hb1))
      go_ret
      exact ⟨rfl, qB⟩
  · have h1' : isB wd hi c = false := by simpa using h1
    rw [h1'] at hC
    rw [h1']
    clear h1 h1' hS
    go_enter Tryd.func91, Tryd.ntmps91
    go_wp2_with (first | (refine at_load 38 rfl ?_; refine wpList_load_row rfl 38 _ rfl _ rfl _ _ _ _ q0 Tryd.underlying38 rfl hi0 ?_) | (refine at_load 34 rfl ?_; refine wpList_load_row rfl 34 _ rfl _ rfl _ _ _ _ q1 Tryd.underlying34 rfl hi1 ?_) | (refine at_eql 34 rfl ?_; refine op_eql (eqB D (zeros 5) 5) rfl 34 _ _ _ rfl _ _ rfl rfl hm (eq_none D hD hu _) ?_) | (go_at_call 84; refine (hC _).mono ?_; rintro e w1 ⟨rfl, hb1⟩; replace q0 := keep hb1 q0; replace q1 := keep hb1 q1; replace qB := chain qB hb1; clear hb1))
    go_ret
    exact ⟨rfl, qB⟩
end Go.Proofs.YthpcidnfbceliaaDoor
