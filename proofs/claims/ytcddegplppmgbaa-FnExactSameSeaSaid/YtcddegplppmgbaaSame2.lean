/- SameSea of the program. -/
import Derived.Test.YtcddegplppmgbaaSame
namespace Go.Proofs.Ytcddegplppmgbaa
open Go.ChangeShapes Go.WideShapes Go.ChangeAt Go.RowKit
set_option linter.unusedVariables false

def coastB (wd hi ld wd' hi' ld' : Int) : Bool := wd == wd' && (hi == hi' && ld == ld')

set_option maxHeartbeats 1000000 in
theorem impl_sameCoasts (wd hi ld : Int) (T : Array Value) (wd' hi' ld' : Int) (T' : Array Value) (w : World) :
    Calls Try.prog 27 #[.agg (sea wd hi ld T), .agg (sea wd' hi' ld' T')] w fun e w' => e = .returned (.bool (coastB wd hi ld wd' hi' ld')) ∧ Below w.heap.size w w' := by
  have s0 := sea_0 wd hi ld T
  have s1 := sea_1 wd hi ld T
  have s2 := sea_2 wd hi ld T
  have t0 := sea_0 wd' hi' ld' T'
  have t1 := sea_1 wd' hi' ld' T'
  have t2 := sea_2 wd' hi' ld' T'
  unfold coastB
  cases h0 : (wd == wd')
  · go_enter Try.func27, Try.ntmps27
    go_wp2
    go_ret
    exact ⟨rfl, chainAlloc (chainAlloc (Below.refl w.heap.size w) _) _⟩
  · cases h1 : (hi == hi')
    · go_enter Try.func27, Try.ntmps27
      go_wp2
      go_ret
      exact ⟨rfl, chainAlloc (chainAlloc (Below.refl w.heap.size w) _) _⟩
    · go_enter Try.func27, Try.ntmps27
      go_wp2
      go_ret
      exact ⟨rfl, chainAlloc (chainAlloc (Below.refl w.heap.size w) _) _⟩

set_option maxHeartbeats 1000000 in
theorem impl_SameSea (wd hi ld : Int) (T : Array Value) (wd' hi' ld' : Int) (T' : Array Value) (hT : T.size = 360) (hT' : T'.size = 360) (hu : ∀ v ∈ T, IsU8 v) (hu' : ∀ v ∈ T', IsU8 v) (w : World) :
    Calls Try.prog 16 #[.agg (sea wd hi ld T), .agg (sea wd' hi' ld' T')] w fun e w' => e = .returned (.bool (seaB wd hi ld T wd' hi' ld' T')) ∧ Below w.heap.size w w' := by
  have q0 := keepAlloc (.cells (sea wd' hi' ld' T') 39) (newBlock w (.cells (sea wd hi ld T) 39))
  have q1 := newAt (w.alloc (.cells (sea wd hi ld T) 39)) (.cells (sea wd' hi' ld' T') 39) (n := w.heap.size + 1) (by simp)
  have qB := chainAlloc (chainAlloc (Below.refl w.heap.size w) (.cells (sea wd hi ld T) 39)) (.cells (sea wd' hi' ld' T') 39)
  have hi0 : (Try.prog.info? 39).map (·.size) = some (sea wd hi ld T).size := by rw [sea_size, hT]; kernel_rfl
  have hi1 : (Try.prog.info? 39).map (·.size) = some (sea wd' hi' ld' T').size := by rw [sea_size, hT']; kernel_rfl
  have hsz : (sea wd hi ld T).size = 363 := by rw [sea_size, hT]
  have hsz' : (sea wd' hi' ld' T').size = 363 := by rw [sea_size, hT']
  have hm : Try.prog.eqGuardType Try.prog.depth 37 = false := by kernel_rfl
  have hT3 := mkHid (sea_tides wd hi ld T hT)
  have hT3' := mkHid (sea_tides wd' hi' ld' T' hT')
  have hC := impl_sameCoasts wd hi ld T wd' hi' ld' T'
  unfold seaB
  unfold coastB at hC
  cases h0 : (wd == wd' && (hi == hi' && ld == ld'))
  · simp only [h0] at hC
    go_enter Try.func16, Try.ntmps16
    go_wp2_with (first | (refine at_load 39 rfl ?_; first | refine wpList_load_row rfl 39 _ rfl _ rfl _ _ _ _ q0 Try.underlying39 rfl hi0 ?_ | refine wpList_load_row rfl 39 _ rfl _ rfl _ _ _ _ q1 Try.underlying39 rfl hi1 ?_) | (go_at_call 27; refine (hC _).mono ?_; rintro e w1 ⟨rfl, hb1⟩; replace q0 := keep hb1 q0; replace q1 := keep hb1 q1; replace qB := chain qB hb1; clear hb1))
    go_ret
    exact ⟨rfl, qB⟩
  · simp only [h0] at hC
    go_enter Try.func16, Try.ntmps16
    go_wp2_with (first | (refine at_load 39 rfl ?_; first | refine wpList_load_row rfl 39 _ rfl _ rfl _ _ _ _ q0 Try.underlying39 rfl hi0 ?_ | refine wpList_load_row rfl 39 _ rfl _ rfl _ _ _ _ q1 Try.underlying39 rfl hi1 ?_) | (refine at_load 37 rfl ?_; first | refine op_load_w T rfl 37 _ rfl _ _ rfl _ _ _ q0 _ Try.underlying37 rfl 360 (by kernel_rfl) (by rw [hsz]; omega) hT3.out ?_ | refine op_load_w T' rfl 37 _ rfl _ _ rfl _ _ _ q1 _ Try.underlying37 rfl 360 (by kernel_rfl) (by rw [hsz']; omega) hT3'.out ?_) | (refine at_eql 37 rfl ?_; refine op_eql (eqB T T' 360) rfl 37 _ _ _ rfl _ _ rfl rfl hm (eq_tides 9996 T T' hT hT' hu hu' _) ?_) | (go_at_call 27; refine (hC _).mono ?_; rintro e w1 ⟨rfl, hb1⟩; replace q0 := keep hb1 q0; replace q1 := keep hb1 q1; replace qB := chain qB hb1; clear hb1))
    go_ret
    exact ⟨rfl, qB⟩
end Go.Proofs.Ytcddegplppmgbaa
