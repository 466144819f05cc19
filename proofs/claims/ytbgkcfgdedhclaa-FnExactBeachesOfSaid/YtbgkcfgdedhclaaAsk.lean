/- The cell and the way that are asked for. -/
import Derived.Test.YtbgkcfgdedhclaaSpecOk
import Derived.Test.YtbgkcfgdedhclaaImplD
namespace Go.Proofs.Ytbgkcfgdedhclaa
open Go.ChangeShapes Go.WideShapes Go.ChangeAt Go.RowKit
set_option linter.unusedVariables false

/-- The code of a sea and a cell. -/
def askV (ok is : Bool) : Int := bif ok then (bif is then 0 else 2) else 1

set_option maxHeartbeats 1000000 in
theorem spec_l01Asked (g : Nat) (t : TypeId) (fr : Nat × Nat) (wd hi ld : Int) (T : Array Value) (hS : SeaIn wd hi ld T) (c : Int) (w : World) (q0 : w.heap[g]? = some (.cells (sea wd hi ld T) t fr)) :
    Calls Try.prog 68 #[.pointer (some ⟨g, 0, none⟩), .int .i64 c] w fun e w' => e = .returned (.int .i64 (askV (okB wd hi ld T) (isB wd hi c))) ∧ Below w.heap.size w w' := by
  have hC := spec_l01Ok g t fr wd hi ld T hS w q0
  have hJ := fun (W : World) (q : W.heap[g]? = some (.cells (sea wd hi ld T) t fr)) => spec_l01Is g t fr wd hi ld T c W q hS.wide hS.high
  have qB := Below.refl w.heap.size w
  unfold askV
  cases h : okB wd hi ld T
  · simp only [h] at hC
    clear h hS hJ
    go_enter Try.func68, Try.ntmps68
    go_wp2_with ((go_at_call 42; refine (hC).mono ?_; rintro e w1 ⟨rfl, hb1⟩; replace q0 := keep hb1 q0; replace qB := chain qB hb1; clear hb1))
    go_ret
    exact ⟨rfl, qB⟩
  · simp only [h] at hC
    clear h hS
    cases h2 : isB wd hi c
    · simp only [h2] at hJ
      clear h2
      go_enter Try.func68, Try.ntmps68
      go_wp2_with (first | (go_at_call 42; refine (hC).mono ?_; rintro e w1 ⟨rfl, hb1⟩; replace q0 := keep hb1 q0; replace qB := chain qB hb1; clear hb1) | (go_at_call 59; refine (hJ _ q0).mono ?_; rintro e w1 ⟨rfl, rfl⟩))
      go_ret
      exact ⟨rfl, qB⟩
    · simp only [h2] at hJ
      clear h2
      go_enter Try.func68, Try.ntmps68
      go_wp2_with (first | (go_at_call 42; refine (hC).mono ?_; rintro e w1 ⟨rfl, hb1⟩; replace q0 := keep hb1 q0; replace qB := chain qB hb1; clear hb1) | (go_at_call 59; refine (hJ _ q0).mono ?_; rintro e w1 ⟨rfl, rfl⟩))
      go_ret
      exact ⟨rfl, qB⟩

set_option maxHeartbeats 400000 in
theorem spec_l01Way (y : Int) (w : World) : Calls Try.prog 64 #[.int .i64 y] w fun e w' => e = .returned (.bool (inB y 0 4)) ∧ w = w' := by
  cases h : inB y 0 4
  · go_enter Try.func64, Try.ntmps64
    go_wp2_with (go_at_call 48; refine (spec_l00In _ _ _ _).mono ?_; rintro e w1 ⟨rfl, rfl⟩)
    go_ret
    exact ⟨rfl, rfl⟩
  · go_enter Try.func64, Try.ntmps64
    go_wp2_with (go_at_call 48; refine (spec_l00In _ _ _ _).mono ?_; rintro e w1 ⟨rfl, rfl⟩)
    go_ret
    exact ⟨rfl, rfl⟩

set_option maxHeartbeats 400000 in
theorem impl_hasWay (y : Int) (w : World) : Calls Try.prog 66 #[.int .i64 y] w fun e w' => e = .returned (.bool (inB y 0 4)) ∧ w = w' := by
  by_cases h1 : 0 ≤ y
  · by_cases h2 : y ≤ 4
    · have hin : inB y 0 4 = true := by unfold inB; rw [decide_eq_true h1, decide_eq_true h2]; rfl
      rw [hin]
      go_enter Try.func66, Try.ntmps66
      go_wp2
      go_ret
      exact ⟨rfl, rfl⟩
    · have hin : inB y 0 4 = false := by unfold inB; rw [decide_eq_false h2]; simp
      rw [hin]
      go_enter Try.func66, Try.ntmps66
      go_wp2
      go_ret
      exact ⟨rfl, rfl⟩
  · have hin : inB y 0 4 = false := by unfold inB; rw [decide_eq_false h1]; rfl
    rw [hin]
    go_enter Try.func66, Try.ntmps66
    go_wp2
    go_ret
    exact ⟨rfl, rfl⟩

set_option maxHeartbeats 1000000 in
theorem impl_cellCode (wd hi ld : Int) (T : Array Value) (hS : SeaIn wd hi ld T) (c : Int) (w : World) :
    Calls Try.prog 69 #[.agg (sea wd hi ld T), .int .i64 c] w fun e w' => e = .returned (.int .i64 (askV (okB wd hi ld T) (isB wd hi c))) ∧ Below w.heap.size w w' := by
  have q0 := newBlock w (.cells (sea wd hi ld T) 35)
  have qB := chainAlloc (Below.refl w.heap.size w) (.cells (sea wd hi ld T) 35)
  have hi0 : (Try.prog.info? 35).map (·.size) = some (sea wd hi ld T).size := by rw [sea_size, hS.size]; kernel_rfl
  have hsz : (sea wd hi ld T).size = 363 := by rw [sea_size, hS.size]
  have hall := mkHid (show (sea wd hi ld T).extract 0 (0 + 363) = sea wd hi ld T by rw [Nat.zero_add, ← hsz, Array.extract_size])
  have hC := impl_seaCode wd hi ld T hS
  have hJ := impl_hasCell wd hi ld T hS.size hS.wide hS.high c
  unfold askV
  cases h : okB wd hi ld T
  · simp only [h, cond_false] at hC
    clear h hS hJ
    go_enter Try.func69, Try.ntmps69
    go_wp2_with (first | (refine at_load 35 rfl ?_; first | refine wpList_load_row rfl 35 _ rfl _ rfl _ _ _ _ q0 Try.underlying35 rfl hi0 ?_ | refine op_load_w (sea wd hi ld T) rfl 35 _ rfl _ _ rfl _ _ _ q0 _ Try.underlying35 rfl 363 (by kernel_rfl) (by rw [hsz]; omega) hall.out ?_) | (go_at_call 45; refine (hC _).mono ?_; rintro e w1 ⟨rfl, hb1⟩; replace q0 := keep hb1 q0; replace qB := chain qB hb1; clear hb1))
    go_ret
    exact ⟨rfl, qB⟩
  · simp only [h, cond_true] at hC
    clear h hS
    cases h2 : isB wd hi c
    · simp only [h2] at hJ
      clear h2
      go_enter Try.func69, Try.ntmps69
      go_wp2_with (first | (refine at_load 35 rfl ?_; first | refine wpList_load_row rfl 35 _ rfl _ rfl _ _ _ _ q0 Try.underlying35 rfl hi0 ?_ | refine op_load_w (sea wd hi ld T) rfl 35 _ rfl _ _ rfl _ _ _ q0 _ Try.underlying35 rfl 363 (by kernel_rfl) (by rw [hsz]; omega) hall.out ?_) | (go_at_call 45; refine (hC _).mono ?_; rintro e w1 ⟨rfl, hb1⟩; replace q0 := keep hb1 q0; replace qB := chain qB hb1; clear hb1) | (go_at_call 84; refine (hJ _).mono ?_; rintro e w1 ⟨rfl, hb1⟩; replace q0 := keep hb1 q0; replace qB := chain qB hb1; clear hb1))
      go_ret
      exact ⟨rfl, qB⟩
    · simp only [h2] at hJ
      clear h2
      go_enter Try.func69, Try.ntmps69
      go_wp2_with (first | (refine at_load 35 rfl ?_; first | refine wpList_load_row rfl 35 _ rfl _ rfl _ _ _ _ q0 Try.underlying35 rfl hi0 ?_ | refine op_load_w (sea wd hi ld T) rfl 35 _ rfl _ _ rfl _ _ _ q0 _ Try.underlying35 rfl 363 (by kernel_rfl) (by rw [hsz]; omega) hall.out ?_) | (go_at_call 45; refine (hC _).mono ?_; rintro e w1 ⟨rfl, hb1⟩; replace q0 := keep hb1 q0; replace qB := chain qB hb1; clear hb1) | (go_at_call 84; refine (hJ _).mono ?_; rintro e w1 ⟨rfl, hb1⟩; replace q0 := keep hb1 q0; replace qB := chain qB hb1; clear hb1))
      go_ret
      exact ⟨rfl, qB⟩
end Go.Proofs.Ytbgkcfgdedhclaa
