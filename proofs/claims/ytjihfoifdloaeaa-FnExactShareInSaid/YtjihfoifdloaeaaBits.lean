/- The bits of all cells and of all water, in the program. -/
import Derived.Test.YtjihfoifdloaeaaSpecOk
import Derived.Test.YtjihfoifdloaeaaImplD
namespace Go.Proofs.Ytjihfoifdloaeaa
open Go.ChangeShapes Go.WideShapes Go.ChangeAt Go.RowKit
set_option linter.unusedVariables false

/-- What a function on the bits of cells answers. -/
def bitsV (ok : Bool) (b : Int) : Value := bif ok then .tuple #[.int .u64 b, .int .i64 0] else .tuple #[.int .u64 0, .int .i64 1]

theorem impl_cellBits' (wd hi ld : Int) (T : Array Value) (hS : SeaIn wd hi ld T) (hb : 1 ≤ wd ∧ wd ≤ 6 ∧ 1 ≤ hi ∧ hi ≤ 6) (w : World) :
    Calls Try.prog 82 #[.agg (sea wd hi ld T)] w fun e w' => e = .returned (.int .u64 (cellsUp wd hi 36)) ∧ Below w.heap.size w w' := by
  obtain ⟨a, rfl⟩ : ∃ a : Nat, wd = (a : Int) := ⟨wd.toNat, by omega⟩
  obtain ⟨b, rfl⟩ : ∃ b : Nat, hi = (b : Int) := ⟨hi.toNat, by omega⟩
  exact impl_cellBits a b ld T hS.size (by omega) (by omega) w

set_option maxHeartbeats 1000000 in
theorem impl_waterBits (wd hi ld : Int) (T : Array Value) (hS : SeaIn wd hi ld T) (hBd : 1 ≤ wd ∧ wd ≤ 6 ∧ 1 ≤ hi ∧ hi ≤ 6) (w : World) :
    Calls Try.prog 69 #[.agg (sea wd hi ld T)] w fun e w' => e = .returned (.int .u64 (bits .andNot .u64 (cellsUp wd hi 36) ld)) ∧ Below w.heap.size w w' := by
  have q0 := newBlock w (.cells (sea wd hi ld T) 40)
  have qB := chainAlloc (Below.refl w.heap.size w) (.cells (sea wd hi ld T) 40)
  have hi0 : (Try.prog.info? 40).map (·.size) = some (sea wd hi ld T).size := by rw [sea_size, hS.size]; kernel_rfl
  have hB := impl_cellBits' wd hi ld T hS hBd
  clear hS hBd
  go_enter Try.func69, Try.ntmps69
  go_wp2_with fail
  refine wp_region_held_drew (S := (fun W => W.heap[w.heap.size]? = some (.cells (sea wd hi ld T) 40 (0, 0)) ∧ W.cell? ⟨w.heap.size, 2, none⟩ = some (.int .u64 ld) ∧ Below w.heap.size w W)) (by kernel_rfl) ⟨q0, cellAt (W := (w.alloc _).drew) q0 (sea_2 _ _ _ _), qB.drew⟩ (fun hS1 => ?_)
  clear q0 qB
  refine take_first (i := 0) (some 3) rfl rfl (by kernel_rfl) (by kernel_rfl) (by kernel_rfl) (fun _ _ _ h => h) (yields_row (by rfl) 40 _ rfl _ rfl _ _ _ (fun W h => h.1) _ Try.underlying40 rfl hi0) hS1 ?_
  simp only [Act.put, List.setIfInBounds_toArray]; try simp only [List.set_cons_succ, List.set_cons_zero]
  refine take_first (i := 2) (v := ?_) (some 5) rfl rfl (by kernel_rfl) (by kernel_rfl) (by kernel_rfl) (fun _ _ _ h => h) (Or.inl ⟨by rfl, ?_⟩) hS1 ?_
  rotate_left
  · intro W hW
    (try dsimp only at hW)
    first | (go_simp; done) | (go_simp; with_reducible rfl)
  simp only [Act.put, List.setIfInBounds_toArray]; try simp only [List.set_cons_succ, List.set_cons_zero]
  refine take_first (i := 3) (v := ?_) (some 6) rfl rfl (by kernel_rfl) (by kernel_rfl) (by kernel_rfl) (fun _ _ _ h => h) (Or.inl ⟨by rfl, ?_⟩) hS1 ?_
  rotate_left
  · intro W hW
    (try dsimp only at hW)
    first | (go_simp; done) | (go_simp; with_reducible rfl)
  simp only [Act.put, List.setIfInBounds_toArray]; try simp only [List.set_cons_succ, List.set_cons_zero]
  refine wpAnyH_ready (rs := [1]) (by kernel_rfl) (by simp) (AllReadyH.cons rfl (fun K hK => ?_) AllReadyH.nil)
  go_simp
  refine (hB _).mono ?_
  rintro e v2 ⟨rfl, hb⟩
  refine hK.out _ _ ⟨keep hb hS1.1, cellAt (keep hb hS1.1) (sea_2 _ _ _ _), chain hS1.2.2 hb⟩ (fun hS2 => ?_)
  clear hK K hS1 hb
  refine take_first (i := 4) (v := ?_) (some 7) rfl rfl (by kernel_rfl) (by kernel_rfl) (by kernel_rfl) (fun _ _ _ h => h) (Or.inl ⟨by rfl, ?_⟩) hS2 ?_
  rotate_left
  · intro W hW
    (try dsimp only at hW)
    first | (go_simp; done) | (go_simp; with_reducible rfl)
  simp only [Act.put, List.setIfInBounds_toArray]; try simp only [List.set_cons_succ, List.set_cons_zero]
  refine take_first (i := 5) (v := ?_) (some 2) rfl rfl (by kernel_rfl) (by kernel_rfl) (by kernel_rfl) (fun _ _ _ h => h) (Or.inl ⟨by rfl, ?_⟩) hS2 ?_
  rotate_left
  · intro W hW
    (try dsimp only at hW)
    first | (go_simp; done) | (go_simp; with_reducible rfl)
  simp only [Act.put, List.setIfInBounds_toArray]; try simp only [List.set_cons_succ, List.set_cons_zero]
  refine wpAnyH_done (by kernel_rfl) ?_ _
  go_wp2_with fail
  go_ret
  exact ⟨rfl, hS2.2.2⟩
end Go.Proofs.Ytjihfoifdloaeaa
