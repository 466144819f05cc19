/- The model's bits of all cells. -/
import Derived.Test.YthpcidnfbceliaaDoorSpecA
namespace Go.Proofs.YthpcidnfbceliaaDoor
open Go.ChangeShapes Go.WideShapes Go.ChangeAt Go.RowKit
set_option linter.unusedVariables false

def cellsUp (wd hi : Int) : Nat → Int
  | 0 => 0
  | k + 1 => if isB wd hi k then bits .or .u64 (cellsUp wd hi k) (IntKind.u64.wrap (2 ^ k)) else cellsUp wd hi k

set_option maxHeartbeats 400000 in
theorem spec_l01Cells (g : Nat) (t : TypeId) (fr : Nat × Nat) (wd hi ld : Int) (T : Array Value) (w : World) (q0 : w.heap[g]? = some (.cells (sea wd hi ld T) t fr)) (hw1 : -128 ≤ wd ∧ wd ≤ 127) (hh1 : -128 ≤ hi ∧ hi ≤ 127) :
    Calls Tryd.prog 59 #[.pointer (some ⟨g, 0, none⟩)] w fun e w' => e = .returned (.int .u64 (cellsUp wd hi 36)) ∧ w = w' := by
  have hIs := fun c => spec_l01Is g t fr wd hi ld T c w q0 hw1 hh1
  clear q0
  go_enter Tryd.func59, Tryd.ntmps59
  go_wp2
  go_loop [3, 4] (fun o i => ∃ k : Nat, k ≤ 36 ∧ i = .int .i64 k ∧ o = .int .u64 (cellsUp wd hi k)) (fun _ i => 36 - (intOf i).toNat)
  case atStart => exact ⟨0, Nat.zero_le _, rfl, rfl⟩
  case round =>
    obtain ⟨k, hk, rfl, rfl⟩ := hrel
    by_cases hlt : k < 36
    · have h := hIs k
      clear hIs
      by_cases hb : isB wd hi k = true
      · rw [hb] at h
        have HS := mkHid (show cellsUp wd hi (k + 1) = bits .or .u64 (cellsUp wd hi k) (IntKind.u64.wrap (2 ^ k)) by rw [cellsUp, if_pos hb])
        clear hb
        go_wp2_with (go_at_call 60; refine h.mono ?_; rintro e w1 ⟨rfl, rfl⟩)
        go_round
        case rel => exact ⟨k + 1, by omega, by go_num, by rw [HS.out]⟩
        case measure => simp [intOf]; omega
      · have hb' : isB wd hi k = false := by simpa using hb
        have HS := mkHid (show cellsUp wd hi (k + 1) = cellsUp wd hi k by rw [cellsUp, if_neg hb])
        rw [hb'] at h
        clear hb hb'
        go_wp2_with (go_at_call 60; refine h.mono ?_; rintro e w1 ⟨rfl, rfl⟩)
        go_round
        case rel => exact ⟨k + 1, by omega, by go_num, by rw [HS.out]⟩
        case measure => simp [intOf]; omega
    · obtain rfl : k = 36 := by omega
      clear hIs
      go_wp2
      go_ret
      exact ⟨rfl, rfl⟩
end Go.Proofs.YthpcidnfbceliaaDoor
