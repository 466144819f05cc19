/- Chances: the copy of the laws, and ValidChances of both sides. -/
import Derived.Test.YthpcidnfbceliaaDoorWorld
import Derived.Test.YthpcidnfbceliaaDoorProg
namespace Go.Proofs.YthpcidnfbceliaaDoor
open Go.ChangeShapes Go.WideShapes Go.ChangeAt Go.RowKit
set_option linter.unusedVariables false

/-- Five parts as a value's cells. -/
abbrev ch5 (x0 x1 x2 x3 x4 : Int) : Array Value := #[.int .u8 x0, .int .u8 x1, .int .u8 x2, .int .u8 x3, .int .u8 x4]

/-- What has been copied before the round k. -/
def tcOut (x0 x1 x2 x3 x4 : Int) (k : Nat) : Array Value :=
  if k = 0 then ch5 0 0 0 0 0 else if k = 1 then ch5 x0 0 0 0 0 else if k = 2 then ch5 x0 x1 0 0 0 else if k = 3 then ch5 x0 x1 x2 0 0
  else if k = 4 then ch5 x0 x1 x2 x3 0 else ch5 x0 x1 x2 x3 x4

set_option maxHeartbeats 1000000 in
theorem laws_toChances (x0 x1 x2 x3 x4 : Int) (w : World) :
    Calls Tryd.prog 83 #[.agg (ch5 x0 x1 x2 x3 x4)] w fun e w' => e = .returned (.agg (ch5 x0 x1 x2 x3 x4)) ∧ Below w.heap.size w w' := by
  go_enter Tryd.func83, Tryd.ntmps83
  go_wp2
  go_loopw [4] (fun i wr => ∃ k : Nat, k ≤ 5 ∧ i = .int .i64 k ∧ wr = ((w.alloc (.cells (ch5 x0 x1 x2 x3 x4) 24)).alloc (.cells (ch5 0 0 0 0 0) 34)).alloc (.cells (tcOut x0 x1 x2 x3 x4 k) 34)) (fun i _ => 5 - (intOf i).toNat)
  case atStart => exact ⟨0, Nat.zero_le _, rfl, rfl⟩
  case round =>
    obtain ⟨k, hk, rfl, rfl⟩ := hrel
    obtain rfl | rfl | rfl | rfl | rfl | rfl : k = 0 ∨ k = 1 ∨ k = 2 ∨ k = 3 ∨ k = 4 ∨ k = 5 := by omega
    · have ek : tcOut x0 x1 x2 x3 x4 0 = ch5 0 0 0 0 0 := rfl
      go_wp2
      go_roundw
      case rel => exact ⟨1, by omega, rfl, rfl⟩
      case measure => simp [intOf]
    · have ek : tcOut x0 x1 x2 x3 x4 1 = ch5 x0 0 0 0 0 := rfl
      go_wp2
      go_roundw
      case rel => exact ⟨2, by omega, rfl, rfl⟩
      case measure => simp [intOf]
    · have ek : tcOut x0 x1 x2 x3 x4 2 = ch5 x0 x1 0 0 0 := rfl
      go_wp2
      go_roundw
      case rel => exact ⟨3, by omega, rfl, rfl⟩
      case measure => simp [intOf]
    · have ek : tcOut x0 x1 x2 x3 x4 3 = ch5 x0 x1 x2 0 0 := rfl
      go_wp2
      go_roundw
      case rel => exact ⟨4, by omega, rfl, rfl⟩
      case measure => simp [intOf]
    · have ek : tcOut x0 x1 x2 x3 x4 4 = ch5 x0 x1 x2 x3 0 := rfl
      go_wp2
      go_roundw
      case rel => exact ⟨5, by omega, rfl, rfl⟩
      case measure => simp [intOf]
    · have ek : tcOut x0 x1 x2 x3 x4 5 = ch5 x0 x1 x2 x3 x4 := rfl
      go_wp2
      exact bodyPost_ret (v := .agg (ch5 x0 x1 x2 x3 x4)) (by simp [results, Tryd.results83, go_sem]) rfl ⟨rfl, (((Below.refl _ _).alloc (Nat.le_refl _) _).alloc (by simp) _).alloc (by simp; omega) _⟩

set_option maxHeartbeats 1000000 in
theorem spec_l01Chances (x0 x1 x2 x3 x4 : Int) (h0 : 0 ≤ x0 ∧ x0 ≤ 255) (h1 : 0 ≤ x1 ∧ x1 ≤ 255) (h2 : 0 ≤ x2 ∧ x2 ≤ 255) (h3 : 0 ≤ x3 ∧ x3 ≤ 255) (h4 : 0 ≤ x4 ∧ x4 ≤ 255) (w : World) :
    Calls Tryd.prog 81 #[.agg (ch5 x0 x1 x2 x3 x4)] w fun e w' => e = .returned (.bool (decide (x0 + x1 + x2 + x3 + x4 = 12))) ∧ Below w.heap.size w w' := by
  obtain ⟨a0, b0⟩ := h0; obtain ⟨a1, b1⟩ := h1; obtain ⟨a2, b2⟩ := h2; obtain ⟨a3, b3⟩ := h3; obtain ⟨a4, b4⟩ := h4
  go_enter Tryd.func81, Tryd.ntmps81
  go_wp2
  go_loop [3, 4] (fun s i => ∃ k : Nat, k ≤ 5 ∧ i = .int .i64 k ∧ s = .int .i64 (([x0, x1, x2, x3, x4].take k).sum)) (fun _ i => 5 - (intOf i).toNat)
  case atStart => exact ⟨0, Nat.zero_le _, rfl, rfl⟩
  case round =>
    obtain ⟨k, hk, rfl, rfl⟩ := hrel
    obtain rfl | rfl | rfl | rfl | rfl | rfl : k = 0 ∨ k = 1 ∨ k = 2 ∨ k = 3 ∨ k = 4 ∨ k = 5 := by omega
    · have ek : ([x0, x1, x2, x3, x4].take 0).sum = 0 := by simp <;> omega
      go_wp2
      go_round
      case rel => exact ⟨1, by omega, rfl, by first | (simp; done) | (simp; omega)⟩
      case measure => simp [intOf]
    · have ek : ([x0, x1, x2, x3, x4].take 1).sum = x0 := by simp <;> omega
      go_wp2
      go_round
      case rel => exact ⟨2, by omega, rfl, by first | (simp; done) | (simp; omega)⟩
      case measure => simp [intOf]
    · have ek : ([x0, x1, x2, x3, x4].take 2).sum = x0 + x1 := by simp <;> omega
      go_wp2
      go_round
      case rel => exact ⟨3, by omega, rfl, by first | (simp; done) | (simp; omega)⟩
      case measure => simp [intOf]
    · have ek : ([x0, x1, x2, x3, x4].take 3).sum = x0 + x1 + x2 := by simp <;> omega
      go_wp2
      go_round
      case rel => exact ⟨4, by omega, rfl, by first | (simp; done) | (simp; omega)⟩
      case measure => simp [intOf]
    · have ek : ([x0, x1, x2, x3, x4].take 4).sum = x0 + x1 + x2 + x3 := by simp <;> omega
      go_wp2
      go_round
      case rel => exact ⟨5, by omega, rfl, by first | (simp; done) | (simp; omega)⟩
      case measure => simp [intOf]
    · have ek : ([x0, x1, x2, x3, x4].take 5).sum = x0 + x1 + x2 + x3 + x4 := by simp; omega
      go_wp2
      go_ret
      exact ⟨ret_bool (by rw [Bool.eq_iff_iff]; simp; omega), (Below.refl _ _).alloc (Nat.le_refl _) _⟩

set_option maxHeartbeats 1000000 in
theorem impl_ValidChances (x0 x1 x2 x3 x4 : Int) (h0 : 0 ≤ x0 ∧ x0 ≤ 255) (h1 : 0 ≤ x1 ∧ x1 ≤ 255) (h2 : 0 ≤ x2 ∧ x2 ≤ 255) (h3 : 0 ≤ x3 ∧ x3 ≤ 255) (h4 : 0 ≤ x4 ∧ x4 ≤ 255) (w : World) :
    Calls Tryd.prog 113 #[.agg (ch5 x0 x1 x2 x3 x4)] w fun e w' => e = .returned (.bool (decide (x0 + x1 + x2 + x3 + x4 = 12))) ∧ Below w.heap.size w w' := by
  obtain ⟨a0, b0⟩ := h0; obtain ⟨a1, b1⟩ := h1; obtain ⟨a2, b2⟩ := h2; obtain ⟨a3, b3⟩ := h3; obtain ⟨a4, b4⟩ := h4
  have i0 : ∀ w : World, (Instr.index 34 (.agg (ch5 x0 x1 x2 x3 x4)) (.int .i64 0)).run Tryd.prog w = .ok (.int .u8 x0) w := fun _ => by kernel_rfl
  have i1 : ∀ w : World, (Instr.index 34 (.agg (ch5 x0 x1 x2 x3 x4)) (.int .i64 1)).run Tryd.prog w = .ok (.int .u8 x1) w := fun _ => by kernel_rfl
  have i2 : ∀ w : World, (Instr.index 34 (.agg (ch5 x0 x1 x2 x3 x4)) (.int .i64 2)).run Tryd.prog w = .ok (.int .u8 x2) w := fun _ => by kernel_rfl
  have i3 : ∀ w : World, (Instr.index 34 (.agg (ch5 x0 x1 x2 x3 x4)) (.int .i64 3)).run Tryd.prog w = .ok (.int .u8 x3) w := fun _ => by kernel_rfl
  have i4 : ∀ w : World, (Instr.index 34 (.agg (ch5 x0 x1 x2 x3 x4)) (.int .i64 4)).run Tryd.prog w = .ok (.int .u8 x4) w := fun _ => by kernel_rfl
  go_enter Tryd.func113, Tryd.ntmps113
  go_wp2
  go_loop [3, 7] (fun s i => ∃ k : Nat, k ≤ 5 ∧ i = .int .i64 k ∧ s = .int .i64 (([x0, x1, x2, x3, x4].take k).sum)) (fun _ i => 5 - (intOf i).toNat)
  case atStart => exact ⟨0, Nat.zero_le _, rfl, rfl⟩
  case round =>
    obtain ⟨k, hk, rfl, rfl⟩ := hrel
    obtain rfl | rfl | rfl | rfl | rfl | rfl : k = 0 ∨ k = 1 ∨ k = 2 ∨ k = 3 ∨ k = 4 ∨ k = 5 := by omega
    · have ek : ([x0, x1, x2, x3, x4].take 0).sum = 0 := by simp <;> omega
      go_wp2
      go_round
      case rel => exact ⟨1, by omega, rfl, by first | (simp; done) | (simp; omega)⟩
      case measure => simp [intOf]
    · have ek : ([x0, x1, x2, x3, x4].take 1).sum = x0 := by simp <;> omega
      go_wp2
      go_round
      case rel => exact ⟨2, by omega, rfl, by first | (simp; done) | (simp; omega)⟩
      case measure => simp [intOf]
    · have ek : ([x0, x1, x2, x3, x4].take 2).sum = x0 + x1 := by simp <;> omega
      go_wp2
      go_round
      case rel => exact ⟨3, by omega, rfl, by first | (simp; done) | (simp; omega)⟩
      case measure => simp [intOf]
    · have ek : ([x0, x1, x2, x3, x4].take 3).sum = x0 + x1 + x2 := by simp <;> omega
      go_wp2
      go_round
      case rel => exact ⟨4, by omega, rfl, by first | (simp; done) | (simp; omega)⟩
      case measure => simp [intOf]
    · have ek : ([x0, x1, x2, x3, x4].take 4).sum = x0 + x1 + x2 + x3 := by simp <;> omega
      go_wp2
      go_round
      case rel => exact ⟨5, by omega, rfl, by first | (simp; done) | (simp; omega)⟩
      case measure => simp [intOf]
    · have ek : ([x0, x1, x2, x3, x4].take 5).sum = x0 + x1 + x2 + x3 + x4 := by simp; omega
      go_wp2
      go_ret
      exact ⟨ret_bool (by rw [Bool.eq_iff_iff]; simp; omega), (Below.refl _ _).alloc (Nat.le_refl _) _⟩
end Go.Proofs.YthpcidnfbceliaaDoor
