/- CodeName answers as its model: at every number. No conditions. -/
import Derived.Test.YtcddegplppmgbaaRows
import Derived.Test.YtcddegplppmgbaaBase
namespace Go.Proofs.Ytcddegplppmgbaa
open Go.ChangeShapes Go.WideShapes Go.ChangeAt Go.RowKit
set_option linter.unusedVariables false

/-- The name of a code. -/
def cname (c : Int) : ByteArray :=
  if c = 0 then ⟨#[111, 107]⟩ else if c = 1 then ⟨#[105, 110, 118, 97, 108, 105, 100]⟩ else if c = 2 then ⟨#[114, 97, 110, 103, 101]⟩
  else if c = 3 then ⟨#[108, 105, 109, 105, 116]⟩ else if c = 4 then ⟨#[115, 116, 97, 116, 101]⟩ else if c = 5 then ⟨#[115, 121, 110, 116, 97, 120]⟩
  else if c = 6 then ⟨#[110, 111, 116, 102, 111, 117, 110, 100]⟩ else if c = 7 then ⟨#[98, 117, 100, 103, 101, 116]⟩ else if c = 8 then ⟨#[112, 114, 111, 111, 102]⟩
  else ⟨#[]⟩

set_option maxHeartbeats 1000000 in
theorem spec_CodeName (c : Int) (w : World) : Calls Try.prog 9 #[.int .i64 c] w fun e w' => e = .returned (.string (cname c)) ∧ Below w.heap.size w w' := by
  by_cases h0 : 0 ≤ c ∧ c ≤ 8
  · obtain rfl | rfl | rfl | rfl | rfl | rfl | rfl | rfl | rfl : c = 0 ∨ c = 1 ∨ c = 2 ∨ c = 3 ∨ c = 4 ∨ c = 5 ∨ c = 6 ∨ c = 7 ∨ c = 8 := by omega
    all_goals
      go_enter Try.func9, Try.ntmps9
      go_wp2
      go_ret
      exact ⟨rfl, (Below.refl _ _).alloc (Nat.le_refl _) _⟩
  · have hn : cname c = ⟨#[]⟩ := by unfold cname; repeat (rw [if_neg (by omega)])
    rw [hn]
    by_cases h1 : c < 0
    · have h2 : ¬ 0 ≤ c := by omega
      go_enter Try.func9, Try.ntmps9
      go_wp2
      go_ret
      exact ⟨rfl, (Below.refl _ _).alloc (Nat.le_refl _) _⟩
    · have h2 : 0 ≤ c := by omega
      have h3 : ¬ c ≤ 8 := by omega
      go_enter Try.func9, Try.ntmps9
      go_wp2
      go_ret
      exact ⟨rfl, (Below.refl _ _).alloc (Nat.le_refl _) _⟩

set_option maxHeartbeats 1000000 in
theorem impl_CodeName (c : Int) (w : World) : Calls Try.prog 10 #[.int .i64 c] w fun e w' => e = .returned (.string (cname c)) ∧ Below w.heap.size w w' := by
  by_cases h0 : 0 ≤ c ∧ c ≤ 8
  · obtain rfl | rfl | rfl | rfl | rfl | rfl | rfl | rfl | rfl : c = 0 ∨ c = 1 ∨ c = 2 ∨ c = 3 ∨ c = 4 ∨ c = 5 ∨ c = 6 ∨ c = 7 ∨ c = 8 := by omega
    all_goals
      go_enter Try.func10, Try.ntmps10
      go_wp2
      go_ret
      exact ⟨rfl, (Below.refl _ _).alloc (Nat.le_refl _) _⟩
  · have hn : cname c = ⟨#[]⟩ := by unfold cname; repeat (rw [if_neg (by omega)])
    rw [hn]
    by_cases h1 : c < 0
    · have h2 : ¬ 0 ≤ c := by omega
      go_enter Try.func10, Try.ntmps10
      go_wp2
      go_ret
      exact ⟨rfl, (Below.refl _ _).alloc (Nat.le_refl _) _⟩
    · have h2 : 0 ≤ c := by omega
      have h3 : ¬ c < 9 := by omega
      go_enter Try.func10, Try.ntmps10
      go_wp2
      go_ret
      exact ⟨rfl, (Below.refl _ _).alloc (Nat.le_refl _) _⟩

end Go.Proofs.Ytcddegplppmgbaa
