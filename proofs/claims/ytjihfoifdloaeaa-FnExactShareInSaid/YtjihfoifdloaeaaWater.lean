/- The bits of all water, bit by bit. -/
import Derived.Test.YtjihfoifdloaeaaBits
namespace Go.Proofs.Ytjihfoifdloaeaa
open Go.ChangeShapes Go.WideShapes Go.ChangeAt Go.RowKit
set_option linter.unusedVariables false

theorem dryB_nat (n k : Nat) : dryB (n : Int) (k : Int) = n.testBit k := by
  unfold dryB
  have hd : ((n : Int) / 2 ^ (k : Int).toNat).tmod 2 = ((n / 2 ^ k % 2 : Nat) : Int) := by
    rw [Int.toNat_natCast]
    have : ((n : Int) / 2 ^ k) = ((n / 2 ^ k : Nat) : Int) := by simp
    rw [this]
    rw [Int.tmod_eq_emod_of_nonneg (Int.natCast_nonneg _)]
    exact (Int.natCast_emod _ 2).symm
  rw [hd, Nat.testBit_eq_decide_div_mod_eq]
  have hm : n / 2 ^ k % 2 = 0 ∨ n / 2 ^ k % 2 = 1 := by omega
  rcases hm with h | h
  · rw [h]; rfl
  · rw [h]; rfl

theorem wrap_pow {k : Nat} (hk : k ≤ 35) : IntKind.u64.wrap (2 ^ k) = ((2 ^ k : Nat) : Int) ∧ 2 ^ k < 18446744073709551616 := by
  have hp : (2 : Nat) ^ k < 18446744073709551616 := Nat.lt_of_le_of_lt (Nat.pow_le_pow_right (by omega) hk) (by decide)
  refine ⟨?_, hp⟩
  rw [IntKind.wrap_u64]
  have : ((2 : Int) ^ k) = ((2 ^ k : Nat) : Int) := by simp
  rw [this]
  generalize (2 : Nat) ^ k = m at hp ⊢
  omega

theorem cellsUp_nat (wd hi : Int) : ∀ k, k ≤ 36 → ∃ n : Nat, cellsUp wd hi k = (n : Int) ∧ n < 18446744073709551616 ∧ ∀ c : Nat, n.testBit c = (decide (c < k) && isB wd hi c)
  | 0, _ => ⟨0, rfl, by decide, fun c => by simp⟩
  | k + 1, hk => by
    obtain ⟨n, e, hn, hb⟩ := cellsUp_nat wd hi k (by omega)
    obtain ⟨hw, hp⟩ := wrap_pow (k := k) (by omega)
    rw [cellsUp]
    by_cases hi' : isB wd hi k = true
    · rw [if_pos hi', e, hw, bits_or_u64_nat n (2 ^ k) hn hp]
      refine ⟨n ||| 2 ^ k, rfl, Nat.or_lt_two_pow (n := 64) hn hp, fun c => ?_⟩
      rw [Nat.testBit_or, hb, Nat.testBit_two_pow]
      by_cases e1 : k = c
      · subst e1; simp [hi']
      · by_cases e2 : c < k
        · simp [e1, e2, show c < k + 1 by omega]
        · simp [e1, e2, show ¬ c < k + 1 by omega]
    · rw [if_neg hi', e]
      refine ⟨n, rfl, hn, fun c => ?_⟩
      rw [hb]
      by_cases e1 : c = k
      · subst e1; simp [hi']
      · by_cases e2 : c < k
        · simp [e2, show c < k + 1 by omega]
        · simp [e2, show ¬ c < k + 1 by omega]

theorem water_nat {wd hi ld : Int} (hl : (Lit.int .u64 ld).wf = true) : ∃ n : Nat, bits .andNot .u64 (cellsUp wd hi 36) ld = (n : Int) ∧ n < 18446744073709551616 ∧ ∀ c : Nat, c ≤ 35 → n.testBit c = (isB wd hi c && !dryB ld c) := by
  obtain ⟨h0, h1⟩ := bounds_u64 hl
  obtain ⟨m, rfl⟩ : ∃ m : Nat, ld = (m : Int) := ⟨ld.toNat, by omega⟩
  obtain ⟨n, e, hn, hb⟩ := cellsUp_nat wd hi 36 (Nat.le_refl _)
  have hm : m < 18446744073709551616 := by omega
  rw [e, u64_andNot_nat n m hn hm]
  refine ⟨n &&& (18446744073709551615 - m), rfl, Nat.lt_of_le_of_lt Nat.and_le_left hn, fun c hc => ?_⟩
  rw [Nat.testBit_and, hb, dryB_nat, show 18446744073709551615 - m = 2 ^ 64 - (m + 1) by omega, Nat.testBit_two_pow_sub_succ hm]
  simp [show c < 36 by omega, show c < 64 by omega]
end Go.Proofs.Ytjihfoifdloaeaa
