/- The model's cells beside the other kind are the program's. -/
import Derived.Test.YtbgkcfgdedhclaaWater
namespace Go.Proofs.Ytbgkcfgdedhclaa
open Go.ChangeShapes Go.WideShapes Go.ChangeAt Go.RowKit
set_option linter.unusedVariables false
set_option linter.unusedSimpArgs false

def anyV (wd hi so ot : Int) : Nat → Int
  | 0 => 0
  | k + 1 => bif isB wd hi k && (dryB so k && besideO wd hi ot k) then bits .or .u64 (anyV wd hi so ot k) (IntKind.u64.wrap (2 ^ k)) else anyV wd hi so ot k

theorem besUp_any {wd hi ld : Int} {dry : Bool} {c o : Nat} (ho : o < 18446744073709551616) (hc : c ≤ 35) :
    besUp wd hi ld dry c (o : Int) 4 = bif (List.range 4).any (fun j => hitB wd hi ld dry c (j + 1)) then bits .or .u64 (o : Int) (IntKind.u64.wrap (2 ^ c)) else (o : Int) := by
  obtain ⟨hw, hp⟩ := wrap_pow hc
  have hor := bits_or_u64_nat o (2 ^ c) ho hp
  have hlt : o ||| 2 ^ c < 18446744073709551616 := Nat.or_lt_two_pow (n := 64) ho hp
  have hid : bits .or .u64 ((o ||| 2 ^ c : Nat) : Int) ((2 ^ c : Nat) : Int) = ((o ||| 2 ^ c : Nat) : Int) := by
    rw [bits_or_u64_nat _ _ hlt hp, Nat.or_assoc, Nat.or_self]
  rw [show (List.range 4).any (fun j => hitB wd hi ld dry c (j + 1)) = (hitB wd hi ld dry c 1 || (hitB wd hi ld dry c 2 || (hitB wd hi ld dry c 3 || (hitB wd hi ld dry c 4 || false)))) from rfl]
  have e4 : besUp wd hi ld dry c (o : Int) 4 = (bif hitB wd hi ld dry c 4 then bits .or .u64 (besUp wd hi ld dry c (o : Int) 3) (IntKind.u64.wrap (2 ^ c)) else besUp wd hi ld dry c (o : Int) 3) := rfl
  have e3 : besUp wd hi ld dry c (o : Int) 3 = (bif hitB wd hi ld dry c 3 then bits .or .u64 (besUp wd hi ld dry c (o : Int) 2) (IntKind.u64.wrap (2 ^ c)) else besUp wd hi ld dry c (o : Int) 2) := rfl
  have e2 : besUp wd hi ld dry c (o : Int) 2 = (bif hitB wd hi ld dry c 2 then bits .or .u64 (besUp wd hi ld dry c (o : Int) 1) (IntKind.u64.wrap (2 ^ c)) else besUp wd hi ld dry c (o : Int) 1) := rfl
  have e1 : besUp wd hi ld dry c (o : Int) 1 = (bif hitB wd hi ld dry c 1 then bits .or .u64 (besUp wd hi ld dry c (o : Int) 0) (IntKind.u64.wrap (2 ^ c)) else besUp wd hi ld dry c (o : Int) 0) := rfl
  have e0 : besUp wd hi ld dry c (o : Int) 0 = (o : Int) := rfl
  rw [e4, e3, e2, e1, e0]
  clear e4 e3 e2 e1 e0
  rw [hw]
  generalize hitB wd hi ld dry c 1 = b1
  generalize hitB wd hi ld dry c 2 = b2
  generalize hitB wd hi ld dry c 3 = b3
  generalize hitB wd hi ld dry c 4 = b4
  cases b1 <;> cases b2 <;> cases b3 <;> cases b4 <;> simp only [cond_true, cond_false, Bool.or_true, Bool.or_false, Bool.true_or, Bool.false_or, hor, hid]

/-- Where a way leads is a cell, or beyond the grid. -/
theorem goesV_is {wd hi c y : Int} (hB : 1 ≤ wd ∧ wd ≤ 6 ∧ 1 ≤ hi ∧ hi ≤ 6) (h : 0 ≤ goesV wd hi c y) : isB wd hi (goesV wd hi c y) = true := by
  unfold goesV at h ⊢
  cases e : plB wd hi (mvx y c) (mvy y c)
  · rw [e] at h
    simp only [cond_false] at h
    omega
  · have := of_decide_eq_true e
    simp only [cond_true]
    exact decide_eq_true (by omega)

/-- The model's fold is the program's, if its hits are. -/
theorem besV_any {wd hi ld so ot : Int} {dry : Bool} (h1 : ∀ k : Nat, k ≤ 35 → isB wd hi k = true → (dryB ld k == dry) = dryB so k) (h2 : ∀ (c : Int) (y : Nat), hitB wd hi ld dry c y = hitO wd hi ot c y) :
    ∀ k, k ≤ 36 → besV wd hi ld dry k = anyV wd hi so ot k ∧ ∃ n : Nat, besV wd hi ld dry k = (n : Int) ∧ n < 18446744073709551616
  | 0, _ => ⟨rfl, 0, rfl, by decide⟩
  | k + 1, hk => by
    obtain ⟨e, n, en, hn⟩ := besV_any h1 h2 k (by omega)
    obtain ⟨hw, hp⟩ := wrap_pow (k := k) (by omega)
    have hU := besUp_any (wd := wd) (hi := hi) (ld := ld) (dry := dry) (c := k) hn (by omega)
    have hA : (List.range 4).any (fun j => hitB wd hi ld dry k (j + 1)) = besideO wd hi ot k := by
      unfold besideO
      congr 1
      funext j
      exact h2 k (j + 1)
    rw [hA] at hU
    have hor := bits_or_u64_nat n (2 ^ k) hn hp
    rw [besV, anyV, ← e, en, hU, hw]
    cases hi' : isB wd hi k
    · exact ⟨rfl, n, rfl, hn⟩
    · rw [h1 k (by omega) hi']
      cases dryB so k
      · exact ⟨rfl, n, rfl, hn⟩
      · cases besideO wd hi ot k
        · exact ⟨rfl, n, rfl, hn⟩
        · exact ⟨rfl, _, hor, Nat.or_lt_two_pow (n := 64) hn hp⟩

theorem beaches_eq {wd hi ld : Int} (hB : 1 ≤ wd ∧ wd ≤ 6 ∧ 1 ≤ hi ∧ hi ≤ 6) (hl : (Lit.int .u64 ld).wf = true) : besV wd hi ld true 36 = anyV wd hi ld (bits .andNot .u64 (cellsUp wd hi 36) ld) 36 := by
  obtain ⟨n, e, hn, hb⟩ := water_nat (wd := wd) (hi := hi) hl
  rw [e]
  refine (besV_any (fun k _ _ => by cases dryB ld k <;> rfl) (fun c y => ?_) 36 (Nat.le_refl _)).1
  unfold hitB hitO
  by_cases h : 0 ≤ goesV wd hi c y
  · have hi' := goesV_is hB h
    have hle := goesV_le hB h
    obtain ⟨v, ev⟩ : ∃ v : Nat, goesV wd hi c y = (v : Int) := ⟨(goesV wd hi c y).toNat, by omega⟩
    rw [ev] at hi' hle ⊢
    rw [dryB_nat n v, hb v (by omega), hi']
    cases dryB ld v <;> simp
  · rw [decide_eq_false h]; rfl

theorem coast_eq {wd hi ld : Int} (hl : (Lit.int .u64 ld).wf = true) : besV wd hi ld false 36 = anyV wd hi (bits .andNot .u64 (cellsUp wd hi 36) ld) ld 36 := by
  obtain ⟨n, e, hn, hb⟩ := water_nat (wd := wd) (hi := hi) hl
  rw [e]
  refine (besV_any (fun k hk hi' => ?_) (fun c y => ?_) 36 (Nat.le_refl _)).1
  · rw [dryB_nat n k, hb k hk, hi']
    cases dryB ld k <;> rfl
  · unfold hitB hitO
    cases dryB ld (goesV wd hi c y) <;> rfl
end Go.Proofs.Ytbgkcfgdedhclaa
