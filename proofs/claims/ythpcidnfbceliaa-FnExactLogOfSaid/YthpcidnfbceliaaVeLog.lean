/- Logarithms, both sides. -/
import Derived.Test.YthpcidnfbceliaaProg
import Derived.Test.YthpcidnfbceliaaVeD
namespace Go.Proofs.Ythpcidnfbceliaa
open Go.ChangeShapes Go.WideShapes Go.ChangeAt Go.RowKit Ve
set_option linter.unusedVariables false
set_option linter.unusedSimpArgs false
set_option maxRecDepth 100000
noncomputable section
noncomputable def len8 : ByteArray := ⟨#[0, 1, 2, 2, 3, 3, 3, 3, 4, 4, 4, 4, 4, 4, 4, 4, 5, 5, 5, 5, 5, 5, 5, 5, 5, 5, 5, 5, 5, 5, 5, 5, 6, 6, 6, 6, 6, 6, 6, 6, 6, 6, 6, 6, 6, 6, 6, 6, 6, 6, 6, 6, 6, 6, 6, 6, 6, 6, 6, 6, 6, 6, 6, 6, 7, 7, 7, 7, 7, 7, 7, 7, 7, 7, 7, 7, 7, 7, 7, 7, 7, 7, 7, 7, 7, 7, 7, 7, 7, 7, 7, 7, 7, 7, 7, 7, 7, 7, 7, 7, 7, 7, 7, 7, 7, 7, 7, 7, 7, 7, 7, 7, 7, 7, 7, 7, 7, 7, 7, 7, 7, 7, 7, 7, 7, 7, 7, 7, 8, 8, 8, 8, 8, 8, 8, 8, 8, 8, 8, 8, 8, 8, 8, 8, 8, 8, 8, 8, 8, 8, 8, 8, 8, 8, 8, 8, 8, 8, 8, 8, 8, 8, 8, 8, 8, 8, 8, 8, 8, 8, 8, 8, 8, 8, 8, 8, 8, 8, 8, 8, 8, 8, 8, 8, 8, 8, 8, 8, 8, 8, 8, 8, 8, 8, 8, 8, 8, 8, 8, 8, 8, 8, 8, 8, 8, 8, 8, 8, 8, 8, 8, 8, 8, 8, 8, 8, 8, 8, 8, 8, 8, 8, 8, 8, 8, 8, 8, 8, 8, 8, 8, 8, 8, 8, 8, 8, 8, 8, 8, 8, 8, 8, 8, 8, 8, 8, 8, 8, 8, 8, 8, 8, 8, 8, 8, 8]⟩

noncomputable def len64 (a : Int) : Int := bif decide (0 < a) then (Nat.log2 a.toNat : Int) + 1 else 0
theorem len8_all : (List.range 256).all (fun i => byteN len8 i == (if i = 0 then 0 else (Nat.log2 i : Int) + 1)) = true := by decide +kernel
theorem len8_at {m : Nat} (h : m < 256) : byteN len8 m = (if m = 0 then 0 else (Nat.log2 m : Int) + 1) := eq_of_beq (List.all_eq_true.1 len8_all m (List.mem_range.2 h))
theorem log2_shift {n s : Nat} (h : 1 ≤ n / 2 ^ s) : Nat.log2 n = Nat.log2 (n / 2 ^ s) + s := by
  have hp : 0 < 2 ^ s := Nat.pow_pos (by omega)
  have hn : n ≠ 0 := by rintro rfl; simp at h
  refine (Nat.log2_eq_iff hn).2 ?_
  obtain ⟨h1, h2⟩ := (Nat.log2_eq_iff (show n / 2 ^ s ≠ 0 by omega)).1 rfl
  generalize Nat.log2 (n / 2 ^ s) = j at h1 h2
  constructor
  · rw [Nat.pow_add]
    exact (Nat.le_div_iff_mul_le hp).1 h1
  · rw [show j + s + 1 = (j + 1) + s by omega, Nat.pow_add]
    exact (Nat.div_lt_iff_lt_mul hp).1 h2
theorem len64_nat (n : Nat) : len64 (n : Int) = if n = 0 then 0 else (Nat.log2 n : Int) + 1 := by
  unfold len64
  by_cases h : n = 0
  · subst h; rfl
  · rw [decide_eq_true (show (0 : Int) < n by omega), if_neg h, Int.toNat_natCast]; rfl
theorem fdiv_nat (n k : Nat) (b : Nat) (h : k ≤ b) : ((n : Int)).fdiv (2 ^ (min k b)) = ((n / 2 ^ k : Nat) : Int) := by
  rw [Nat.min_eq_left h, Int.fdiv_eq_ediv_of_nonneg _ (Int.le_of_lt (Int.pow_pos (by omega)))]
  simp
theorem len_leaf {n s : Nat} (C : Int) (hs : s ≤ 56) (hm : n / 2 ^ s < 256) (h1 : s = 0 ∨ 1 ≤ n / 2 ^ s) (hC : C = s) :
    (bif (decide (0 ≤ IntKind.u8.wrap ((n / 2 ^ s : Nat) : Int)) && decide (IntKind.u8.wrap ((n / 2 ^ s : Nat) : Int) < (len8.size : Int))) then (some (.a (.i .i64 (IntKind.i64.wrap (C + IntKind.i64.wrap (byteN len8 (IntKind.u8.wrap ((n / 2 ^ s : Nat) : Int)).toNat)))), .none, true)) else none : Option (SV × Eff × Bool)) = some (.a (.i .i64 (len64 (n : Int))), .none, true) := by
  have hw : IntKind.u8.wrap ((n / 2 ^ s : Nat) : Int) = ((n / 2 ^ s : Nat) : Int) := (fun (q : Nat) (hq : q < 256) => (by rw [IntKind.wrap_u8]; omega : IntKind.u8.wrap (q : Int) = (q : Int))) _ hm
  have hsz : (len8.size : Int) = 256 := by decide +kernel
  rw [hw, hsz, decide_eq_true (Int.natCast_nonneg _), decide_eq_true (show ((n / 2 ^ s : Nat) : Int) < 256 from Int.ofNat_lt.2 hm), Int.toNat_natCast, len8_at hm, len64_nat]
  have hl : Nat.log2 (n / 2 ^ s) ≤ 8 := by
    by_cases h0 : n / 2 ^ s = 0
    · rw [h0]; decide
    · exact Nat.le_of_lt ((Nat.log2_lt h0).2 (by omega))
  have key : C + (if n / 2 ^ s = 0 then 0 else (Nat.log2 (n / 2 ^ s) : Int) + 1) = if n = 0 then 0 else (Nat.log2 n : Int) + 1 := by
    rcases h1 with rfl | h1
    · rw [Nat.pow_zero, Nat.div_one] at *
      rw [hC]; simp
    · rw [if_neg (by omega), if_neg (by rintro rfl; simp at h1), log2_shift h1, hC]; omega
  have hw2 : IntKind.i64.wrap (if n / 2 ^ s = 0 then 0 else (Nat.log2 (n / 2 ^ s) : Int) + 1) = (if n / 2 ^ s = 0 then 0 else (Nat.log2 (n / 2 ^ s) : Int) + 1) := IntWalk.i64_in _ (by split <;> omega)
  rw [hw2, key]
  have : IntKind.i64.wrap (if n = 0 then 0 else (Nat.log2 n : Int) + 1) = (if n = 0 then 0 else (Nat.log2 n : Int) + 1) := IntWalk.i64_in _ (by rw [← key]; split <;> omega)
  rw [this]
  rfl

theorem math_bits_Len64_ans (N : Nat) (a0 : Int) : ansV Try.prog (mkΓ []) N Try.f58 [] [.i .u64 (a0)] [] = (bif decide (a0 ≥ (4294967296 : Int)) then (bif decide (((a0).fdiv (2 ^ (min ((32 : Int)).toNat IntKind.u64.bits))) ≥ (65536 : Int)) then (bif decide (((((a0).fdiv (2 ^ (min ((32 : Int)).toNat IntKind.u64.bits)))).fdiv (2 ^ (min ((16 : Int)).toNat IntKind.u64.bits))) ≥ (256 : Int)) then (bif (decide (0 ≤ (IntKind.u8.wrap ((((((a0).fdiv (2 ^ (min ((32 : Int)).toNat IntKind.u64.bits)))).fdiv (2 ^ (min ((16 : Int)).toNat IntKind.u64.bits)))).fdiv (2 ^ (min ((8 : Int)).toNat IntKind.u64.bits))))) && decide ((IntKind.u8.wrap ((((((a0).fdiv (2 ^ (min ((32 : Int)).toNat IntKind.u64.bits)))).fdiv (2 ^ (min ((16 : Int)).toNat IntKind.u64.bits)))).fdiv (2 ^ (min ((8 : Int)).toNat IntKind.u64.bits)))) < (len8.size : Int))) then (some (.a (.i .i64 (IntKind.i64.wrap ((IntKind.i64.wrap ((IntKind.i64.wrap ((32 : Int) + (16 : Int))) + (8 : Int))) + (IntKind.i64.wrap (byteN len8 ((IntKind.u8.wrap ((((((a0).fdiv (2 ^ (min ((32 : Int)).toNat IntKind.u64.bits)))).fdiv (2 ^ (min ((16 : Int)).toNat IntKind.u64.bits)))).fdiv (2 ^ (min ((8 : Int)).toNat IntKind.u64.bits))))).toNat))))), .none, true))
          else (none))
        else (bif (decide (0 ≤ (IntKind.u8.wrap ((((a0).fdiv (2 ^ (min ((32 : Int)).toNat IntKind.u64.bits)))).fdiv (2 ^ (min ((16 : Int)).toNat IntKind.u64.bits))))) && decide ((IntKind.u8.wrap ((((a0).fdiv (2 ^ (min ((32 : Int)).toNat IntKind.u64.bits)))).fdiv (2 ^ (min ((16 : Int)).toNat IntKind.u64.bits)))) < (len8.size : Int))) then (some (.a (.i .i64 (IntKind.i64.wrap ((IntKind.i64.wrap ((32 : Int) + (16 : Int))) + (IntKind.i64.wrap (byteN len8 ((IntKind.u8.wrap ((((a0).fdiv (2 ^ (min ((32 : Int)).toNat IntKind.u64.bits)))).fdiv (2 ^ (min ((16 : Int)).toNat IntKind.u64.bits))))).toNat))))), .none, true))
          else (none)))
      else (bif decide (((a0).fdiv (2 ^ (min ((32 : Int)).toNat IntKind.u64.bits))) ≥ (256 : Int)) then (bif (decide (0 ≤ (IntKind.u8.wrap ((((a0).fdiv (2 ^ (min ((32 : Int)).toNat IntKind.u64.bits)))).fdiv (2 ^ (min ((8 : Int)).toNat IntKind.u64.bits))))) && decide ((IntKind.u8.wrap ((((a0).fdiv (2 ^ (min ((32 : Int)).toNat IntKind.u64.bits)))).fdiv (2 ^ (min ((8 : Int)).toNat IntKind.u64.bits)))) < (len8.size : Int))) then (some (.a (.i .i64 (IntKind.i64.wrap ((IntKind.i64.wrap ((32 : Int) + (8 : Int))) + (IntKind.i64.wrap (byteN len8 ((IntKind.u8.wrap ((((a0).fdiv (2 ^ (min ((32 : Int)).toNat IntKind.u64.bits)))).fdiv (2 ^ (min ((8 : Int)).toNat IntKind.u64.bits))))).toNat))))), .none, true))
          else (none))
        else (bif (decide (0 ≤ (IntKind.u8.wrap ((a0).fdiv (2 ^ (min ((32 : Int)).toNat IntKind.u64.bits))))) && decide ((IntKind.u8.wrap ((a0).fdiv (2 ^ (min ((32 : Int)).toNat IntKind.u64.bits)))) < (len8.size : Int))) then (some (.a (.i .i64 (IntKind.i64.wrap ((32 : Int) + (IntKind.i64.wrap (byteN len8 ((IntKind.u8.wrap ((a0).fdiv (2 ^ (min ((32 : Int)).toNat IntKind.u64.bits))))).toNat))))), .none, true))
          else (none))))
    else (bif decide (a0 ≥ (65536 : Int)) then (bif decide (((a0).fdiv (2 ^ (min ((16 : Int)).toNat IntKind.u64.bits))) ≥ (256 : Int)) then (bif (decide (0 ≤ (IntKind.u8.wrap ((((a0).fdiv (2 ^ (min ((16 : Int)).toNat IntKind.u64.bits)))).fdiv (2 ^ (min ((8 : Int)).toNat IntKind.u64.bits))))) && decide ((IntKind.u8.wrap ((((a0).fdiv (2 ^ (min ((16 : Int)).toNat IntKind.u64.bits)))).fdiv (2 ^ (min ((8 : Int)).toNat IntKind.u64.bits)))) < (len8.size : Int))) then (some (.a (.i .i64 (IntKind.i64.wrap ((IntKind.i64.wrap ((IntKind.i64.wrap ((0 : Int) + (16 : Int))) + (8 : Int))) + (IntKind.i64.wrap (byteN len8 ((IntKind.u8.wrap ((((a0).fdiv (2 ^ (min ((16 : Int)).toNat IntKind.u64.bits)))).fdiv (2 ^ (min ((8 : Int)).toNat IntKind.u64.bits))))).toNat))))), .none, true))
          else (none))
        else (bif (decide (0 ≤ (IntKind.u8.wrap ((a0).fdiv (2 ^ (min ((16 : Int)).toNat IntKind.u64.bits))))) && decide ((IntKind.u8.wrap ((a0).fdiv (2 ^ (min ((16 : Int)).toNat IntKind.u64.bits)))) < (len8.size : Int))) then (some (.a (.i .i64 (IntKind.i64.wrap ((IntKind.i64.wrap ((0 : Int) + (16 : Int))) + (IntKind.i64.wrap (byteN len8 ((IntKind.u8.wrap ((a0).fdiv (2 ^ (min ((16 : Int)).toNat IntKind.u64.bits))))).toNat))))), .none, true))
          else (none)))
      else (bif decide (a0 ≥ (256 : Int)) then (bif (decide (0 ≤ (IntKind.u8.wrap ((a0).fdiv (2 ^ (min ((8 : Int)).toNat IntKind.u64.bits))))) && decide ((IntKind.u8.wrap ((a0).fdiv (2 ^ (min ((8 : Int)).toNat IntKind.u64.bits)))) < (len8.size : Int))) then (some (.a (.i .i64 (IntKind.i64.wrap ((IntKind.i64.wrap ((0 : Int) + (8 : Int))) + (IntKind.i64.wrap (byteN len8 ((IntKind.u8.wrap ((a0).fdiv (2 ^ (min ((8 : Int)).toNat IntKind.u64.bits))))).toNat))))), .none, true))
          else (none))
        else (bif (decide (0 ≤ (IntKind.u8.wrap a0)) && decide ((IntKind.u8.wrap a0) < (len8.size : Int))) then (some (.a (.i .i64 (IntKind.i64.wrap ((0 : Int) + (IntKind.i64.wrap (byteN len8 ((IntKind.u8.wrap a0)).toNat))))), .none, true))
          else (none))))) := by kernel_rfl

theorem math_bits_Len64_main (a0 : Int) (h_a0 : IntKind.u64.min ≤ a0 ∧ a0 ≤ IntKind.u64.max) (hg : (true) = true) : ansV Try.prog (mkΓ []) 1000 Try.f58 [] [.i .u64 (a0)] [] = some (.a (.i .i64 (len64 a0)), .none, true) := by
  obtain ⟨n, rfl⟩ := Int.eq_ofNat_of_zero_le (show 0 ≤ a0 from h_a0.1)
  have hn : n < 18446744073709551616 := by have := h_a0.2; have e : IntKind.u64.max = 18446744073709551615 := rfl; omega
  refine (math_bits_Len64_ans 1000 _).trans ?_
  have t32 : ((32 : Int)).toNat = 32 := rfl
  have t16 : ((16 : Int)).toNat = 16 := rfl
  have t8 : ((8 : Int)).toNat = 8 := rfl
  have hb : IntKind.u64.bits = 64 := rfl
  have dd : ∀ a b : Nat, n / 2 ^ a / 2 ^ b = n / 2 ^ (a + b) := fun a b => by rw [Nat.div_div_eq_div_mul, ← Nat.pow_add]
  simp only [t32, t16, t8, hb, fdiv_nat _ _ 64 (show 32 ≤ 64 by omega), fdiv_nat _ _ 64 (show 16 ≤ 64 by omega), fdiv_nat _ _ 64 (show 8 ≤ 64 by omega), dd]
  have w1 : IntKind.i64.wrap ((32 : Int) + 16) = 48 := by decide
  have w2 : IntKind.i64.wrap ((48 : Int) + 8) = 56 := by decide
  have w3 : IntKind.i64.wrap ((32 : Int) + 8) = 40 := by decide
  have w4 : IntKind.i64.wrap ((16 : Int) + 8) = 24 := by decide
  have w5 : IntKind.i64.wrap ((0 : Int) + 32) = 32 := by decide
  have w6 : IntKind.i64.wrap ((0 : Int) + 16) = 16 := by decide
  have w7 : IntKind.i64.wrap ((0 : Int) + 8) = 8 := by decide
  simp only [w1, w2, w3, w4, w5, w6, w7, show (32 + 16 : Nat) = 48 from rfl, show (48 + 8 : Nat) = 56 from rfl, show (32 + 8 : Nat) = 40 from rfl, show (16 + 8 : Nat) = 24 from rfl]
  by_cases a : n ≥ 4294967296
  · rw [decide_eq_true (show ((n : Nat) : Int) ≥ 4294967296 by omega), cond_true]
    by_cases b : n / 2 ^ 32 ≥ 65536
    · rw [decide_eq_true (show ((n / 2 ^ 32 : Nat) : Int) ≥ 65536 by omega), cond_true]
      by_cases c : n / 2 ^ 48 ≥ 256
      · rw [decide_eq_true (show ((n / 2 ^ 48 : Nat) : Int) ≥ 256 by omega), cond_true]
        exact len_leaf (s := 56) _ (by omega) (by omega) (.inr (by omega)) rfl
      · rw [decide_eq_false (show ¬ ((n / 2 ^ 48 : Nat) : Int) ≥ 256 by omega), cond_false]
        exact len_leaf (s := 48) _ (by omega) (by omega) (.inr (by omega)) rfl
    · rw [decide_eq_false (show ¬ ((n / 2 ^ 32 : Nat) : Int) ≥ 65536 by omega), cond_false]
      by_cases c : n / 2 ^ 32 ≥ 256
      · rw [decide_eq_true (show ((n / 2 ^ 32 : Nat) : Int) ≥ 256 by omega), cond_true]
        exact len_leaf (s := 40) _ (by omega) (by omega) (.inr (by omega)) rfl
      · rw [decide_eq_false (show ¬ ((n / 2 ^ 32 : Nat) : Int) ≥ 256 by omega), cond_false]
        exact len_leaf (s := 32) _ (by omega) (by omega) (.inr (by omega)) rfl
  · rw [decide_eq_false (show ¬ ((n : Nat) : Int) ≥ 4294967296 by omega), cond_false]
    by_cases b : n ≥ 65536
    · rw [decide_eq_true (show ((n : Nat) : Int) ≥ 65536 by omega), cond_true]
      by_cases c : n / 2 ^ 16 ≥ 256
      · rw [decide_eq_true (show ((n / 2 ^ 16 : Nat) : Int) ≥ 256 by omega), cond_true]
        exact len_leaf (s := 24) _ (by omega) (by omega) (.inr (by omega)) rfl
      · rw [decide_eq_false (show ¬ ((n / 2 ^ 16 : Nat) : Int) ≥ 256 by omega), cond_false]
        exact len_leaf (s := 16) _ (by omega) (by omega) (.inr (by omega)) rfl
    · rw [decide_eq_false (show ¬ ((n : Nat) : Int) ≥ 65536 by omega), cond_false]
      by_cases c : n ≥ 256
      · rw [decide_eq_true (show ((n : Nat) : Int) ≥ 256 by omega), cond_true]
        exact len_leaf (s := 8) _ (by omega) (by omega) (.inr (by omega)) rfl
      · rw [decide_eq_false (show ¬ ((n : Nat) : Int) ≥ 256 by omega), cond_false]
        have := len_leaf (n := n) (s := 0) 0 (by omega) (by rw [Nat.pow_zero, Nat.div_one]; omega) (.inl rfl) rfl
        rw [Nat.pow_zero, Nat.div_one] at this
        exact this
noncomputable def math_bits_Len64_con : Con := fun args h => match args, h with
  | [.i .u64 a0], [] => some (.a (.i .i64 (len64 a0)), .none, true)
  | _, _ => none
theorem math_bits_Len64_enter : ∀ args w, (callFunc 58 args).run Try.prog w = .ok (.enter 58 args) w := enter_ok (fn := Try.f58) (by kernel_rfl) (by kernel_rfl) (by kernel_rfl)
theorem math_bits_Len64_ok : ConOk Try.prog 58 math_bits_Len64_con := (ans_ok (N := 1000) (by kernel_rfl) mkΓ_nil (fn := Try.f58) (by kernel_rfl) (by kernel_rfl) []).of (by
  intro ρ h w args vals r e hA hH hr
  unfold math_bits_Len64_con at hr
  split at hr
  · rename_i a0
    obtain ⟨rfl, hg⟩ := Prod.mk.inj (Option.some.inj hr)
    obtain ⟨rfl, hg2⟩ := Prod.mk.inj hg
    exact math_bits_Len64_main a0 (hA.rng 0 rfl) hg2
  · cases hr)


noncomputable def xq (x : Int) : Int := (IntKind.i64.wrap (x * x)).fdiv (2 ^ (min ((30 : Int)).toNat IntKind.i64.bits))
noncomputable def xbig (x : Int) : Bool := decide (xq x ≥ 2147483648)
noncomputable def xnx (x : Int) : Int := bif xbig x then (xq x) / 2 else xq x
noncomputable def xbit (x : Int) : Int := bif xbig x then 1 else 0
noncomputable def xsq (x0 : Int) : Nat → Int
  | 0 => x0
  | i + 1 => xnx (xsq x0 i)
noncomputable def dg (x0 : Int) : Nat → Int
  | 0 => 0
  | i + 1 => 2 * dg x0 i + xbit (xsq x0 i)
noncomputable def lgx (k : Nat) (n : Int) : Int := bif decide ((k : Int) > 30) then n.fdiv (2 ^ (min (k - 30) 64)) else IntKind.i64.wrap (n * 2 ^ (min (30 - k) 64))
noncomputable def lg (n : Int) : Int := 16 * (Nat.log2 n.toNat : Int) + dg (lgx (Nat.log2 n.toNat) n) 4
theorem xbit01 (x : Int) : 0 ≤ xbit x ∧ xbit x ≤ 1 := by unfold xbit; cases xbig x <;> simp
theorem dg_bound (x0 : Int) : ∀ i, i ≤ 4 → 0 ≤ dg x0 i ∧ dg x0 i ≤ 15
  | 0, _ => by simp [dg]
  | 1, _ => by have := xbit01 (xsq x0 0); simp only [dg]; omega
  | 2, _ => by have := xbit01 (xsq x0 0); have := xbit01 (xsq x0 1); simp only [dg]; omega
  | 3, _ => by have := xbit01 (xsq x0 0); have := xbit01 (xsq x0 1); have := xbit01 (xsq x0 2); simp only [dg]; omega
  | 4, _ => by have := xbit01 (xsq x0 0); have := xbit01 (xsq x0 1); have := xbit01 (xsq x0 2); have := xbit01 (xsq x0 3); simp only [dg]; omega
  | _ + 5, h => absurd h (by omega)
theorem xq_le (x : Int) : xq x ≤ 9223372036854775807 := by
  unfold xq
  have h := (wrap_in .i64 (x * x)).2
  have h0 := (wrap_in .i64 (x * x)).1
  have e : IntKind.i64.max = 9223372036854775807 := rfl
  rw [e] at h
  rw [Int.fdiv_eq_ediv_of_nonneg _ (Int.le_of_lt (Int.pow_pos (by omega)))]
  have e2 : ((2 : Int) ^ (min ((30 : Int)).toNat IntKind.i64.bits)) = 1073741824 := by decide
  rw [e2]
  omega
theorem xhalf {x : Int} (h : xq x ≥ 2147483648) : IntKind.i64.wrap ((xq x).tdiv 2) = (xq x) / 2 ∧ (xq x).fdiv (2 ^ (min ((1 : Int)).toNat IntKind.i64.bits)) = (xq x) / 2 := by
  have hl := xq_le x
  have e2 : ((2 : Int) ^ (min ((1 : Int)).toNat IntKind.i64.bits)) = 2 := by decide
  rw [e2, Int.fdiv_eq_ediv_of_nonneg _ (by omega), Int.tdiv_eq_ediv_of_nonneg (by omega)]
  exact ⟨IntWalk.i64_in _ (by omega), rfl⟩
noncomputable def lgL (k : Nat) (x0 : Int) : Nat → Int
  | 0 => k
  | i + 1 => 2 * lgL k x0 i + xbit (xsq x0 i)
theorem lgL_bound (k : Nat) (x0 : Int) (hk : k ≤ 64) : ∀ i, i ≤ 4 → 0 ≤ lgL k x0 i ∧ lgL k x0 i ≤ 2000
  | 0, _ => by simp only [lgL]; omega
  | 1, _ => by have := xbit01 (xsq x0 0); simp only [lgL]; omega
  | 2, _ => by have := xbit01 (xsq x0 0); have := xbit01 (xsq x0 1); simp only [lgL]; omega
  | 3, _ => by have := xbit01 (xsq x0 0); have := xbit01 (xsq x0 1); have := xbit01 (xsq x0 2); simp only [lgL]; omega
  | 4, _ => by have := xbit01 (xsq x0 0); have := xbit01 (xsq x0 1); have := xbit01 (xsq x0 2); have := xbit01 (xsq x0 3); simp only [lgL]; omega
  | _ + 5, h => absurd h (by omega)
theorem lgL_4 (k : Nat) (x0 : Int) : lgL k x0 4 = 16 * (k : Int) + dg x0 4 := by simp only [lgL, dg]; omega
theorem log2_62 {m : Nat} (h0 : m ≠ 0) (h : m ≤ 9223372036854775807) : Nat.log2 m ≤ 62 := by
  have := (Nat.log2_lt h0 (k := 63)).2 (by omega)
  omega

noncomputable def spec_l05Log_t0 (a0 : Int) : St := (⟨.a (.i .i64 (a0)) :: .a (.u) :: .a (.i .i64 (0 : Int)) :: .a (.i .i64 (0 : Int)) :: us 43 ([]), [], []⟩ : St)

noncomputable def spec_l05Log_e0 : Int → LS
  | y0_3 => ([.a (.i .i64 (y0_3))], [])

noncomputable def spec_l05Log_x0 : Int → Exit × LS
  | t => ((.exit 0), spec_l05Log_e0 t)

noncomputable def spec_l05Log_g0 (P : Program) (a0 : Int) : Int → Option (Stp (Int) (Int))
  | y0_3 => bif decide (0 ≤ (IntKind.u64.wrap y0_3)) then (bif decide (((a0).fdiv (2 ^ (min ((IntKind.u64.wrap y0_3)).toNat IntKind.i64.bits))) > (1 : Int)) then (some (.more (IntKind.i64.wrap (y0_3 + (1 : Int)))))
      else (some (.done y0_3)))
    else (none)

theorem spec_l05Log_s0 (N : Nat) (a0 : Int) : ∀ t : Int, stepV Try.prog (mkΓ []) N (cAt (codeOf Try.f37) [1, 1, 0, 0, 0]) (pAt (mkPlan (codeOf Try.f37) [([3], []), ([4, 5, 6], [])]).1 [1, 1, 0, 0]) [3] [] (spec_l05Log_t0 a0) (spec_l05Log_e0 t) = mapS spec_l05Log_e0 spec_l05Log_x0 (spec_l05Log_g0 Try.prog a0 t) := by
  rintro y0_3
  refine Eq.trans (b := (bif decide (0 ≤ (IntKind.u64.wrap y0_3)) then (bif decide (((a0).fdiv (2 ^ (min ((IntKind.u64.wrap y0_3)).toNat IntKind.i64.bits))) > (1 : Int)) then (some (.more ([.a (.i .i64 (IntKind.i64.wrap (y0_3 + (1 : Int))))], [])))
      else (some (.done ((.exit 0), ([.a (.i .i64 (y0_3))], [])))))
    else (none))) (by kernel_rfl) ?_
  simp only [spec_l05Log_g0, mapS_cond, mapS_more, mapS_done, mapS_none, spec_l05Log_e0, spec_l05Log_x0]

noncomputable def spec_l05Log_t1 (a0 : Int) (z0_3 : Int) : St := (⟨.a (.i .i64 (a0)) :: .a (.u) :: .a (.i .i64 (0 : Int)) :: .a (.i .i64 (z0_3)) :: .a (.i .i64 (IntKind.i64.wrap (a0 * 2 ^ (min ((IntKind.u64.wrap (IntKind.i64.wrap ((30 : Int) - z0_3)))).toNat IntKind.i64.bits)))) :: .a (.i .i64 (0 : Int)) :: .a (.i .i64 (0 : Int)) :: xs 7 (.a (.i .i64 (a0)) :: .a (.i .i64 (z0_3)) :: .a (.b (decide (z0_3 ≤ (30 : Int)))) :: .a (.i .i64 (a0)) :: .a (.i .i64 (z0_3)) :: .a (.i .i64 (IntKind.i64.wrap ((30 : Int) - z0_3))) :: .a (.i .u64 (IntKind.u64.wrap (IntKind.i64.wrap ((30 : Int) - z0_3)))) :: .a (.i .i64 (IntKind.i64.wrap (a0 * 2 ^ (min ((IntKind.u64.wrap (IntKind.i64.wrap ((30 : Int) - z0_3)))).toNat IntKind.i64.bits)))) :: us 25 ([])), [], []⟩ : St)

noncomputable def spec_l05Log_e1 : Int × Int × Int → LS
  | (y1_4, y1_5, y1_6) => ([.a (.i .i64 (y1_4)), .a (.i .i64 (y1_5)), .a (.i .i64 (y1_6))], [])

noncomputable def spec_l05Log_x1 : Int × Int × Int → Exit × LS
  | t => ((.exit 2), spec_l05Log_e1 t)

noncomputable def spec_l05Log_g1 (P : Program) (a0 : Int) (z0_3 : Int) : Int × Int × Int → Option (Stp (Int × Int × Int) (Int × Int × Int))
  | (y1_4, y1_5, y1_6) => bif decide (y1_6 < (4 : Int)) then (bif decide ((((IntKind.i64.wrap (y1_4 * y1_4))).fdiv (2 ^ (min ((30 : Int)).toNat IntKind.i64.bits))) ≥ (2147483648 : Int)) then (some (.more ((((((IntKind.i64.wrap (y1_4 * y1_4))).fdiv (2 ^ (min ((30 : Int)).toNat IntKind.i64.bits)))).fdiv (2 ^ (min ((1 : Int)).toNat IntKind.i64.bits))), (IntKind.i64.wrap ((IntKind.i64.wrap (y1_5 * (2 : Int))) + (1 : Int))), (IntKind.i64.wrap (y1_6 + (1 : Int))))))
      else (some (.more ((((IntKind.i64.wrap (y1_4 * y1_4))).fdiv (2 ^ (min ((30 : Int)).toNat IntKind.i64.bits))), (IntKind.i64.wrap (y1_5 * (2 : Int))), (IntKind.i64.wrap (y1_6 + (1 : Int)))))))
    else (some (.done (y1_4, y1_5, y1_6)))

theorem spec_l05Log_s1 (N : Nat) (a0 : Int) (z0_3 : Int) : ∀ t : Int × Int × Int, stepV Try.prog (mkΓ []) N (cAt (codeOf Try.f37) [1, 1, 1, 1, 1, 1, 0, 1, 0, 0]) (pAt (mkPlan (codeOf Try.f37) [([3], []), ([4, 5, 6], [])]).1 [1, 1, 1, 1, 1, 1, 0, 1, 0]) [4, 5, 6] [] (spec_l05Log_t1 a0 z0_3) (spec_l05Log_e1 t) = mapS spec_l05Log_e1 spec_l05Log_x1 (spec_l05Log_g1 Try.prog a0 z0_3 t) := by
  rintro ⟨y1_4, y1_5, y1_6⟩
  refine Eq.trans (b := (bif decide (y1_6 < (4 : Int)) then (bif decide ((((IntKind.i64.wrap (y1_4 * y1_4))).fdiv (2 ^ (min ((30 : Int)).toNat IntKind.i64.bits))) ≥ (2147483648 : Int)) then (some (.more ([.a (.i .i64 (((((IntKind.i64.wrap (y1_4 * y1_4))).fdiv (2 ^ (min ((30 : Int)).toNat IntKind.i64.bits)))).fdiv (2 ^ (min ((1 : Int)).toNat IntKind.i64.bits)))), .a (.i .i64 (IntKind.i64.wrap ((IntKind.i64.wrap (y1_5 * (2 : Int))) + (1 : Int)))), .a (.i .i64 (IntKind.i64.wrap (y1_6 + (1 : Int))))], [])))
      else (some (.more ([.a (.i .i64 (((IntKind.i64.wrap (y1_4 * y1_4))).fdiv (2 ^ (min ((30 : Int)).toNat IntKind.i64.bits)))), .a (.i .i64 (IntKind.i64.wrap (y1_5 * (2 : Int)))), .a (.i .i64 (IntKind.i64.wrap (y1_6 + (1 : Int))))], []))))
    else (some (.done ((.exit 2), ([.a (.i .i64 (y1_4)), .a (.i .i64 (y1_5)), .a (.i .i64 (y1_6))], [])))))) (by kernel_rfl) ?_
  simp only [spec_l05Log_g1, mapS_cond, mapS_more, mapS_done, mapS_none, spec_l05Log_e1, spec_l05Log_x1]

noncomputable def spec_l05Log_k1_0 (P : Program) (N : Nat) (a0 : Int) (z0_3 : Int) (z1_4 : Int) (z1_5 : Int) (z1_6 : Int) : Option (SV × Eff × Bool) := some (.a (.i .i64 (IntKind.i64.wrap ((IntKind.i64.wrap ((16 : Int) * z0_3)) + z1_5))), .none, true)

theorem spec_l05Log_k1_0_eq (N : Nat) (a0 : Int) (z0_3 : Int) (z1_4 : Int) (z1_5 : Int) (z1_6 : Int) : (kBlock 2 (kSeq (veC Try.prog (mkΓ []) N (cAt (codeOf Try.f37) [1, 1, 1, 1, 1, 1, 1]) (pAt (mkPlan (codeOf Try.f37) [([3], []), ([4, 5, 6], [])]).1 [1, 1, 1, 1, 1, 1, 1]) (SV × Eff × Bool)) (finK Try.prog [] [.tmp 2]))) (.exit 2) (left (writes (cAt (codeOf Try.f37) [1, 1, 1, 1, 1, 1, 0, 1, 0, 0])) [4, 5, 6] [] (spec_l05Log_t1 a0 z0_3) ([.a (.i .i64 (z1_4)), .a (.i .i64 (z1_5)), .a (.i .i64 (z1_6))], [])) = spec_l05Log_k1_0 Try.prog N a0 z0_3 z1_4 z1_5 z1_6 := by
  refine Eq.trans (b := (some (.a (.i .i64 (IntKind.i64.wrap ((IntKind.i64.wrap ((16 : Int) * z0_3)) + z1_5))), .none, true))) (by kernel_rfl) ?_
  rfl

theorem spec_l05Log_n1 (N : Nat) (a0 : Int) (z0_3 : Int) : bindX (iterO (stepV Try.prog (mkΓ []) N (cAt (codeOf Try.f37) [1, 1, 1, 1, 1, 1, 0, 1, 0, 0]) (pAt (mkPlan (codeOf Try.f37) [([3], []), ([4, 5, 6], [])]).1 [1, 1, 1, 1, 1, 1, 0, 1, 0]) [4, 5, 6] [] (spec_l05Log_t1 a0 z0_3)) N ([.a (.i .i64 (IntKind.i64.wrap (a0 * 2 ^ (min ((IntKind.u64.wrap (IntKind.i64.wrap ((30 : Int) - z0_3)))).toNat IntKind.i64.bits)))), .a (.i .i64 (0 : Int)), .a (.i .i64 (0 : Int))], [])) (fun e s => (kBlock 2 (kSeq (veC Try.prog (mkΓ []) N (cAt (codeOf Try.f37) [1, 1, 1, 1, 1, 1, 1]) (pAt (mkPlan (codeOf Try.f37) [([3], []), ([4, 5, 6], [])]).1 [1, 1, 1, 1, 1, 1, 1]) (SV × Eff × Bool)) (finK Try.prog [] [.tmp 2]))) e (left (writes (cAt (codeOf Try.f37) [1, 1, 1, 1, 1, 1, 0, 1, 0, 0])) [4, 5, 6] [] (spec_l05Log_t1 a0 z0_3) s)) = nodeX (iterO (spec_l05Log_g1 Try.prog a0 z0_3) N ((IntKind.i64.wrap (a0 * 2 ^ (min ((IntKind.u64.wrap (IntKind.i64.wrap ((30 : Int) - z0_3)))).toNat IntKind.i64.bits))), (0 : Int), (0 : Int))) (fun x => spec_l05Log_k1_0 Try.prog N a0 z0_3 x.1 x.2.1 x.2.2) := by
  refine loop_node spec_l05Log_e1 spec_l05Log_x1 _ _ (spec_l05Log_s1 N a0 z0_3) N ((IntKind.i64.wrap (a0 * 2 ^ (min ((IntKind.u64.wrap (IntKind.i64.wrap ((30 : Int) - z0_3)))).toNat IntKind.i64.bits))), (0 : Int), (0 : Int)) _ _ ?_
  intro x; exact spec_l05Log_k1_0_eq N a0 z0_3 x.1 x.2.1 x.2.2

noncomputable def spec_l05Log_t1v1 (a0 : Int) (z0_3 : Int) : St := (⟨.a (.i .i64 (a0)) :: .a (.u) :: .a (.i .i64 (0 : Int)) :: .a (.i .i64 (z0_3)) :: .a (.i .i64 ((a0).fdiv (2 ^ (min ((IntKind.u64.wrap (IntKind.i64.wrap (z0_3 - (30 : Int))))).toNat IntKind.i64.bits)))) :: .a (.i .i64 (0 : Int)) :: .a (.i .i64 (0 : Int)) :: xs 7 (.a (.i .i64 (a0)) :: .a (.i .i64 (z0_3)) :: .a (.b (decide (z0_3 ≤ (30 : Int)))) :: us 5 (.a (.i .i64 (a0)) :: .a (.i .i64 (z0_3)) :: .a (.i .i64 (IntKind.i64.wrap (z0_3 - (30 : Int)))) :: .a (.i .u64 (IntKind.u64.wrap (IntKind.i64.wrap (z0_3 - (30 : Int))))) :: .a (.i .i64 ((a0).fdiv (2 ^ (min ((IntKind.u64.wrap (IntKind.i64.wrap (z0_3 - (30 : Int))))).toNat IntKind.i64.bits)))) :: us 20 ([]))), [], []⟩ : St)

noncomputable def spec_l05Log_e1v1 : Int × Int × Int → LS
  | (y1v1_4, y1v1_5, y1v1_6) => ([.a (.i .i64 (y1v1_4)), .a (.i .i64 (y1v1_5)), .a (.i .i64 (y1v1_6))], [])

noncomputable def spec_l05Log_x1v1 : Int × Int × Int → Exit × LS
  | t => ((.exit 2), spec_l05Log_e1v1 t)

noncomputable def spec_l05Log_g1v1 (P : Program) (a0 : Int) (z0_3 : Int) : Int × Int × Int → Option (Stp (Int × Int × Int) (Int × Int × Int))
  | (y1v1_4, y1v1_5, y1v1_6) => bif decide (y1v1_6 < (4 : Int)) then (bif decide ((((IntKind.i64.wrap (y1v1_4 * y1v1_4))).fdiv (2 ^ (min ((30 : Int)).toNat IntKind.i64.bits))) ≥ (2147483648 : Int)) then (some (.more ((((((IntKind.i64.wrap (y1v1_4 * y1v1_4))).fdiv (2 ^ (min ((30 : Int)).toNat IntKind.i64.bits)))).fdiv (2 ^ (min ((1 : Int)).toNat IntKind.i64.bits))), (IntKind.i64.wrap ((IntKind.i64.wrap (y1v1_5 * (2 : Int))) + (1 : Int))), (IntKind.i64.wrap (y1v1_6 + (1 : Int))))))
      else (some (.more ((((IntKind.i64.wrap (y1v1_4 * y1v1_4))).fdiv (2 ^ (min ((30 : Int)).toNat IntKind.i64.bits))), (IntKind.i64.wrap (y1v1_5 * (2 : Int))), (IntKind.i64.wrap (y1v1_6 + (1 : Int)))))))
    else (some (.done (y1v1_4, y1v1_5, y1v1_6)))

theorem spec_l05Log_s1v1 (N : Nat) (a0 : Int) (z0_3 : Int) : ∀ t : Int × Int × Int, stepV Try.prog (mkΓ []) N (cAt (codeOf Try.f37) [1, 1, 1, 1, 1, 1, 0, 1, 0, 0]) (pAt (mkPlan (codeOf Try.f37) [([3], []), ([4, 5, 6], [])]).1 [1, 1, 1, 1, 1, 1, 0, 1, 0]) [4, 5, 6] [] (spec_l05Log_t1v1 a0 z0_3) (spec_l05Log_e1v1 t) = mapS spec_l05Log_e1v1 spec_l05Log_x1v1 (spec_l05Log_g1v1 Try.prog a0 z0_3 t) := by
  rintro ⟨y1v1_4, y1v1_5, y1v1_6⟩
  refine Eq.trans (b := (bif decide (y1v1_6 < (4 : Int)) then (bif decide ((((IntKind.i64.wrap (y1v1_4 * y1v1_4))).fdiv (2 ^ (min ((30 : Int)).toNat IntKind.i64.bits))) ≥ (2147483648 : Int)) then (some (.more ([.a (.i .i64 (((((IntKind.i64.wrap (y1v1_4 * y1v1_4))).fdiv (2 ^ (min ((30 : Int)).toNat IntKind.i64.bits)))).fdiv (2 ^ (min ((1 : Int)).toNat IntKind.i64.bits)))), .a (.i .i64 (IntKind.i64.wrap ((IntKind.i64.wrap (y1v1_5 * (2 : Int))) + (1 : Int)))), .a (.i .i64 (IntKind.i64.wrap (y1v1_6 + (1 : Int))))], [])))
      else (some (.more ([.a (.i .i64 (((IntKind.i64.wrap (y1v1_4 * y1v1_4))).fdiv (2 ^ (min ((30 : Int)).toNat IntKind.i64.bits)))), .a (.i .i64 (IntKind.i64.wrap (y1v1_5 * (2 : Int)))), .a (.i .i64 (IntKind.i64.wrap (y1v1_6 + (1 : Int))))], []))))
    else (some (.done ((.exit 2), ([.a (.i .i64 (y1v1_4)), .a (.i .i64 (y1v1_5)), .a (.i .i64 (y1v1_6))], [])))))) (by kernel_rfl) ?_
  simp only [spec_l05Log_g1v1, mapS_cond, mapS_more, mapS_done, mapS_none, spec_l05Log_e1v1, spec_l05Log_x1v1]

noncomputable def spec_l05Log_k1v1_0 (P : Program) (N : Nat) (a0 : Int) (z0_3 : Int) (z1v1_4 : Int) (z1v1_5 : Int) (z1v1_6 : Int) : Option (SV × Eff × Bool) := some (.a (.i .i64 (IntKind.i64.wrap ((IntKind.i64.wrap ((16 : Int) * z0_3)) + z1v1_5))), .none, true)

theorem spec_l05Log_k1v1_0_eq (N : Nat) (a0 : Int) (z0_3 : Int) (z1v1_4 : Int) (z1v1_5 : Int) (z1v1_6 : Int) : (kBlock 2 (kSeq (veC Try.prog (mkΓ []) N (cAt (codeOf Try.f37) [1, 1, 1, 1, 1, 1, 1]) (pAt (mkPlan (codeOf Try.f37) [([3], []), ([4, 5, 6], [])]).1 [1, 1, 1, 1, 1, 1, 1]) (SV × Eff × Bool)) (finK Try.prog [] [.tmp 2]))) (.exit 2) (left (writes (cAt (codeOf Try.f37) [1, 1, 1, 1, 1, 1, 0, 1, 0, 0])) [4, 5, 6] [] (spec_l05Log_t1v1 a0 z0_3) ([.a (.i .i64 (z1v1_4)), .a (.i .i64 (z1v1_5)), .a (.i .i64 (z1v1_6))], [])) = spec_l05Log_k1v1_0 Try.prog N a0 z0_3 z1v1_4 z1v1_5 z1v1_6 := by
  refine Eq.trans (b := (some (.a (.i .i64 (IntKind.i64.wrap ((IntKind.i64.wrap ((16 : Int) * z0_3)) + z1v1_5))), .none, true))) (by kernel_rfl) ?_
  rfl

theorem spec_l05Log_n1v1 (N : Nat) (a0 : Int) (z0_3 : Int) : bindX (iterO (stepV Try.prog (mkΓ []) N (cAt (codeOf Try.f37) [1, 1, 1, 1, 1, 1, 0, 1, 0, 0]) (pAt (mkPlan (codeOf Try.f37) [([3], []), ([4, 5, 6], [])]).1 [1, 1, 1, 1, 1, 1, 0, 1, 0]) [4, 5, 6] [] (spec_l05Log_t1v1 a0 z0_3)) N ([.a (.i .i64 ((a0).fdiv (2 ^ (min ((IntKind.u64.wrap (IntKind.i64.wrap (z0_3 - (30 : Int))))).toNat IntKind.i64.bits)))), .a (.i .i64 (0 : Int)), .a (.i .i64 (0 : Int))], [])) (fun e s => (kBlock 2 (kSeq (veC Try.prog (mkΓ []) N (cAt (codeOf Try.f37) [1, 1, 1, 1, 1, 1, 1]) (pAt (mkPlan (codeOf Try.f37) [([3], []), ([4, 5, 6], [])]).1 [1, 1, 1, 1, 1, 1, 1]) (SV × Eff × Bool)) (finK Try.prog [] [.tmp 2]))) e (left (writes (cAt (codeOf Try.f37) [1, 1, 1, 1, 1, 1, 0, 1, 0, 0])) [4, 5, 6] [] (spec_l05Log_t1v1 a0 z0_3) s)) = nodeX (iterO (spec_l05Log_g1v1 Try.prog a0 z0_3) N (((a0).fdiv (2 ^ (min ((IntKind.u64.wrap (IntKind.i64.wrap (z0_3 - (30 : Int))))).toNat IntKind.i64.bits))), (0 : Int), (0 : Int))) (fun x => spec_l05Log_k1v1_0 Try.prog N a0 z0_3 x.1 x.2.1 x.2.2) := by
  refine loop_node spec_l05Log_e1v1 spec_l05Log_x1v1 _ _ (spec_l05Log_s1v1 N a0 z0_3) N (((a0).fdiv (2 ^ (min ((IntKind.u64.wrap (IntKind.i64.wrap (z0_3 - (30 : Int))))).toNat IntKind.i64.bits))), (0 : Int), (0 : Int)) _ _ ?_
  intro x; exact spec_l05Log_k1v1_0_eq N a0 z0_3 x.1 x.2.1 x.2.2

noncomputable def spec_l05Log_k0_0 (P : Program) (N : Nat) (a0 : Int) (z0_3 : Int) : Option (SV × Eff × Bool) := bif decide (z0_3 ≤ (30 : Int)) then (bif decide (0 ≤ (IntKind.u64.wrap (IntKind.i64.wrap ((30 : Int) - z0_3)))) then (nodeX (iterO (spec_l05Log_g1 P a0 z0_3) N ((IntKind.i64.wrap (a0 * 2 ^ (min ((IntKind.u64.wrap (IntKind.i64.wrap ((30 : Int) - z0_3)))).toNat IntKind.i64.bits))), (0 : Int), (0 : Int))) (fun x => spec_l05Log_k1_0 P N a0 z0_3 x.1 x.2.1 x.2.2))
      else (none))
    else (bif decide (0 ≤ (IntKind.u64.wrap (IntKind.i64.wrap (z0_3 - (30 : Int))))) then (nodeX (iterO (spec_l05Log_g1v1 P a0 z0_3) N (((a0).fdiv (2 ^ (min ((IntKind.u64.wrap (IntKind.i64.wrap (z0_3 - (30 : Int))))).toNat IntKind.i64.bits))), (0 : Int), (0 : Int))) (fun x => spec_l05Log_k1v1_0 P N a0 z0_3 x.1 x.2.1 x.2.2))
      else (none))

theorem spec_l05Log_k0_0_eq (N : Nat) (a0 : Int) (z0_3 : Int) : (kBlock 0 (kSeq (veC Try.prog (mkΓ []) N (cAt (codeOf Try.f37) [1, 1, 1]) (pAt (mkPlan (codeOf Try.f37) [([3], []), ([4, 5, 6], [])]).1 [1, 1, 1]) (SV × Eff × Bool)) (finK Try.prog [] [.tmp 2]))) (.exit 0) (left (writes (cAt (codeOf Try.f37) [1, 1, 0, 0, 0])) [3] [] (spec_l05Log_t0 a0) ([.a (.i .i64 (z0_3))], [])) = spec_l05Log_k0_0 Try.prog N a0 z0_3 := by
  refine Eq.trans (b := (bif decide (z0_3 ≤ (30 : Int)) then (bif decide (0 ≤ (IntKind.u64.wrap (IntKind.i64.wrap ((30 : Int) - z0_3)))) then (bindX (iterO (stepV Try.prog (mkΓ []) N (cAt (codeOf Try.f37) [1, 1, 1, 1, 1, 1, 0, 1, 0, 0]) (pAt (mkPlan (codeOf Try.f37) [([3], []), ([4, 5, 6], [])]).1 [1, 1, 1, 1, 1, 1, 0, 1, 0]) [4, 5, 6] [] (spec_l05Log_t1 a0 z0_3)) N ([.a (.i .i64 (IntKind.i64.wrap (a0 * 2 ^ (min ((IntKind.u64.wrap (IntKind.i64.wrap ((30 : Int) - z0_3)))).toNat IntKind.i64.bits)))), .a (.i .i64 (0 : Int)), .a (.i .i64 (0 : Int))], [])) (fun e s => (kBlock 2 (kSeq (veC Try.prog (mkΓ []) N (cAt (codeOf Try.f37) [1, 1, 1, 1, 1, 1, 1]) (pAt (mkPlan (codeOf Try.f37) [([3], []), ([4, 5, 6], [])]).1 [1, 1, 1, 1, 1, 1, 1]) (SV × Eff × Bool)) (finK Try.prog [] [.tmp 2]))) e (left (writes (cAt (codeOf Try.f37) [1, 1, 1, 1, 1, 1, 0, 1, 0, 0])) [4, 5, 6] [] (spec_l05Log_t1 a0 z0_3) s)))
      else (none))
    else (bif decide (0 ≤ (IntKind.u64.wrap (IntKind.i64.wrap (z0_3 - (30 : Int))))) then (bindX (iterO (stepV Try.prog (mkΓ []) N (cAt (codeOf Try.f37) [1, 1, 1, 1, 1, 1, 0, 1, 0, 0]) (pAt (mkPlan (codeOf Try.f37) [([3], []), ([4, 5, 6], [])]).1 [1, 1, 1, 1, 1, 1, 0, 1, 0]) [4, 5, 6] [] (spec_l05Log_t1v1 a0 z0_3)) N ([.a (.i .i64 ((a0).fdiv (2 ^ (min ((IntKind.u64.wrap (IntKind.i64.wrap (z0_3 - (30 : Int))))).toNat IntKind.i64.bits)))), .a (.i .i64 (0 : Int)), .a (.i .i64 (0 : Int))], [])) (fun e s => (kBlock 2 (kSeq (veC Try.prog (mkΓ []) N (cAt (codeOf Try.f37) [1, 1, 1, 1, 1, 1, 1]) (pAt (mkPlan (codeOf Try.f37) [([3], []), ([4, 5, 6], [])]).1 [1, 1, 1, 1, 1, 1, 1]) (SV × Eff × Bool)) (finK Try.prog [] [.tmp 2]))) e (left (writes (cAt (codeOf Try.f37) [1, 1, 1, 1, 1, 1, 0, 1, 0, 0])) [4, 5, 6] [] (spec_l05Log_t1v1 a0 z0_3) s)))
      else (none)))) (by kernel_rfl) ?_
  simp only [spec_l05Log_n1 N a0 z0_3, spec_l05Log_n1v1 N a0 z0_3, spec_l05Log_k0_0]

theorem spec_l05Log_n0 (N : Nat) (a0 : Int) : bindX (iterO (stepV Try.prog (mkΓ []) N (cAt (codeOf Try.f37) [1, 1, 0, 0, 0]) (pAt (mkPlan (codeOf Try.f37) [([3], []), ([4, 5, 6], [])]).1 [1, 1, 0, 0]) [3] [] (spec_l05Log_t0 a0)) N ([.a (.i .i64 (0 : Int))], [])) (fun e s => (kBlock 0 (kSeq (veC Try.prog (mkΓ []) N (cAt (codeOf Try.f37) [1, 1, 1]) (pAt (mkPlan (codeOf Try.f37) [([3], []), ([4, 5, 6], [])]).1 [1, 1, 1]) (SV × Eff × Bool)) (finK Try.prog [] [.tmp 2]))) e (left (writes (cAt (codeOf Try.f37) [1, 1, 0, 0, 0])) [3] [] (spec_l05Log_t0 a0) s)) = nodeX (iterO (spec_l05Log_g0 Try.prog a0) N (0 : Int)) (fun x => spec_l05Log_k0_0 Try.prog N a0 x) := by
  refine loop_node spec_l05Log_e0 spec_l05Log_x0 _ _ (spec_l05Log_s0 N a0) N (0 : Int) _ _ ?_
  intro x; exact spec_l05Log_k0_0_eq N a0 x

theorem spec_l05Log_ans (N : Nat) (a0 : Int) : ansV Try.prog (mkΓ []) N Try.f37 [([3], []), ([4, 5, 6], [])] [.i .i64 (a0)] [] = (nodeX (iterO (spec_l05Log_g0 Try.prog a0) N (0 : Int)) (fun x => spec_l05Log_k0_0 Try.prog N a0 x)) := by
  refine Eq.trans (b := (bindX (iterO (stepV Try.prog (mkΓ []) N (cAt (codeOf Try.f37) [1, 1, 0, 0, 0]) (pAt (mkPlan (codeOf Try.f37) [([3], []), ([4, 5, 6], [])]).1 [1, 1, 0, 0]) [3] [] (spec_l05Log_t0 a0)) N ([.a (.i .i64 (0 : Int))], [])) (fun e s => (kBlock 0 (kSeq (veC Try.prog (mkΓ []) N (cAt (codeOf Try.f37) [1, 1, 1]) (pAt (mkPlan (codeOf Try.f37) [([3], []), ([4, 5, 6], [])]).1 [1, 1, 1]) (SV × Eff × Bool)) (finK Try.prog [] [.tmp 2]))) e (left (writes (cAt (codeOf Try.f37) [1, 1, 0, 0, 0])) [3] [] (spec_l05Log_t0 a0) s)))) (by kernel_rfl) ?_
  simp only [spec_l05Log_n0 N a0]

theorem spec_l05Log_main (a0 : Int) (h_a0 : IntKind.i64.min ≤ a0 ∧ a0 ≤ IntKind.i64.max) (hg : (decide (1 ≤ a0)) = true) : ansV Try.prog (mkΓ []) 1000 Try.f37 [([3], []), ([4, 5, 6], [])] [.i .i64 (a0)] [] = some (.a (.i .i64 (lg a0)), .none, true) := by
  have h0 : 1 ≤ a0 := of_decide_eq_true hg
  obtain ⟨m, rfl⟩ := Int.eq_ofNat_of_zero_le (show 0 ≤ a0 by omega)
  have hm0 : m ≠ 0 := by omega
  have hmx : m ≤ 9223372036854775807 := by have := h_a0.2; have e : IntKind.i64.max = 9223372036854775807 := rfl; omega
  refine (spec_l05Log_ans 1000 _).trans ?_
  obtain ⟨q1, q2⟩ := (Nat.log2_eq_iff hm0).1 rfl
  have hk := log2_62 hm0 hmx
  have hb : IntKind.i64.bits = 64 := rfl
  have first : iterO (spec_l05Log_g0 Try.prog (m : Int)) 1000 (0 : Int) = some (Nat.log2 m : Int) := by
    have h := iter_all (g := spec_l05Log_g0 Try.prog (m : Int)) (fun i => (i : Int)) (m := Nat.log2 m) (x := (Nat.log2 m : Int)) (N := 1000) (fun i hi => by
      have u : IntKind.u64.wrap (i : Int) = (i : Int) := by rw [IntKind.wrap_u64]; omega
      have h3 : IntKind.i64.wrap ((i : Int) + 1) = ((i + 1 : Nat) : Int) := by rw [IntWalk.i64_in _ (by omega)]; omega
      have hd : 2 ≤ m / 2 ^ i := (Nat.le_div_iff_mul_le (Nat.pow_pos (by omega))).2 (by
        have : 2 ^ (i + 1) ≤ 2 ^ Nat.log2 m := Nat.pow_le_pow_right (by omega) (by omega)
        rw [Nat.pow_succ] at this
        omega)
      simp only [spec_l05Log_g0, u, Int.toNat_natCast, hb, fdiv_nat m i 64 (by omega), h3]
      rw [decide_eq_true (show (0 : Int) ≤ (i : Int) by omega), decide_eq_true (show ((m / 2 ^ i : Nat) : Int) > 1 by omega)]
      rfl) (by
      have u : IntKind.u64.wrap ((Nat.log2 m : Nat) : Int) = ((Nat.log2 m : Nat) : Int) := by rw [IntKind.wrap_u64]; omega
      have hd : m / 2 ^ Nat.log2 m < 2 := (Nat.div_lt_iff_lt_mul (Nat.pow_pos (by omega))).2 (by rw [Nat.pow_succ] at q2; omega)
      simp only [spec_l05Log_g0, u, Int.toNat_natCast, hb, fdiv_nat m _ 64 (show Nat.log2 m ≤ 64 by omega)]
      rw [decide_eq_true (show (0 : Int) ≤ ((Nat.log2 m : Nat) : Int) by omega), decide_eq_false (show ¬ ((m / 2 ^ Nat.log2 m : Nat) : Int) > 1 by omega)]
      rfl) (by omega)
    exact h
  rw [first]
  show spec_l05Log_k0_0 Try.prog 1000 (m : Int) (Nat.log2 m : Int) = some (.a (.i .i64 (lg (m : Int))), .none, true)
  have hlg : lg (m : Int) = 16 * (Nat.log2 m : Int) + dg (lgx (Nat.log2 m) (m : Int)) 4 := by unfold lg; rw [Int.toNat_natCast]
  rw [hlg]
  generalize hkk : Nat.log2 m = k at hk
  have fin : ∀ x0 : Int, IntKind.i64.wrap (IntKind.i64.wrap (16 * (k : Int)) + dg x0 4) = 16 * (k : Int) + dg x0 4 := fun x0 => by
    have := dg_bound x0 4 (by omega)
    rw [IntWalk.i64_in (16 * (k : Int)) (by omega), IntWalk.i64_in _ (by omega)]
  unfold spec_l05Log_k0_0 lgx
  by_cases hc : 30 < k
  · rw [decide_eq_false (show ¬ (k : Int) ≤ 30 by omega), decide_eq_true (show (k : Int) > 30 by omega)]
    simp only [cond_false, cond_true]
    have e0 : IntKind.u64.wrap (IntKind.i64.wrap ((k : Int) - 30)) = ((k - 30 : Nat) : Int) := by rw [IntWalk.i64_in _ (by omega), IntKind.wrap_u64]; omega
    rw [e0, decide_eq_true (by omega), cond_true, Int.toNat_natCast, hb]
    generalize ((m : Int)).fdiv (2 ^ (min (k - 30) 64)) = x0
    have r := (by
    have h := iter_all (g := spec_l05Log_g1v1 Try.prog (m : Int) (k : Int)) (fun i => (xsq x0 i, dg x0 i, (i : Int))) (m := 4) (x := (xsq x0 4, dg x0 4, (4 : Int))) (N := 1000) (fun i hi => by
      have h1 : decide ((i : Int) < 4) = true := decide_eq_true (by omega)
      have h3 : IntKind.i64.wrap ((i : Int) + 1) = ((i + 1 : Nat) : Int) := by rw [IntWalk.i64_in _ (by omega)]; omega
      have hb := dg_bound x0 i (by omega)
      have h4 : IntKind.i64.wrap (dg x0 i * 2) = dg x0 i * 2 := IntWalk.i64_in _ (by omega)
      have h5 : IntKind.i64.wrap (dg x0 i * 2 + 1) = dg x0 i * 2 + 1 := IntWalk.i64_in _ (by omega)
      show spec_l05Log_g1v1 Try.prog (m : Int) (k : Int) (xsq x0 i, dg x0 i, (i : Int)) = some (.more (xnx (xsq x0 i), 2 * dg x0 i + xbit (xsq x0 i), ((i + 1 : Nat) : Int)))
      have hq : ((IntKind.i64.wrap (xsq x0 i * xsq x0 i))).fdiv (2 ^ (min ((30 : Int)).toNat IntKind.i64.bits)) = xq (xsq x0 i) := rfl
      simp only [spec_l05Log_g1v1, h1, cond_true, hq, h3, h4, h5]
      unfold xnx xbit xbig
      by_cases hbig : xq (xsq x0 i) ≥ 2147483648
      · rw [decide_eq_true hbig]
        simp only [cond_true, (xhalf hbig).2]
        rw [show dg x0 i * 2 + 1 = 2 * dg x0 i + 1 by omega]
      · rw [decide_eq_false hbig]
        simp only [cond_false]
        rw [show dg x0 i * 2 = 2 * dg x0 i + 0 by omega]) (by
      have h1 : decide (((4 : Nat) : Int) < 4) = false := by decide
      simp only [spec_l05Log_g1v1, h1, cond_false]
      rfl) (by omega)
    exact h)
    have r' : iterO (spec_l05Log_g1v1 Try.prog (m : Int) (k : Int)) 1000 (x0, (0 : Int), (0 : Int)) = some (xsq x0 4, dg x0 4, (4 : Int)) := r
    rw [r']
    show spec_l05Log_k1v1_0 Try.prog 1000 (m : Int) (k : Int) (xsq x0 4) (dg x0 4) 4 = _
    unfold spec_l05Log_k1v1_0
    rw [fin]
  · rw [decide_eq_true (show (k : Int) ≤ 30 by omega), decide_eq_false (show ¬ (k : Int) > 30 by omega)]
    simp only [cond_false, cond_true]
    have e0 : IntKind.u64.wrap (IntKind.i64.wrap (30 - (k : Int))) = ((30 - k : Nat) : Int) := by rw [IntWalk.i64_in _ (by omega), IntKind.wrap_u64]; omega
    rw [e0, decide_eq_true (by omega), cond_true, Int.toNat_natCast, hb]
    generalize IntKind.i64.wrap ((m : Int) * 2 ^ (min (30 - k) 64)) = x0
    have r := (by
    have h := iter_all (g := spec_l05Log_g1 Try.prog (m : Int) (k : Int)) (fun i => (xsq x0 i, dg x0 i, (i : Int))) (m := 4) (x := (xsq x0 4, dg x0 4, (4 : Int))) (N := 1000) (fun i hi => by
      have h1 : decide ((i : Int) < 4) = true := decide_eq_true (by omega)
      have h3 : IntKind.i64.wrap ((i : Int) + 1) = ((i + 1 : Nat) : Int) := by rw [IntWalk.i64_in _ (by omega)]; omega
      have hb := dg_bound x0 i (by omega)
      have h4 : IntKind.i64.wrap (dg x0 i * 2) = dg x0 i * 2 := IntWalk.i64_in _ (by omega)
      have h5 : IntKind.i64.wrap (dg x0 i * 2 + 1) = dg x0 i * 2 + 1 := IntWalk.i64_in _ (by omega)
      show spec_l05Log_g1 Try.prog (m : Int) (k : Int) (xsq x0 i, dg x0 i, (i : Int)) = some (.more (xnx (xsq x0 i), 2 * dg x0 i + xbit (xsq x0 i), ((i + 1 : Nat) : Int)))
      have hq : ((IntKind.i64.wrap (xsq x0 i * xsq x0 i))).fdiv (2 ^ (min ((30 : Int)).toNat IntKind.i64.bits)) = xq (xsq x0 i) := rfl
      simp only [spec_l05Log_g1, h1, cond_true, hq, h3, h4, h5]
      unfold xnx xbit xbig
      by_cases hbig : xq (xsq x0 i) ≥ 2147483648
      · rw [decide_eq_true hbig]
        simp only [cond_true, (xhalf hbig).2]
        rw [show dg x0 i * 2 + 1 = 2 * dg x0 i + 1 by omega]
      · rw [decide_eq_false hbig]
        simp only [cond_false]
        rw [show dg x0 i * 2 = 2 * dg x0 i + 0 by omega]) (by
      have h1 : decide (((4 : Nat) : Int) < 4) = false := by decide
      simp only [spec_l05Log_g1, h1, cond_false]
      rfl) (by omega)
    exact h)
    have r' : iterO (spec_l05Log_g1 Try.prog (m : Int) (k : Int)) 1000 (x0, (0 : Int), (0 : Int)) = some (xsq x0 4, dg x0 4, (4 : Int)) := r
    rw [r']
    show spec_l05Log_k1_0 Try.prog 1000 (m : Int) (k : Int) (xsq x0 4) (dg x0 4) 4 = _
    unfold spec_l05Log_k1_0
    rw [fin]
noncomputable def spec_l05Log_con : Con := fun args h => match args, h with
  | [.i .i64 a0], [] => some (.a (.i .i64 (lg a0)), .none, decide (1 ≤ a0))
  | _, _ => none
theorem spec_l05Log_enter : ∀ args w, (callFunc 37 args).run Try.prog w = .ok (.enter 37 args) w := enter_ok (fn := Try.f37) (by kernel_rfl) (by kernel_rfl) (by kernel_rfl)
theorem spec_l05Log_ok : ConOk Try.prog 37 spec_l05Log_con := (ans_ok (N := 1000) (by kernel_rfl) mkΓ_nil (fn := Try.f37) (by kernel_rfl) (by kernel_rfl) [([3], []), ([4, 5, 6], [])]).of (by
  intro ρ h w args vals r e hA hH hr
  unfold spec_l05Log_con at hr
  split at hr
  · rename_i a0
    obtain ⟨rfl, hg⟩ := Prod.mk.inj (Option.some.inj hr)
    obtain ⟨rfl, hg2⟩ := Prod.mk.inj hg
    exact spec_l05Log_main a0 (hA.rng 0 rfl) hg2
  · cases hr)

noncomputable def impl_logOf_t0 (a0 : Int) : St := (⟨.a (.i .i64 (a0)) :: .a (.u) :: .a (.i .i64 (0 : Int)) :: .a (.i .i64 (IntKind.i64.wrap ((len64 (IntKind.u64.wrap a0)) - (1 : Int)))) :: .a (.i .i64 ((a0).fdiv (2 ^ (min ((IntKind.i64.wrap ((IntKind.i64.wrap ((len64 (IntKind.u64.wrap a0)) - (1 : Int))) - (30 : Int)))).toNat IntKind.i64.bits)))) :: .a (.i .i64 (0 : Int)) :: .a (.i .i64 (a0)) :: .a (.i .u64 (IntKind.u64.wrap a0)) :: .a (.i .i64 (len64 (IntKind.u64.wrap a0))) :: .a (.i .i64 (IntKind.i64.wrap ((len64 (IntKind.u64.wrap a0)) - (1 : Int)))) :: .a (.i .i64 (a0)) :: .a (.i .i64 (IntKind.i64.wrap ((len64 (IntKind.u64.wrap a0)) - (1 : Int)))) :: .a (.b (decide ((IntKind.i64.wrap ((len64 (IntKind.u64.wrap a0)) - (1 : Int))) > (30 : Int)))) :: .a (.i .i64 (a0)) :: .a (.i .i64 (IntKind.i64.wrap ((len64 (IntKind.u64.wrap a0)) - (1 : Int)))) :: .a (.i .i64 (IntKind.i64.wrap ((IntKind.i64.wrap ((len64 (IntKind.u64.wrap a0)) - (1 : Int))) - (30 : Int)))) :: .a (.i .i64 ((a0).fdiv (2 ^ (min ((IntKind.i64.wrap ((IntKind.i64.wrap ((len64 (IntKind.u64.wrap a0)) - (1 : Int))) - (30 : Int)))).toNat IntKind.i64.bits)))) :: us 21 ([]), [], []⟩ : St)

noncomputable def impl_logOf_e0 : Int × Int × Int × Int → LS
  | (y0_2, y0_3, y0_4, y0_5) => ([.a (.i .i64 (y0_2)), .a (.i .i64 (y0_3)), .a (.i .i64 (y0_4)), .a (.i .i64 (y0_5))], [])

noncomputable def impl_logOf_x0 : Int × Int × Int × Int → Exit × LS
  | t => (.ret, impl_logOf_e0 t)

noncomputable def impl_logOf_g0 (P : Program) (a0 : Int) : Int × Int × Int × Int → Option (Stp (Int × Int × Int × Int) (Int × Int × Int × Int))
  | (y0_2, y0_3, y0_4, y0_5) => bif decide ((((IntKind.i64.wrap (y0_4 * y0_4))).fdiv (2 ^ (min ((30 : Int)).toNat IntKind.i64.bits))) ≥ (2147483648 : Int)) then (bif decide ((IntKind.i64.wrap (y0_5 + (1 : Int))) < (4 : Int)) then (some (.more (y0_2, (IntKind.i64.wrap ((IntKind.i64.wrap (y0_3 * (2 : Int))) + (1 : Int))), (IntKind.i64.wrap (((((IntKind.i64.wrap (y0_4 * y0_4))).fdiv (2 ^ (min ((30 : Int)).toNat IntKind.i64.bits)))).tdiv (2 : Int))), (IntKind.i64.wrap (y0_5 + (1 : Int))))))
      else (some (.done ((IntKind.i64.wrap ((IntKind.i64.wrap (y0_3 * (2 : Int))) + (1 : Int))), (IntKind.i64.wrap ((IntKind.i64.wrap (y0_3 * (2 : Int))) + (1 : Int))), (IntKind.i64.wrap (((((IntKind.i64.wrap (y0_4 * y0_4))).fdiv (2 ^ (min ((30 : Int)).toNat IntKind.i64.bits)))).tdiv (2 : Int))), (IntKind.i64.wrap (y0_5 + (1 : Int)))))))
    else (bif decide ((IntKind.i64.wrap (y0_5 + (1 : Int))) < (4 : Int)) then (some (.more (y0_2, (IntKind.i64.wrap (y0_3 * (2 : Int))), (((IntKind.i64.wrap (y0_4 * y0_4))).fdiv (2 ^ (min ((30 : Int)).toNat IntKind.i64.bits))), (IntKind.i64.wrap (y0_5 + (1 : Int))))))
      else (some (.done ((IntKind.i64.wrap (y0_3 * (2 : Int))), (IntKind.i64.wrap (y0_3 * (2 : Int))), (((IntKind.i64.wrap (y0_4 * y0_4))).fdiv (2 ^ (min ((30 : Int)).toNat IntKind.i64.bits))), (IntKind.i64.wrap (y0_5 + (1 : Int)))))))

theorem impl_logOf_s0 (N : Nat) (a0 : Int) : ∀ t : Int × Int × Int × Int, stepVJ Try.prog (mkΓ [(58, con math_bits_Len64_con)]) N (cAt (codeOf Try.f39) [1, 0, 1, 1, 1, 1, 1]) (pAt (mkPlan (codeOf Try.f39) [([2, 3, 4, 5], [])]).1 [1, 1, 1, 1, 1]) 0 [2, 3, 4, 5] [] (impl_logOf_t0 a0) (impl_logOf_e0 t) = mapS impl_logOf_e0 impl_logOf_x0 (impl_logOf_g0 Try.prog a0 t) := by
  rintro ⟨y0_2, y0_3, y0_4, y0_5⟩
  refine Eq.trans (b := (bif decide ((((IntKind.i64.wrap (y0_4 * y0_4))).fdiv (2 ^ (min ((30 : Int)).toNat IntKind.i64.bits))) ≥ (2147483648 : Int)) then (bif decide ((IntKind.i64.wrap (y0_5 + (1 : Int))) < (4 : Int)) then (some (.more ([.a (.i .i64 (y0_2)), .a (.i .i64 (IntKind.i64.wrap ((IntKind.i64.wrap (y0_3 * (2 : Int))) + (1 : Int)))), .a (.i .i64 (IntKind.i64.wrap (((((IntKind.i64.wrap (y0_4 * y0_4))).fdiv (2 ^ (min ((30 : Int)).toNat IntKind.i64.bits)))).tdiv (2 : Int)))), .a (.i .i64 (IntKind.i64.wrap (y0_5 + (1 : Int))))], [])))
      else (some (.done (.ret, ([.a (.i .i64 (IntKind.i64.wrap ((IntKind.i64.wrap (y0_3 * (2 : Int))) + (1 : Int)))), .a (.i .i64 (IntKind.i64.wrap ((IntKind.i64.wrap (y0_3 * (2 : Int))) + (1 : Int)))), .a (.i .i64 (IntKind.i64.wrap (((((IntKind.i64.wrap (y0_4 * y0_4))).fdiv (2 ^ (min ((30 : Int)).toNat IntKind.i64.bits)))).tdiv (2 : Int)))), .a (.i .i64 (IntKind.i64.wrap (y0_5 + (1 : Int))))], [])))))
    else (bif decide ((IntKind.i64.wrap (y0_5 + (1 : Int))) < (4 : Int)) then (some (.more ([.a (.i .i64 (y0_2)), .a (.i .i64 (IntKind.i64.wrap (y0_3 * (2 : Int)))), .a (.i .i64 (((IntKind.i64.wrap (y0_4 * y0_4))).fdiv (2 ^ (min ((30 : Int)).toNat IntKind.i64.bits)))), .a (.i .i64 (IntKind.i64.wrap (y0_5 + (1 : Int))))], [])))
      else (some (.done (.ret, ([.a (.i .i64 (IntKind.i64.wrap (y0_3 * (2 : Int)))), .a (.i .i64 (IntKind.i64.wrap (y0_3 * (2 : Int)))), .a (.i .i64 (((IntKind.i64.wrap (y0_4 * y0_4))).fdiv (2 ^ (min ((30 : Int)).toNat IntKind.i64.bits)))), .a (.i .i64 (IntKind.i64.wrap (y0_5 + (1 : Int))))], []))))))) (by kernel_rfl) ?_
  simp only [impl_logOf_g0, mapS_cond, mapS_more, mapS_done, mapS_none, impl_logOf_e0, impl_logOf_x0]

noncomputable def impl_logOf_k0_0 (P : Program) (N : Nat) (a0 : Int) (z0_2 : Int) (z0_3 : Int) (z0_4 : Int) (z0_5 : Int) : Option (SV × Eff × Bool) := some (.a (.i .i64 (z0_2)), .none, true)

theorem impl_logOf_k0_0_eq (N : Nat) (a0 : Int) (z0_2 : Int) (z0_3 : Int) (z0_4 : Int) (z0_5 : Int) : (kScope (finK Try.prog [] [.tmp 2])) .ret (left (writes (cAt (codeOf Try.f39) [1, 0, 1, 1, 1, 1, 1])) [2, 3, 4, 5] [] (impl_logOf_t0 a0) ([.a (.i .i64 (z0_2)), .a (.i .i64 (z0_3)), .a (.i .i64 (z0_4)), .a (.i .i64 (z0_5))], [])) = impl_logOf_k0_0 Try.prog N a0 z0_2 z0_3 z0_4 z0_5 := by
  refine Eq.trans (b := (some (.a (.i .i64 (z0_2)), .none, true))) (by kernel_rfl) ?_
  rfl

theorem impl_logOf_n0 (N : Nat) (a0 : Int) : bindX (iterO (stepVJ Try.prog (mkΓ [(58, con math_bits_Len64_con)]) N (cAt (codeOf Try.f39) [1, 0, 1, 1, 1, 1, 1]) (pAt (mkPlan (codeOf Try.f39) [([2, 3, 4, 5], [])]).1 [1, 1, 1, 1, 1]) 0 [2, 3, 4, 5] [] (impl_logOf_t0 a0)) N ([.a (.i .i64 (0 : Int)), .a (.i .i64 (IntKind.i64.wrap ((len64 (IntKind.u64.wrap a0)) - (1 : Int)))), .a (.i .i64 ((a0).fdiv (2 ^ (min ((IntKind.i64.wrap ((IntKind.i64.wrap ((len64 (IntKind.u64.wrap a0)) - (1 : Int))) - (30 : Int)))).toNat IntKind.i64.bits)))), .a (.i .i64 (0 : Int))], [])) (fun e s => (kScope (finK Try.prog [] [.tmp 2])) e (left (writes (cAt (codeOf Try.f39) [1, 0, 1, 1, 1, 1, 1])) [2, 3, 4, 5] [] (impl_logOf_t0 a0) s)) = nodeX (iterO (impl_logOf_g0 Try.prog a0) N ((0 : Int), (IntKind.i64.wrap ((len64 (IntKind.u64.wrap a0)) - (1 : Int))), ((a0).fdiv (2 ^ (min ((IntKind.i64.wrap ((IntKind.i64.wrap ((len64 (IntKind.u64.wrap a0)) - (1 : Int))) - (30 : Int)))).toNat IntKind.i64.bits))), (0 : Int))) (fun x => impl_logOf_k0_0 Try.prog N a0 x.1 x.2.1 x.2.2.1 x.2.2.2) := by
  refine loop_node impl_logOf_e0 impl_logOf_x0 _ _ (impl_logOf_s0 N a0) N ((0 : Int), (IntKind.i64.wrap ((len64 (IntKind.u64.wrap a0)) - (1 : Int))), ((a0).fdiv (2 ^ (min ((IntKind.i64.wrap ((IntKind.i64.wrap ((len64 (IntKind.u64.wrap a0)) - (1 : Int))) - (30 : Int)))).toNat IntKind.i64.bits))), (0 : Int)) _ _ ?_
  intro x; exact impl_logOf_k0_0_eq N a0 x.1 x.2.1 x.2.2.1 x.2.2.2

noncomputable def impl_logOf_t0v1 (a0 : Int) : St := (⟨.a (.i .i64 (a0)) :: .a (.u) :: .a (.i .i64 (0 : Int)) :: .a (.i .i64 (IntKind.i64.wrap ((len64 (IntKind.u64.wrap a0)) - (1 : Int)))) :: .a (.i .i64 (IntKind.i64.wrap (a0 * 2 ^ (min ((IntKind.i64.wrap ((30 : Int) - (IntKind.i64.wrap ((len64 (IntKind.u64.wrap a0)) - (1 : Int)))))).toNat IntKind.i64.bits)))) :: .a (.i .i64 (0 : Int)) :: .a (.i .i64 (a0)) :: .a (.i .u64 (IntKind.u64.wrap a0)) :: .a (.i .i64 (len64 (IntKind.u64.wrap a0))) :: .a (.i .i64 (IntKind.i64.wrap ((len64 (IntKind.u64.wrap a0)) - (1 : Int)))) :: .a (.i .i64 (a0)) :: .a (.i .i64 (IntKind.i64.wrap ((len64 (IntKind.u64.wrap a0)) - (1 : Int)))) :: .a (.b (decide ((IntKind.i64.wrap ((len64 (IntKind.u64.wrap a0)) - (1 : Int))) > (30 : Int)))) :: us 4 (.a (.i .i64 (a0)) :: .a (.i .i64 (IntKind.i64.wrap ((len64 (IntKind.u64.wrap a0)) - (1 : Int)))) :: .a (.i .i64 (IntKind.i64.wrap ((30 : Int) - (IntKind.i64.wrap ((len64 (IntKind.u64.wrap a0)) - (1 : Int)))))) :: .a (.i .i64 (IntKind.i64.wrap (a0 * 2 ^ (min ((IntKind.i64.wrap ((30 : Int) - (IntKind.i64.wrap ((len64 (IntKind.u64.wrap a0)) - (1 : Int)))))).toNat IntKind.i64.bits)))) :: us 17 ([])), [], []⟩ : St)

noncomputable def impl_logOf_e0v1 : Int × Int × Int × Int → LS
  | (y0v1_2, y0v1_3, y0v1_4, y0v1_5) => ([.a (.i .i64 (y0v1_2)), .a (.i .i64 (y0v1_3)), .a (.i .i64 (y0v1_4)), .a (.i .i64 (y0v1_5))], [])

noncomputable def impl_logOf_x0v1 : Int × Int × Int × Int → Exit × LS
  | t => (.ret, impl_logOf_e0v1 t)

noncomputable def impl_logOf_g0v1 (P : Program) (a0 : Int) : Int × Int × Int × Int → Option (Stp (Int × Int × Int × Int) (Int × Int × Int × Int))
  | (y0v1_2, y0v1_3, y0v1_4, y0v1_5) => bif decide ((((IntKind.i64.wrap (y0v1_4 * y0v1_4))).fdiv (2 ^ (min ((30 : Int)).toNat IntKind.i64.bits))) ≥ (2147483648 : Int)) then (bif decide ((IntKind.i64.wrap (y0v1_5 + (1 : Int))) < (4 : Int)) then (some (.more (y0v1_2, (IntKind.i64.wrap ((IntKind.i64.wrap (y0v1_3 * (2 : Int))) + (1 : Int))), (IntKind.i64.wrap (((((IntKind.i64.wrap (y0v1_4 * y0v1_4))).fdiv (2 ^ (min ((30 : Int)).toNat IntKind.i64.bits)))).tdiv (2 : Int))), (IntKind.i64.wrap (y0v1_5 + (1 : Int))))))
      else (some (.done ((IntKind.i64.wrap ((IntKind.i64.wrap (y0v1_3 * (2 : Int))) + (1 : Int))), (IntKind.i64.wrap ((IntKind.i64.wrap (y0v1_3 * (2 : Int))) + (1 : Int))), (IntKind.i64.wrap (((((IntKind.i64.wrap (y0v1_4 * y0v1_4))).fdiv (2 ^ (min ((30 : Int)).toNat IntKind.i64.bits)))).tdiv (2 : Int))), (IntKind.i64.wrap (y0v1_5 + (1 : Int)))))))
    else (bif decide ((IntKind.i64.wrap (y0v1_5 + (1 : Int))) < (4 : Int)) then (some (.more (y0v1_2, (IntKind.i64.wrap (y0v1_3 * (2 : Int))), (((IntKind.i64.wrap (y0v1_4 * y0v1_4))).fdiv (2 ^ (min ((30 : Int)).toNat IntKind.i64.bits))), (IntKind.i64.wrap (y0v1_5 + (1 : Int))))))
      else (some (.done ((IntKind.i64.wrap (y0v1_3 * (2 : Int))), (IntKind.i64.wrap (y0v1_3 * (2 : Int))), (((IntKind.i64.wrap (y0v1_4 * y0v1_4))).fdiv (2 ^ (min ((30 : Int)).toNat IntKind.i64.bits))), (IntKind.i64.wrap (y0v1_5 + (1 : Int)))))))

theorem impl_logOf_s0v1 (N : Nat) (a0 : Int) : ∀ t : Int × Int × Int × Int, stepVJ Try.prog (mkΓ [(58, con math_bits_Len64_con)]) N (cAt (codeOf Try.f39) [1, 0, 1, 1, 1, 1, 1]) (pAt (mkPlan (codeOf Try.f39) [([2, 3, 4, 5], [])]).1 [1, 1, 1, 1, 1]) 0 [2, 3, 4, 5] [] (impl_logOf_t0v1 a0) (impl_logOf_e0v1 t) = mapS impl_logOf_e0v1 impl_logOf_x0v1 (impl_logOf_g0v1 Try.prog a0 t) := by
  rintro ⟨y0v1_2, y0v1_3, y0v1_4, y0v1_5⟩
  refine Eq.trans (b := (bif decide ((((IntKind.i64.wrap (y0v1_4 * y0v1_4))).fdiv (2 ^ (min ((30 : Int)).toNat IntKind.i64.bits))) ≥ (2147483648 : Int)) then (bif decide ((IntKind.i64.wrap (y0v1_5 + (1 : Int))) < (4 : Int)) then (some (.more ([.a (.i .i64 (y0v1_2)), .a (.i .i64 (IntKind.i64.wrap ((IntKind.i64.wrap (y0v1_3 * (2 : Int))) + (1 : Int)))), .a (.i .i64 (IntKind.i64.wrap (((((IntKind.i64.wrap (y0v1_4 * y0v1_4))).fdiv (2 ^ (min ((30 : Int)).toNat IntKind.i64.bits)))).tdiv (2 : Int)))), .a (.i .i64 (IntKind.i64.wrap (y0v1_5 + (1 : Int))))], [])))
      else (some (.done (.ret, ([.a (.i .i64 (IntKind.i64.wrap ((IntKind.i64.wrap (y0v1_3 * (2 : Int))) + (1 : Int)))), .a (.i .i64 (IntKind.i64.wrap ((IntKind.i64.wrap (y0v1_3 * (2 : Int))) + (1 : Int)))), .a (.i .i64 (IntKind.i64.wrap (((((IntKind.i64.wrap (y0v1_4 * y0v1_4))).fdiv (2 ^ (min ((30 : Int)).toNat IntKind.i64.bits)))).tdiv (2 : Int)))), .a (.i .i64 (IntKind.i64.wrap (y0v1_5 + (1 : Int))))], [])))))
    else (bif decide ((IntKind.i64.wrap (y0v1_5 + (1 : Int))) < (4 : Int)) then (some (.more ([.a (.i .i64 (y0v1_2)), .a (.i .i64 (IntKind.i64.wrap (y0v1_3 * (2 : Int)))), .a (.i .i64 (((IntKind.i64.wrap (y0v1_4 * y0v1_4))).fdiv (2 ^ (min ((30 : Int)).toNat IntKind.i64.bits)))), .a (.i .i64 (IntKind.i64.wrap (y0v1_5 + (1 : Int))))], [])))
      else (some (.done (.ret, ([.a (.i .i64 (IntKind.i64.wrap (y0v1_3 * (2 : Int)))), .a (.i .i64 (IntKind.i64.wrap (y0v1_3 * (2 : Int)))), .a (.i .i64 (((IntKind.i64.wrap (y0v1_4 * y0v1_4))).fdiv (2 ^ (min ((30 : Int)).toNat IntKind.i64.bits)))), .a (.i .i64 (IntKind.i64.wrap (y0v1_5 + (1 : Int))))], []))))))) (by kernel_rfl) ?_
  simp only [impl_logOf_g0v1, mapS_cond, mapS_more, mapS_done, mapS_none, impl_logOf_e0v1, impl_logOf_x0v1]

noncomputable def impl_logOf_k0v1_0 (P : Program) (N : Nat) (a0 : Int) (z0v1_2 : Int) (z0v1_3 : Int) (z0v1_4 : Int) (z0v1_5 : Int) : Option (SV × Eff × Bool) := some (.a (.i .i64 (z0v1_2)), .none, true)

theorem impl_logOf_k0v1_0_eq (N : Nat) (a0 : Int) (z0v1_2 : Int) (z0v1_3 : Int) (z0v1_4 : Int) (z0v1_5 : Int) : (kScope (finK Try.prog [] [.tmp 2])) .ret (left (writes (cAt (codeOf Try.f39) [1, 0, 1, 1, 1, 1, 1])) [2, 3, 4, 5] [] (impl_logOf_t0v1 a0) ([.a (.i .i64 (z0v1_2)), .a (.i .i64 (z0v1_3)), .a (.i .i64 (z0v1_4)), .a (.i .i64 (z0v1_5))], [])) = impl_logOf_k0v1_0 Try.prog N a0 z0v1_2 z0v1_3 z0v1_4 z0v1_5 := by
  refine Eq.trans (b := (some (.a (.i .i64 (z0v1_2)), .none, true))) (by kernel_rfl) ?_
  rfl

theorem impl_logOf_n0v1 (N : Nat) (a0 : Int) : bindX (iterO (stepVJ Try.prog (mkΓ [(58, con math_bits_Len64_con)]) N (cAt (codeOf Try.f39) [1, 0, 1, 1, 1, 1, 1]) (pAt (mkPlan (codeOf Try.f39) [([2, 3, 4, 5], [])]).1 [1, 1, 1, 1, 1]) 0 [2, 3, 4, 5] [] (impl_logOf_t0v1 a0)) N ([.a (.i .i64 (0 : Int)), .a (.i .i64 (IntKind.i64.wrap ((len64 (IntKind.u64.wrap a0)) - (1 : Int)))), .a (.i .i64 (IntKind.i64.wrap (a0 * 2 ^ (min ((IntKind.i64.wrap ((30 : Int) - (IntKind.i64.wrap ((len64 (IntKind.u64.wrap a0)) - (1 : Int)))))).toNat IntKind.i64.bits)))), .a (.i .i64 (0 : Int))], [])) (fun e s => (kScope (finK Try.prog [] [.tmp 2])) e (left (writes (cAt (codeOf Try.f39) [1, 0, 1, 1, 1, 1, 1])) [2, 3, 4, 5] [] (impl_logOf_t0v1 a0) s)) = nodeX (iterO (impl_logOf_g0v1 Try.prog a0) N ((0 : Int), (IntKind.i64.wrap ((len64 (IntKind.u64.wrap a0)) - (1 : Int))), (IntKind.i64.wrap (a0 * 2 ^ (min ((IntKind.i64.wrap ((30 : Int) - (IntKind.i64.wrap ((len64 (IntKind.u64.wrap a0)) - (1 : Int)))))).toNat IntKind.i64.bits))), (0 : Int))) (fun x => impl_logOf_k0v1_0 Try.prog N a0 x.1 x.2.1 x.2.2.1 x.2.2.2) := by
  refine loop_node impl_logOf_e0v1 impl_logOf_x0v1 _ _ (impl_logOf_s0v1 N a0) N ((0 : Int), (IntKind.i64.wrap ((len64 (IntKind.u64.wrap a0)) - (1 : Int))), (IntKind.i64.wrap (a0 * 2 ^ (min ((IntKind.i64.wrap ((30 : Int) - (IntKind.i64.wrap ((len64 (IntKind.u64.wrap a0)) - (1 : Int)))))).toNat IntKind.i64.bits))), (0 : Int)) _ _ ?_
  intro x; exact impl_logOf_k0v1_0_eq N a0 x.1 x.2.1 x.2.2.1 x.2.2.2

theorem impl_logOf_ans (N : Nat) (a0 : Int) : ansV Try.prog (mkΓ [(58, con math_bits_Len64_con)]) N Try.f39 [([2, 3, 4, 5], [])] [.i .i64 (a0)] [] = (bif decide ((IntKind.i64.wrap ((len64 (IntKind.u64.wrap a0)) - (1 : Int))) > (30 : Int)) then (bif decide (0 ≤ (IntKind.i64.wrap ((IntKind.i64.wrap ((len64 (IntKind.u64.wrap a0)) - (1 : Int))) - (30 : Int)))) then (nodeX (iterO (impl_logOf_g0 Try.prog a0) N ((0 : Int), (IntKind.i64.wrap ((len64 (IntKind.u64.wrap a0)) - (1 : Int))), ((a0).fdiv (2 ^ (min ((IntKind.i64.wrap ((IntKind.i64.wrap ((len64 (IntKind.u64.wrap a0)) - (1 : Int))) - (30 : Int)))).toNat IntKind.i64.bits))), (0 : Int))) (fun x => impl_logOf_k0_0 Try.prog N a0 x.1 x.2.1 x.2.2.1 x.2.2.2))
      else (none))
    else (bif decide (0 ≤ (IntKind.i64.wrap ((30 : Int) - (IntKind.i64.wrap ((len64 (IntKind.u64.wrap a0)) - (1 : Int)))))) then (nodeX (iterO (impl_logOf_g0v1 Try.prog a0) N ((0 : Int), (IntKind.i64.wrap ((len64 (IntKind.u64.wrap a0)) - (1 : Int))), (IntKind.i64.wrap (a0 * 2 ^ (min ((IntKind.i64.wrap ((30 : Int) - (IntKind.i64.wrap ((len64 (IntKind.u64.wrap a0)) - (1 : Int)))))).toNat IntKind.i64.bits))), (0 : Int))) (fun x => impl_logOf_k0v1_0 Try.prog N a0 x.1 x.2.1 x.2.2.1 x.2.2.2))
      else (none))) := by
  refine Eq.trans (b := (bif decide ((IntKind.i64.wrap ((len64 (IntKind.u64.wrap a0)) - (1 : Int))) > (30 : Int)) then (bif decide (0 ≤ (IntKind.i64.wrap ((IntKind.i64.wrap ((len64 (IntKind.u64.wrap a0)) - (1 : Int))) - (30 : Int)))) then (bindX (iterO (stepVJ Try.prog (mkΓ [(58, con math_bits_Len64_con)]) N (cAt (codeOf Try.f39) [1, 0, 1, 1, 1, 1, 1]) (pAt (mkPlan (codeOf Try.f39) [([2, 3, 4, 5], [])]).1 [1, 1, 1, 1, 1]) 0 [2, 3, 4, 5] [] (impl_logOf_t0 a0)) N ([.a (.i .i64 (0 : Int)), .a (.i .i64 (IntKind.i64.wrap ((len64 (IntKind.u64.wrap a0)) - (1 : Int)))), .a (.i .i64 ((a0).fdiv (2 ^ (min ((IntKind.i64.wrap ((IntKind.i64.wrap ((len64 (IntKind.u64.wrap a0)) - (1 : Int))) - (30 : Int)))).toNat IntKind.i64.bits)))), .a (.i .i64 (0 : Int))], [])) (fun e s => (kScope (finK Try.prog [] [.tmp 2])) e (left (writes (cAt (codeOf Try.f39) [1, 0, 1, 1, 1, 1, 1])) [2, 3, 4, 5] [] (impl_logOf_t0 a0) s)))
      else (none))
    else (bif decide (0 ≤ (IntKind.i64.wrap ((30 : Int) - (IntKind.i64.wrap ((len64 (IntKind.u64.wrap a0)) - (1 : Int)))))) then (bindX (iterO (stepVJ Try.prog (mkΓ [(58, con math_bits_Len64_con)]) N (cAt (codeOf Try.f39) [1, 0, 1, 1, 1, 1, 1]) (pAt (mkPlan (codeOf Try.f39) [([2, 3, 4, 5], [])]).1 [1, 1, 1, 1, 1]) 0 [2, 3, 4, 5] [] (impl_logOf_t0v1 a0)) N ([.a (.i .i64 (0 : Int)), .a (.i .i64 (IntKind.i64.wrap ((len64 (IntKind.u64.wrap a0)) - (1 : Int)))), .a (.i .i64 (IntKind.i64.wrap (a0 * 2 ^ (min ((IntKind.i64.wrap ((30 : Int) - (IntKind.i64.wrap ((len64 (IntKind.u64.wrap a0)) - (1 : Int)))))).toNat IntKind.i64.bits)))), .a (.i .i64 (0 : Int))], [])) (fun e s => (kScope (finK Try.prog [] [.tmp 2])) e (left (writes (cAt (codeOf Try.f39) [1, 0, 1, 1, 1, 1, 1])) [2, 3, 4, 5] [] (impl_logOf_t0v1 a0) s)))
      else (none)))) (by kernel_rfl) ?_
  simp only [impl_logOf_n0 N a0, impl_logOf_n0v1 N a0]

theorem impl_logOf_main (a0 : Int) (h_a0 : IntKind.i64.min ≤ a0 ∧ a0 ≤ IntKind.i64.max) (hg : (decide (1 ≤ a0)) = true) : ansV Try.prog (mkΓ [(58, con math_bits_Len64_con)]) 1000 Try.f39 [([2, 3, 4, 5], [])] [.i .i64 (a0)] [] = some (.a (.i .i64 (lg a0)), .none, true) := by
  have h0 : 1 ≤ a0 := of_decide_eq_true hg
  obtain ⟨m, rfl⟩ := Int.eq_ofNat_of_zero_le (show 0 ≤ a0 by omega)
  have hm0 : m ≠ 0 := by omega
  have hmx : m ≤ 9223372036854775807 := by have := h_a0.2; have e : IntKind.i64.max = 9223372036854775807 := rfl; omega
  refine (impl_logOf_ans 1000 _).trans ?_
  have hk := log2_62 hm0 hmx
  have hb : IntKind.i64.bits = 64 := rfl
  have u : IntKind.u64.wrap (m : Int) = (m : Int) := by rw [IntKind.wrap_u64]; omega
  have hlg : lg (m : Int) = 16 * (Nat.log2 m : Int) + dg (lgx (Nat.log2 m) (m : Int)) 4 := by unfold lg; rw [Int.toNat_natCast]
  rw [u, len64_nat, if_neg hm0, hlg]
  generalize hkk : Nat.log2 m = k at hk
  have e1 : IntKind.i64.wrap ((k : Int) + 1 - 1) = (k : Int) := by rw [IntWalk.i64_in _ (by omega)]; omega
  rw [e1]
  unfold lgx
  by_cases hc : 30 < k
  · rw [decide_eq_true (show (k : Int) > 30 by omega)]
    simp only [cond_true]
    have e0 : IntKind.i64.wrap ((k : Int) - 30) = ((k - 30 : Nat) : Int) := by rw [IntWalk.i64_in _ (by omega)]; omega
    rw [e0, decide_eq_true (by omega), cond_true, Int.toNat_natCast, hb]
    generalize ((m : Int)).fdiv (2 ^ (min (k - 30) 64)) = x0
    have r := (by
    have h := iter_all (g := impl_logOf_g0 Try.prog (m : Int)) (fun i => ((0 : Int), lgL k x0 i, xsq x0 i, (i : Int))) (m := 3) (x := (lgL k x0 4, lgL k x0 4, xsq x0 4, (4 : Int))) (N := 1000) (fun i hi => by
      have h1 : decide (((i + 1 : Nat) : Int) < 4) = true := decide_eq_true (by omega)
      have h3 : IntKind.i64.wrap ((i : Int) + 1) = ((i + 1 : Nat) : Int) := by rw [IntWalk.i64_in _ (by omega)]; omega
      have hb := lgL_bound k x0 (by omega) i (by omega)
      have h4 : IntKind.i64.wrap (lgL k x0 i * 2) = lgL k x0 i * 2 := IntWalk.i64_in _ (by omega)
      have h5 : IntKind.i64.wrap (lgL k x0 i * 2 + 1) = lgL k x0 i * 2 + 1 := IntWalk.i64_in _ (by omega)
      show impl_logOf_g0 Try.prog (m : Int) ((0 : Int), lgL k x0 i, xsq x0 i, (i : Int)) = some (.more ((0 : Int), 2 * lgL k x0 i + xbit (xsq x0 i), xnx (xsq x0 i), ((i + 1 : Nat) : Int)))
      have hq : ((IntKind.i64.wrap (xsq x0 i * xsq x0 i))).fdiv (2 ^ (min ((30 : Int)).toNat IntKind.i64.bits)) = xq (xsq x0 i) := rfl
      simp only [impl_logOf_g0, hq, h3, h1, h4, h5]
      unfold xnx xbit xbig
      by_cases hbig : xq (xsq x0 i) ≥ 2147483648
      · rw [decide_eq_true hbig]
        simp only [cond_true, (xhalf hbig).1]
        rw [show lgL k x0 i * 2 + 1 = 2 * lgL k x0 i + 1 by omega]
      · rw [decide_eq_false hbig]
        simp only [cond_false, cond_true]
        rw [show lgL k x0 i * 2 = 2 * lgL k x0 i + 0 by omega]) (by
      have h3 : IntKind.i64.wrap (((3 : Nat) : Int) + 1) = 4 := by decide
      have h1 : decide ((4 : Int) < 4) = false := by decide
      have hb := lgL_bound k x0 (by omega) 3 (by omega)
      have h4 : IntKind.i64.wrap (lgL k x0 3 * 2) = lgL k x0 3 * 2 := IntWalk.i64_in _ (by omega)
      have h5 : IntKind.i64.wrap (lgL k x0 3 * 2 + 1) = lgL k x0 3 * 2 + 1 := IntWalk.i64_in _ (by omega)
      have hq : ((IntKind.i64.wrap (xsq x0 3 * xsq x0 3))).fdiv (2 ^ (min ((30 : Int)).toNat IntKind.i64.bits)) = xq (xsq x0 3) := rfl
      have eL : lgL k x0 4 = 2 * lgL k x0 3 + xbit (xsq x0 3) := rfl
      have eX : xsq x0 4 = xnx (xsq x0 3) := rfl
      rw [eL, eX]
      simp only [impl_logOf_g0, hq, h3, h1, h4, h5]
      unfold xnx xbit xbig
      by_cases hbig : xq (xsq x0 3) ≥ 2147483648
      · rw [decide_eq_true hbig]
        simp only [cond_true, cond_false, (xhalf hbig).1]
        rw [show lgL k x0 3 * 2 + 1 = 2 * lgL k x0 3 + 1 by omega]
      · rw [decide_eq_false hbig]
        simp only [cond_false]
        rw [show lgL k x0 3 * 2 = 2 * lgL k x0 3 + 0 by omega]) (by omega)
    exact h)
    have r' : iterO (impl_logOf_g0 Try.prog (m : Int)) 1000 ((0 : Int), (k : Int), x0, (0 : Int)) = some (lgL k x0 4, lgL k x0 4, xsq x0 4, (4 : Int)) := r
    rw [r']
    show some (SV.a (SA.i .i64 (lgL k x0 4)), Eff.none, true) = _
    rw [lgL_4]
  · rw [decide_eq_false (show ¬ (k : Int) > 30 by omega)]
    simp only [cond_false]
    have e0 : IntKind.i64.wrap (30 - (k : Int)) = ((30 - k : Nat) : Int) := by rw [IntWalk.i64_in _ (by omega)]; omega
    rw [e0, decide_eq_true (by omega), cond_true, Int.toNat_natCast, hb]
    generalize IntKind.i64.wrap ((m : Int) * 2 ^ (min (30 - k) 64)) = x0
    have r := (by
    have h := iter_all (g := impl_logOf_g0v1 Try.prog (m : Int)) (fun i => ((0 : Int), lgL k x0 i, xsq x0 i, (i : Int))) (m := 3) (x := (lgL k x0 4, lgL k x0 4, xsq x0 4, (4 : Int))) (N := 1000) (fun i hi => by
      have h1 : decide (((i + 1 : Nat) : Int) < 4) = true := decide_eq_true (by omega)
      have h3 : IntKind.i64.wrap ((i : Int) + 1) = ((i + 1 : Nat) : Int) := by rw [IntWalk.i64_in _ (by omega)]; omega
      have hb := lgL_bound k x0 (by omega) i (by omega)
      have h4 : IntKind.i64.wrap (lgL k x0 i * 2) = lgL k x0 i * 2 := IntWalk.i64_in _ (by omega)
      have h5 : IntKind.i64.wrap (lgL k x0 i * 2 + 1) = lgL k x0 i * 2 + 1 := IntWalk.i64_in _ (by omega)
      show impl_logOf_g0v1 Try.prog (m : Int) ((0 : Int), lgL k x0 i, xsq x0 i, (i : Int)) = some (.more ((0 : Int), 2 * lgL k x0 i + xbit (xsq x0 i), xnx (xsq x0 i), ((i + 1 : Nat) : Int)))
      have hq : ((IntKind.i64.wrap (xsq x0 i * xsq x0 i))).fdiv (2 ^ (min ((30 : Int)).toNat IntKind.i64.bits)) = xq (xsq x0 i) := rfl
      simp only [impl_logOf_g0v1, hq, h3, h1, h4, h5]
      unfold xnx xbit xbig
      by_cases hbig : xq (xsq x0 i) ≥ 2147483648
      · rw [decide_eq_true hbig]
        simp only [cond_true, (xhalf hbig).1]
        rw [show lgL k x0 i * 2 + 1 = 2 * lgL k x0 i + 1 by omega]
      · rw [decide_eq_false hbig]
        simp only [cond_false, cond_true]
        rw [show lgL k x0 i * 2 = 2 * lgL k x0 i + 0 by omega]) (by
      have h3 : IntKind.i64.wrap (((3 : Nat) : Int) + 1) = 4 := by decide
      have h1 : decide ((4 : Int) < 4) = false := by decide
      have hb := lgL_bound k x0 (by omega) 3 (by omega)
      have h4 : IntKind.i64.wrap (lgL k x0 3 * 2) = lgL k x0 3 * 2 := IntWalk.i64_in _ (by omega)
      have h5 : IntKind.i64.wrap (lgL k x0 3 * 2 + 1) = lgL k x0 3 * 2 + 1 := IntWalk.i64_in _ (by omega)
      have hq : ((IntKind.i64.wrap (xsq x0 3 * xsq x0 3))).fdiv (2 ^ (min ((30 : Int)).toNat IntKind.i64.bits)) = xq (xsq x0 3) := rfl
      have eL : lgL k x0 4 = 2 * lgL k x0 3 + xbit (xsq x0 3) := rfl
      have eX : xsq x0 4 = xnx (xsq x0 3) := rfl
      rw [eL, eX]
      simp only [impl_logOf_g0v1, hq, h3, h1, h4, h5]
      unfold xnx xbit xbig
      by_cases hbig : xq (xsq x0 3) ≥ 2147483648
      · rw [decide_eq_true hbig]
        simp only [cond_true, cond_false, (xhalf hbig).1]
        rw [show lgL k x0 3 * 2 + 1 = 2 * lgL k x0 3 + 1 by omega]
      · rw [decide_eq_false hbig]
        simp only [cond_false]
        rw [show lgL k x0 3 * 2 = 2 * lgL k x0 3 + 0 by omega]) (by omega)
    exact h)
    have r' : iterO (impl_logOf_g0v1 Try.prog (m : Int)) 1000 ((0 : Int), (k : Int), x0, (0 : Int)) = some (lgL k x0 4, lgL k x0 4, xsq x0 4, (4 : Int)) := r
    rw [r']
    show some (SV.a (SA.i .i64 (lgL k x0 4)), Eff.none, true) = _
    rw [lgL_4]
noncomputable def impl_logOf_con : Con := fun args h => match args, h with
  | [.i .i64 a0], [] => some (.a (.i .i64 (lg a0)), .none, decide (1 ≤ a0))
  | _, _ => none
theorem impl_logOf_enter : ∀ args w, (callFunc 39 args).run Try.prog w = .ok (.enter 39 args) w := enter_ok (fn := Try.f39) (by kernel_rfl) (by kernel_rfl) (by kernel_rfl)
theorem impl_logOf_ok : ConOk Try.prog 39 impl_logOf_con := (ans_ok (N := 1000) (by kernel_rfl) (mkΓ_cons (con_ok math_bits_Len64_ok) math_bits_Len64_enter mkΓ_nil) (fn := Try.f39) (by kernel_rfl) (by kernel_rfl) [([2, 3, 4, 5], [])]).of (by
  intro ρ h w args vals r e hA hH hr
  unfold impl_logOf_con at hr
  split at hr
  · rename_i a0
    obtain ⟨rfl, hg⟩ := Prod.mk.inj (Option.some.inj hr)
    obtain ⟨rfl, hg2⟩ := Prod.mk.inj hg
    exact impl_logOf_main a0 (hA.rng 0 rfl) hg2
  · cases hr)

end
end Go.Proofs.Ythpcidnfbceliaa
