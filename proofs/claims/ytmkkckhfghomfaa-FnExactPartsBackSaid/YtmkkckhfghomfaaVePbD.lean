/- Going forward and going backward. -/
import Derived.Test.YtmkkckhfghomfaaProg
import Derived.Test.YtmkkckhfghomfaaVePbC
namespace Go.Proofs.Ytmkkckhfghomfaa
open Go.ChangeShapes Go.WideShapes Go.ChangeAt Go.RowKit Ve
set_option linter.unusedVariables false
set_option linter.unusedSimpArgs false
set_option maxRecDepth 100000
noncomputable section

theorem cell_dot {S : Array Value} (hS : WT Try.prog 36 S) (h0 : 1 ≤ num S 0 ∧ num S 0 ≤ 6 ∧ 1 ≤ num S 1 ∧ num S 1 ≤ 6) {t : Int} (ht : 0 ≤ t ∧ t < 2) {r : Array Value} (hz : ∀ k, k < 36 → inC (num S 0) (num S 1) k = false → num r k = 0) (X : Array Value) {s : Array Value} (hs : s.size = 40) {k : Nat} (hk : k < 36) :
    cg (dot (cellF S X t s k) r) (dot s r + num X (3 + k) * num (rowF Try.prog sumL S r t) (k * 1)) := by
  rw [rowF_at sumL S r t hk]
  unfold cellF
  rw [(wet_all hS hk).2]
  cases hi : inC (num S 0) (num S 1) k with
  | false =>
    simp only [Bool.false_and, cond_false, Bool.false_eq_true, if_false, Nat.mul_one]
    refine (dot_ad hs hk _).trans (cg.of_eq ?_)
    rw [hz k hk hi]; omega
  | true =>
    simp only [Bool.true_and, if_true]
    unfold stL
    rw [dry_land hS hk]
    cases hd : impl_isLand_v0 S (k : Int) with
    | true =>
      simp only [Bool.not_true, cond_false, cond_true, Nat.mul_one]
      refine (dot_ad hs hk _).trans (cg.add (cg.refl _) ?_)
      have e : sumL [((k : Int), 12)] r = IntKind.i64.wrap (0 + IntKind.i64.wrap (12 * laterOf r (k : Int))) := rfl
      have e2 : laterOf r (k : Int) = num r k := by unfold laterOf; rw [Int.toNat_natCast, Nat.mul_one]
      rw [e, e2]
      have h1 : cg (IntKind.i64.wrap (num X (3 + k) * 12) * num r k) (num X (3 + k) * 12 * num r k) := (cg_wrap _).mul _
      have h2 : cg (IntKind.i64.wrap (0 + IntKind.i64.wrap (12 * num r k))) (12 * num r k) := (cg_wrap _).trans ((cg.add (cg.refl 0) (cg_wrap _)).trans (cg.of_eq (by omega)))
      have h3 := h2.mul (num X (3 + k))
      rw [Int.mul_comm _ (num X (3 + k)), Int.mul_comm (12 * num r k)] at h3
      refine h1.trans (cg.trans (cg.of_eq ?_) h3.symm)
      rw [Int.mul_assoc]
    | false =>
      simp only [Bool.not_false, cond_true, cond_false]
      have wsz : ∀ (s : Array Value) w, s.size = 40 → (wayF S X t k s w).size = 40 := fun s w h => by unfold wayF; cases decide (spec_l01Goes_v0 (k : Int) (w : Int) S < 0) <;> (simp only [cond_true, cond_false]; rw [adN_size]; exact h)
      have hf : ∀ w, w ≤ 5 → (folds (wayF S X t k) s w).size = 40 ∧ cg (dot (folds (wayF S X t k) s w) r) (dot s r + num X (3 + k) * sm (twX S r t k) w) := fun w => by
        induction w with
        | zero => exact fun _ => ⟨hs, cg.of_eq (by rw [folds_zero, show sm (twX S r t k) 0 = 0 from rfl]; omega)⟩
        | succ w ih =>
          intro hw
          obtain ⟨i1, i2⟩ := ih (by omega)
          rw [folds_succ, sm_succ]
          refine ⟨wsz _ _ i1, (way_dot h0 hk hi t (by omega) i1).trans ((cg.add i2 (cg.refl _)).trans (cg.of_eq ?_))⟩
          rw [Int.mul_add]; omega
      refine (hf 5 (Nat.le_refl _)).2.trans (cg.add (cg.refl _) ?_)
      have e5 : sm (twX S r t k) 5 = lsum (oneSt S t k 1 ++ oneSt S t k 4 ++ oneSt S t k 0 ++ oneSt S t k 2 ++ oneSt S t k 3) r := by
        rw [lsum_app, lsum_app, lsum_app, lsum_app, one_sum hS ht hk (by omega), one_sum hS ht hk (by omega), one_sum hS ht hk (by omega), one_sum hS ht hk (by omega), one_sum hS ht hk (by omega)]
        rw [show (5 : Nat) = 4 + 1 from rfl, sm_succ, show (4 : Nat) = 3 + 1 from rfl, sm_succ, show (3 : Nat) = 2 + 1 from rfl, sm_succ, show (2 : Nat) = 1 + 1 from rfl, sm_succ, show (1 : Nat) = 0 + 1 from rfl, sm_succ, show sm (twX S r t k) 0 = 0 from rfl]
        omega
      rw [e5]
      have h2 := (sum_cg r (oneSt S t k 1 ++ oneSt S t k 4 ++ oneSt S t k 0 ++ oneSt S t k 2 ++ oneSt S t k 3) 0).mul (num X (3 + k))
      rw [Int.zero_add, Int.mul_comm _ (num X (3 + k)), Int.mul_comm _ (num X (3 + k))] at h2
      exact h2.symm
theorem hour_dot {S : Array Value} (hS : WT Try.prog 36 S) (h0 : 1 ≤ num S 0 ∧ num S 0 ≤ 6 ∧ 1 ≤ num S 1 ∧ num S 1 ≤ 6) {r : Array Value} (hz : ∀ k, k < 36 → inC (num S 0) (num S 1) k = false → num r k = 0) {X : Array Value} (ht : 0 ≤ tdS X ∧ tdS X < 2) :
    cg (dot (hourV Try.prog S X) r) (dot X (rowF Try.prog sumL S r (tdS X))) := by
  have hsz : (hourI Try.prog X).size = 40 := by
    have hz : (zc Try.prog 94).size = 40 := by kernel_rfl
    unfold hourI; simp [hz]
  have h := folds_inv (f := cellF S X (tdS X)) (t := hourI Try.prog X) (n := 36) (fun k (s : Array Value) => s.size = 40 ∧ cg (dot s r) (sm (fun i => num X (3 + i) * num (rowF Try.prog sumL S r (tdS X)) (i * 1)) k)) ⟨hsz, cg.of_eq (by
    rw [show sm _ 0 = 0 from rfl]
    unfold dot
    exact sm_zero 36 fun i hi => by rw [(hourI_num X).2.2 i hi]; omega)⟩ (fun k s hk hs => by
    refine ⟨cellF_keep (Q := fun r => r.size = 40) (fun r i m h => by rw [adN_size]; exact h) S X _ s k hs.1, ?_⟩
    rw [sm_succ]
    exact (cell_dot hS h0 ht hz X hs.1 hk).trans (cg.add hs.2 (cg.refl _))) 36 (Nat.le_refl _)
  refine h.2.trans (cg.of_eq ?_)
  unfold dot
  exact sm_congr 36 fun i hi => by rw [Nat.mul_one]
theorem only_num {c : Int} (hc : 0 ≤ c ∧ c ≤ 35) {k : Nat} (hk : k < 36) : num (impl_onlyAt_v0 Try.prog c) k = if k = c.toNat then 1 else 0 := by
  unfold impl_onlyAt_v0 num
  rw [Array.getElem?_setIfInBounds, Nat.mul_one, zc_at k hk]
  by_cases e : k = c.toNat
  · rw [if_pos e.symm, if_pos (by rw [zc_row]; omega), if_pos e]
  · rw [if_neg (fun h => e h.symm), if_neg e]
theorem row_zero {S : Array Value} {c b : Int} (hc : 0 ≤ c ∧ c ≤ 35) (hi : inC (num S 0) (num S 1) c.toNat = true) (h : Int) : ∀ j k, k < 36 → inC (num S 0) (num S 1) k = false → num (rowR Try.prog sumL S (impl_onlyAt_v0 Try.prog c) b h j) k = 0
  | 0, k, hk, hn => by
    rw [rowR, only_num hc hk, if_neg]
    intro e; rw [← e, hn] at hi; cases hi
  | j + 1, k, hk, hn => by
    have := rowF_at sumL S (rowR Try.prog sumL S (impl_onlyAt_v0 Try.prog c) b h j) ((IntKind.i64.wrap (b + IntKind.i64.wrap (h - ((j + 1 : Nat) : Int)))).tmod 2) hk
    rw [Nat.mul_one] at this
    rw [rowR, this, hn]; rfl
/-- Going forward and going backward. -/
theorem fore_back {S : Array Value} (hS : WT Try.prog 36 S) (hok : okS S = true) {c e b : Int} {h : Nat} (hb : 0 ≤ b ∧ b ≤ 1) (hc : 0 ≤ c ∧ c ≤ 35) (he : 0 ≤ e ∧ e ≤ 35) (hi : inC (num S 0) (num S 1) e.toNat = true) (hh : h ≤ 14) :
    ∀ i, i ≤ h → cg (dot (driftV Try.prog S (oneX Try.prog c b) i) (rowR Try.prog sumL S (impl_onlyAt_v0 Try.prog e) b (h : Int) (h - i))) (dot (oneX Try.prog c b) (rowR Try.prog sumL S (impl_onlyAt_v0 Try.prog e) b (h : Int) h))
  | 0, _ => cg.refl _
  | i + 1, hi' => by
    obtain ⟨n0, n1, _, _⟩ := oneX_num (c := c) (b := b) hb hc
    have htd := td_drift (S := S) (X := oneX Try.prog c b) (by rw [n0]; omega) (by rw [n1]; omega) (show i ≤ 14 by omega)
    rw [n0, n1] at htd
    refine cg.trans ?_ (fore_back hS hok hb hc he hi hh i (by omega))
    have hd := hour_dot hS (okS_dims hok) (r := rowR Try.prog sumL S (impl_onlyAt_v0 Try.prog e) b (h : Int) (h - (i + 1))) (row_zero he hi (h : Int) _) (X := driftV Try.prog S (oneX Try.prog c b) i) (by rw [htd]; omega)
    have er : rowR Try.prog sumL S (impl_onlyAt_v0 Try.prog e) b (h : Int) (h - i) = rowF Try.prog sumL S (rowR Try.prog sumL S (impl_onlyAt_v0 Try.prog e) b (h : Int) (h - (i + 1))) (tdS (driftV Try.prog S (oneX Try.prog c b) i)) := by
      rw [show h - i = (h - (i + 1)) + 1 by omega, rowR, show (h - (i + 1)) + 1 = h - i by omega]
      congr 1
      rw [htd, w64 (n := (h : Int) - ((h - i : Nat) : Int)) (by omega), w64 (n := b + ((h : Int) - ((h - i : Nat) : Int))) (by omega), Int.tmod_eq_emod_of_nonneg (by omega)]
      omega
    rw [er]
    exact hd

end
end Go.Proofs.Ytmkkckhfghomfaa
