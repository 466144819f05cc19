/- A spread and a row together. -/
import Derived.Test.YtmkkckhfghomfaaProg
import Derived.Test.YtmkkckhfghomfaaVePbB
namespace Go.Proofs.Ytmkkckhfghomfaa
open Go.ChangeShapes Go.WideShapes Go.ChangeAt Go.RowKit Ve
set_option linter.unusedVariables false
set_option linter.unusedSimpArgs false
set_option maxRecDepth 100000
noncomputable section
theorem rowF_at (V : List (Int × Int) → Array Value → Int) (S L : Array Value) (t : Int) {k : Nat} (hk : k < 36) : num (rowF Try.prog V S L t) (k * 1) = if inC (num S 0) (num S 1) k then V (stL S t k) L else 0 := by
  have h := folds_inv (f := fun r k => if inC (num S 0) (num S 1) k then r.setIfInBounds (k * 1) (.int .i64 (V (stL S t k) L)) else r) (t := zc Try.prog 61) (n := 36)
    (fun m (r : Array Value) => r.size = 36 ∧ ∀ i, i < 36 → num r i = if i < m ∧ inC (num S 0) (num S 1) i then V (stL S t i) L else 0) ⟨zc_row, fun i hi => by
      unfold num; rw [zc_at i hi]; simp⟩ (fun m s hm hs => by
      refine ⟨by split <;> simp [hs.1], fun i hi => ?_⟩
      by_cases hmi : m = i
      · subst hmi
        cases hc : inC (num S 0) (num S 1) m with
        | true =>
          simp only [if_true]
          rw [Nat.mul_one, num_set (by omega), if_pos ⟨by omega, trivial⟩]
        | false =>
          simp only [Bool.false_eq_true, if_false, and_false]
          rw [hs.2 m hi, if_neg (by omega)]
      · have hsame : num (if inC (num S 0) (num S 1) m then s.setIfInBounds (m * 1) (.int .i64 (V (stL S t m) L)) else s) i = num s i := by
          split
          · unfold num; rw [Array.getElem?_setIfInBounds, if_neg (by omega)]
          · rfl
        show num (if inC (num S 0) (num S 1) m then s.setIfInBounds (m * 1) (.int .i64 (V (stL S t m) L)) else s) i = _
        rw [hsame, hs.2 i hi]
        by_cases hi2 : i < m
        · simp [hi2, show i < m + 1 by omega]
        · simp [hi2, show ¬ i < m + 1 by omega]) 36 (Nat.le_refl _)
  unfold rowF
  rw [Nat.mul_one, h.2 k hk]
  simp [hk]


/-- Alike but for what does not fit into 64 bits. -/
noncomputable def cg (a b : Int) : Prop := ∃ k : Int, a = b + 18446744073709551616 * k
theorem cg.refl (a : Int) : cg a a := ⟨0, by omega⟩
theorem cg.of_eq {a b : Int} (h : a = b) : cg a b := ⟨0, by omega⟩
theorem cg.symm {a b : Int} (h : cg a b) : cg b a := by obtain ⟨k, h⟩ := h; exact ⟨-k, by omega⟩
theorem cg.trans {a b c : Int} (h : cg a b) (h' : cg b c) : cg a c := by obtain ⟨k, h⟩ := h; obtain ⟨l, h'⟩ := h'; exact ⟨k + l, by omega⟩
theorem cg.add {a b c d : Int} (h : cg a b) (h' : cg c d) : cg (a + c) (b + d) := by obtain ⟨k, h⟩ := h; obtain ⟨l, h'⟩ := h'; exact ⟨k + l, by omega⟩
theorem cg.mul {a b : Int} (h : cg a b) (c : Int) : cg (a * c) (b * c) := by
  obtain ⟨k, h⟩ := h
  exact ⟨k * c, by rw [h, Int.add_mul, Int.mul_assoc]⟩
theorem cg_wrap (a : Int) : cg (IntKind.i64.wrap a) a := by
  rw [IntKind.wrap_i64]
  exact ⟨((a + 9223372036854775808) % 18446744073709551616 - (a + 9223372036854775808)) / 18446744073709551616, by omega⟩
theorem cg_eq {a b : Int} (h : cg a b) (ha : -9223372036854775808 ≤ a ∧ a ≤ 9223372036854775807) (hb : -9223372036854775808 ≤ b ∧ b ≤ 9223372036854775807) : a = b := by obtain ⟨k, h⟩ := h; omega
noncomputable def sm (f : Nat → Int) (n : Nat) : Int := folds (fun s i => s + f i) 0 n
theorem sm_succ (f : Nat → Int) (n : Nat) : sm f (n + 1) = sm f n + f n := folds_succ _ _ _
theorem sm_congr {f g : Nat → Int} : ∀ n, (∀ i, i < n → f i = g i) → sm f n = sm g n
  | 0, _ => rfl
  | n + 1, h => by rw [sm_succ, sm_succ, sm_congr n fun i hi => h i (by omega), h n (by omega)]
theorem sm_upd {f g : Nat → Int} {j : Nat} (h : ∀ i, i ≠ j → f i = g i) : ∀ n, j < n → sm f n = sm g n + (f j - g j)
  | 0, hj => by omega
  | n + 1, hj => by
    rw [sm_succ, sm_succ]
    by_cases e : j = n
    · subst e
      rw [sm_congr j fun i hi => h i (by omega)]; omega
    · rw [sm_upd h n (by omega), h n (fun h => e h.symm)]; omega
theorem sm_zero {f : Nat → Int} : ∀ n, (∀ i, i < n → f i = 0) → sm f n = 0
  | 0, _ => rfl
  | n + 1, h => by rw [sm_succ, sm_zero n fun i hi => h i (by omega), h n (by omega)]; rfl
theorem sm_one {f : Nat → Int} {j : Nat} (n : Nat) (hj : j < n) (h : ∀ i, i < n → i ≠ j → f i = 0) : sm f n = f j := by
  have := sm_upd (f := fun i => if i < n then f i else 0) (g := fun _ => 0) (j := j) (fun i hi => by
    by_cases c : i < n
    · rw [if_pos c]; exact h i c hi
    · rw [if_neg c]) n hj
  rw [sm_zero (f := fun _ => (0 : Int)) n fun _ _ => rfl] at this
  rw [sm_congr (g := fun i => if i < n then f i else 0) n fun i hi => (if_pos hi).symm, this, if_pos hj]; omega
/-- What a spread and a row make together. -/
noncomputable def dot (X r : Array Value) : Int := sm (fun i => num X (3 + i) * num r i) 36
theorem dot_ad {Y r : Array Value} (hY : Y.size = 40) {j : Nat} (hj : j < 36) (m : Int) : cg (dot (adN Y (3 + j) m) r) (dot Y r + m * num r j) := by
  have h := sm_upd (f := fun i => num (adN Y (3 + j) m) (3 + i) * num r i) (g := fun i => num Y (3 + i) * num r i) (j := j) (fun i hi => by
    show num _ _ * _ = _
    rw [adN_ne m (by omega)]) 36 hj
  have e : num (adN Y (3 + j) m) (3 + j) = IntKind.i64.wrap (num Y (3 + j) + m) := adN_eq m (by omega)
  unfold dot
  rw [h]
  simp only [e]
  refine cg.add (cg.refl _) ?_
  have := (cg_wrap (num Y (3 + j) + m)).mul (num r j)
  obtain ⟨k, hk⟩ := this
  exact ⟨k, by rw [hk, Int.add_mul]; omega⟩
theorem dot_out {Y r : Array Value} (m : Int) : dot (adN Y 39 m) r = dot Y r := by
  unfold dot
  refine sm_congr 36 fun i hi => ?_
  rw [adN_ne m (by omega)]
/-- What a way brings. -/
noncomputable def twX (S r : Array Value) (t : Int) (k w : Nat) : Int := if gw S k w = -1 then 0 else chW S t (k : Int) w * num r (gw S k w).toNat
theorem way_dot {S X s r : Array Value} (h0 : 1 ≤ num S 0 ∧ num S 0 ≤ 6 ∧ 1 ≤ num S 1 ∧ num S 1 ≤ 6) {k : Nat} (hk : k < 36) (hi : inC (num S 0) (num S 1) k = true) (t : Int) {w : Nat} (hw : w < 5) (hs : s.size = 40) :
    cg (dot (wayF S X t k s w) r) (dot s r + num X (3 + k) * twX S r t k w) := by
  unfold wayF twX
  rw [goes_nice h0 hk hi w hw]
  by_cases c : gw S k w = -1
  · rw [c, if_pos rfl, decide_eq_true (by omega), cond_true, dot_out]
    exact cg.of_eq (by omega)
  · have hr := gw_range h0 hk hi w hw c
    rw [if_neg c, decide_eq_false (by omega), cond_false, Nat.mul_one]
    refine (dot_ad hs (by omega) _).trans (cg.add (cg.refl _) ?_)
    unfold muF
    rw [Nat.mul_one, ← Int.mul_assoc]
    exact (cg_wrap _).mul _
noncomputable def lsum (l : List (Int × Int)) (r : Array Value) : Int := (l.map fun p => p.2 * laterOf r p.1).sum
theorem lsum_app (l m : List (Int × Int)) (r : Array Value) : lsum (l ++ m) r = lsum l r + lsum m r := by unfold lsum; rw [List.map_append, List.sum_append]
theorem sum_cg (r : Array Value) : ∀ (l : List (Int × Int)) (c : Int), cg (l.foldl (sumF r) c) (c + lsum l r)
  | [], c => cg.of_eq (by unfold lsum; simp)
  | p :: l, c => by
    rw [List.foldl_cons]
    refine (sum_cg r l _).trans ?_
    have e : lsum (p :: l) r = p.2 * laterOf r p.1 + lsum l r := by unfold lsum; simp
    rw [e, ← Int.add_assoc]
    refine cg.add ?_ (cg.refl _)
    unfold sumF
    exact (cg_wrap _).trans (cg.add (cg.refl _) (cg_wrap _))
theorem lay_cell {x : Nat} (h : x < 360) : (lay Try.prog 36)[3 + x]? = some (kN .u8) := by
  rw [lay_sea, show 3 + x = x + 1 + 1 + 1 by omega, List.getElem?_cons_succ, List.getElem?_cons_succ, List.getElem?_cons_succ, List.getElem?_replicate, if_pos h]; rfl
theorem ch_pos {S : Array Value} (hS : WT Try.prog 36 S) {t : Int} (ht : 0 ≤ t ∧ t < 2) {k w : Nat} (hk : k < 36) (hw : w < 5) : 0 ≤ chW S t (k : Int) w := by
  have h := (hS.int (o := 3 + (t.toNat * 180 + k * 5 + w)) (k := .u8) (lay_cell (by omega))).2
  have e1 : IntKind.u8.min = 0 := rfl
  have e2 : IntKind.u8.max = 255 := rfl
  unfold chW
  rw [Int.toNat_natCast, show 3 + t.toNat * 180 + k * 5 + w = 3 + (t.toNat * 180 + k * 5 + w) by omega, w64 (by omega)]
  omega
theorem one_sum {S : Array Value} (hS : WT Try.prog 36 S) {t : Int} (ht : 0 ≤ t ∧ t < 2) {k w : Nat} (hk : k < 36) (hw : w < 5) (r : Array Value) : lsum (oneSt S t k w) r = twX S r t k w := by
  have hp := ch_pos hS ht hk hw
  unfold oneSt twX
  by_cases c : gw S k w = -1
  · rw [if_pos c, c, show decide ((-1 : Int) ≠ -1) = false from rfl, Bool.and_false]; rfl
  · rw [if_neg c, decide_eq_true c, Bool.and_true]
    by_cases c2 : chW S t (k : Int) w > 0
    · rw [decide_eq_true c2]
      unfold lsum laterOf
      simp
    · rw [decide_eq_false c2, show chW S t (k : Int) w = 0 by omega]
      unfold lsum
      simp

end
end Go.Proofs.Ytmkkckhfghomfaa
