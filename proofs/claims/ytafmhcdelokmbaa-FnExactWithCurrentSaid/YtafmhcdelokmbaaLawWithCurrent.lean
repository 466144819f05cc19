/- For every sea, way and part spec and program make the same current. -/
import Derived.Test.YtafmhcdelokmbaaRows
import Derived.Test.YtafmhcdelokmbaaChecked
import Derived.Test.YtafmhcdelokmbaaBase
import Derived.Test.YtafmhcdelokmbaaVeGrid
namespace Go.Proofs.Ytafmhcdelokmbaa
open Go.ChangeShapes Go.WideShapes Go.ChangeAt Go.RowKit Ve
set_option linter.unusedVariables false
set_option linter.unusedSimpArgs false
set_option maxRecDepth 100000
noncomputable section

noncomputable def chunk (r : Array Value) (q : Nat) : Array Value := r.extract (3 + q * 5) (3 + q * 5 + 5)
noncomputable def upd (G : Array Value → Array Value) (r : Array Value) (q : Nat) : Array Value := spl r (3 + q * 5) (G (chunk r q)).toList
theorem chunk_size {r : Array Value} (hr : r.size = 363) {q : Nat} (hq : q < 72) : (chunk r q).size = 5 := by unfold chunk; rw [Array.size_extract]; omega
theorem upd_get {G : Array Value → Array Value} (hG : ∀ c : Array Value, c.size = 5 → (G c).size = 5) {r : Array Value} (hr : r.size = 363) {q : Nat} (hq : q < 72) (i : Nat) : (upd G r q)[i]? = if 3 + q * 5 ≤ i ∧ i < 3 + q * 5 + 5 then (G (chunk r q))[i - (3 + q * 5)]? else r[i]? := by
  have hl : (G (chunk r q)).toList.length = 5 := by rw [Array.length_toList]; exact hG _ (chunk_size hr hq)
  unfold upd
  rw [spl_get _ _ _ (by rw [hl]; omega), hl]
  simp
theorem upd_size {G : Array Value → Array Value} (r : Array Value) (q : Nat) : (upd G r q).size = r.size := spl_size _ _ _
theorem chunk_upd {G : Array Value → Array Value} (hG : ∀ c : Array Value, c.size = 5 → (G c).size = 5) {r : Array Value} (hr : r.size = 363) {q p : Nat} (hq : q < 72) (hp : p < 72) : chunk (upd G r q) p = if p = q then G (chunk r q) else chunk r p := by
  refine arr_ext fun i => ?_
  have hs := hG _ (chunk_size hr hq)
  by_cases e : p = q
  · subst e
    rw [if_pos rfl]
    unfold chunk at hs ⊢
    rw [Array.getElem?_extract, upd_size]
    by_cases hi : i < 5
    · rw [if_pos (by omega), upd_get hG hr hq, if_pos (by omega), show 3 + p * 5 + i - (3 + p * 5) = i by omega]; rfl
    · rw [if_neg (by omega), Array.getElem?_eq_none (by omega)]
  · rw [if_neg e]
    unfold chunk
    rw [Array.getElem?_extract, Array.getElem?_extract, upd_size]
    by_cases hi : i < 5
    · rw [if_pos (by omega), if_pos (by omega), upd_get hG hr hq, if_neg (by omega)]
    · rw [if_neg (by omega), if_neg (by omega)]
theorem foldl_upd {G : Array Value → Array Value} (hG : ∀ c : Array Value, c.size = 5 → (G c).size = 5) : ∀ (l : List Nat) (r : Array Value), l.Nodup → (∀ q ∈ l, q < 72) → r.size = 363 →
    (l.foldl (upd G) r).size = 363 ∧ (∀ i, i < 3 → (l.foldl (upd G) r)[i]? = r[i]?) ∧ ∀ p, p < 72 → chunk (l.foldl (upd G) r) p = if p ∈ l then G (chunk r p) else chunk r p
  | [], r, _, _, hr => ⟨hr, fun _ _ => rfl, fun p _ => by simp⟩
  | q :: l, r, hn, hq, hr => by
    have hn' := List.nodup_cons.1 hn
    have hq0 := hq q (List.mem_cons_self ..)
    obtain ⟨h1, h2, h3⟩ := foldl_upd hG l (upd G r q) hn'.2 (fun p hp => hq p (List.mem_cons_of_mem _ hp)) (by rw [upd_size]; exact hr)
    refine ⟨h1, fun i hi => (h2 i hi).trans ?_, fun p hp => (h3 p hp).trans ?_⟩
    · rw [upd_get hG hr hq0, if_neg (by omega)]
    · rw [chunk_upd hG hr hq0 hp]
      by_cases e : p = q
      · subst e
        rw [if_neg hn'.1, if_pos rfl, if_pos (List.mem_cons_self ..)]
      · rw [if_neg e]
        by_cases hm : p ∈ l
        · rw [if_pos hm, if_pos (List.mem_cons_of_mem _ hm)]
        · rw [if_neg hm, if_neg (by simp [e, hm])]
theorem row_ext {a b : Array Value} (ha : a.size = 363) (hb : b.size = 363) (h0 : ∀ i, i < 3 → a[i]? = b[i]?) (h : ∀ p, p < 72 → chunk a p = chunk b p) : a = b := by
  refine arr_ext fun i => ?_
  by_cases h1 : i < 3
  · exact h0 i h1
  · by_cases h2 : i < 363
    · have hc := congrArg (fun x : Array Value => x[(i - 3) % 5]?) (h ((i - 3) / 5) (by omega))
      unfold chunk at hc
      simp only [Array.getElem?_extract] at hc
      rw [if_pos (by omega), if_pos (by omega), show 3 + (i - 3) / 5 * 5 + (i - 3) % 5 = i by omega] at hc
      exact hc
    · rw [Array.getElem?_eq_none (by omega), Array.getElem?_eq_none (by omega)]
theorem set_sub {r : Array Value} {X w : Nat} (hX : X + 5 ≤ r.size) (hw : w < 5) (v1 v2 : Value) : (r.setIfInBounds (X + 0) v1).setIfInBounds (X + w * 1) v2 = spl r X (((r.extract X (X + 5)).setIfInBounds 0 v1).setIfInBounds (w * 1) v2).toList := by
  have hl : (((r.extract X (X + 5)).setIfInBounds 0 v1).setIfInBounds (w * 1) v2).toList.length = 5 := by
    rw [Array.length_toList, Array.size_setIfInBounds, Array.size_setIfInBounds, Array.size_extract]; omega
  refine arr_ext fun i => ?_
  rw [spl_get _ _ _ (by rw [hl]; omega), hl]
  simp only [Array.getElem?_toList, Array.getElem?_setIfInBounds, Array.size_setIfInBounds, Array.size_extract, Array.getElem?_extract]
  (repeat' split) <;> first | rfl | (exfalso; omega) | (rw [show X + (i - X) = i by omega])
theorem num_set {r : Array Value} {X w : Nat} (hX : X + 5 ≤ r.size) (hw : w < 5) (v : Value) : num ((r.extract X (X + 5)).setIfInBounds 0 v) (w * 1) = num (r.setIfInBounds (X + 0) v) (X + w * 1) := by
  have key : ((r.extract X (X + 5)).setIfInBounds 0 v)[w * 1]? = (r.setIfInBounds (X + 0) v)[X + w * 1]? := by
    simp only [Array.getElem?_setIfInBounds, Array.size_extract, Array.getElem?_extract]
    (repeat' split) <;> first | rfl | (exfalso; omega)
  unfold num
  rw [key]
theorem min_eq {n p : Int} (hn : 0 ≤ n ∧ n ≤ 255) (hp : 0 ≤ p ∧ p ≤ 12) : IntKind.u8.wrap (spec_l00Min_v0 p (IntKind.i64.wrap n)) = (bif decide (n < IntKind.u8.wrap p) then n else IntKind.u8.wrap p) := by
  unfold spec_l00Min_v0
  rw [IntWalk.i64_in n (by omega), IntWalk.u8_in p (by omega)]
  by_cases h : p < n
  · rw [decide_eq_true h, decide_eq_false (show ¬ n < p by omega)]; exact IntWalk.u8_in p (by omega)
  · rw [decide_eq_false h]
    by_cases h2 : n < p
    · rw [decide_eq_true h2]; exact IntWalk.u8_in n (by omega)
    · rw [decide_eq_false h2]
      have : n = p := by omega
      subst this; exact IntWalk.u8_in n (by omega)
/-- Numbers of eight bits from the third cell on. -/
noncomputable def U8s (r : Array Value) : Prop := r.size = 363 ∧ ∀ i, i < 360 → ∃ x : Int, r[3 + i]? = some (.int .u8 x) ∧ 0 ≤ x ∧ x ≤ 255
theorem U8s.num {r : Array Value} (h : U8s r) {i : Nat} (hi : i < 360) : 0 ≤ Ve.num r (3 + i) ∧ Ve.num r (3 + i) ≤ 255 := by
  obtain ⟨x, h1, h2⟩ := h.2 i hi
  have : Ve.num r (3 + i) = x := by unfold Ve.num; rw [h1]
  rw [this]; exact h2
theorem U8s.set {r : Array Value} (h : U8s r) {j : Nat} (hj : 3 ≤ j) (n : Int) : U8s (r.setIfInBounds j (.int .u8 (IntKind.u8.wrap n))) := by
  refine ⟨by rw [Array.size_setIfInBounds]; exact h.1, fun i hi => ?_⟩
  rw [Array.getElem?_setIfInBounds]
  by_cases e : j = 3 + i
  · rw [if_pos e, if_pos (by rw [h.1]; omega)]
    exact ⟨_, rfl, wrap_in .u8 n⟩
  · rw [if_neg e]; exact h.2 i hi
noncomputable def flowG (a1 a2 : Int) (c : Array Value) : Array Value := impl_flowing_v0 c a1 a2
theorem flowG_size (a1 a2 : Int) : ∀ c : Array Value, c.size = 5 → (flowG a1 a2 c).size = 5 := fun c hc => by
  unfold flowG impl_flowing_v0
  rw [Array.size_setIfInBounds, Array.size_setIfInBounds]; exact hc
theorem way_eq (w : Int) : impl_hasWay_v0 w = spec_l00In_v0 w 0 4 := by
  unfold impl_hasWay_v0 spec_l00In_v0
  first | rfl | (cases decide (w ≥ 0) <;> rfl)
theorem in_of {n lo hi : Int} (h : spec_l00In_v0 n lo hi = true) : lo ≤ n ∧ n ≤ hi := by
  unfold spec_l00In_v0 at h
  cases h0 : decide (n ≥ lo) with
  | false => rw [h0] at h; exact nomatch h
  | true => rw [h0] at h; exact ⟨of_decide_eq_true h0, of_decide_eq_true h⟩
/-- The cells whose chances are turned. -/
noncomputable def wetL (p : Nat → Bool) : Nat → List Nat
  | 0 => []
  | k + 1 => if p k then wetL p k ++ [k, 36 + k] else wetL p k
theorem wetL_succ (p : Nat → Bool) (n : Nat) : wetL p (n + 1) = if p n then wetL p n ++ [n, 36 + n] else wetL p n := rfl
theorem wetL_mem (p : Nat → Bool) : ∀ (n : Nat), n ≤ 36 → ∀ q, q ∈ wetL p n ↔ ∃ k, k < n ∧ p k = true ∧ (q = k ∨ q = 36 + k)
  | 0, _, q => by simp [wetL]
  | n + 1, hn, q => by
    have ih := wetL_mem p n (by omega) q
    rw [wetL_succ]
    cases hp : p n with
    | true =>
      simp only [if_true, List.mem_append, ih, List.mem_cons, List.not_mem_nil, or_false]
      constructor
      · rintro (⟨k, h1, h2, h3⟩ | h)
        · exact ⟨k, by omega, h2, h3⟩
        · exact ⟨n, by omega, hp, h⟩
      · rintro ⟨k, h1, h2, h3⟩
        by_cases e : k = n
        · subst e; exact .inr h3
        · exact .inl ⟨k, by omega, h2, h3⟩
    | false =>
      simp only [Bool.false_eq_true, if_false, ih]
      constructor
      · rintro ⟨k, h1, h2, h3⟩
        exact ⟨k, by omega, h2, h3⟩
      · rintro ⟨k, h1, h2, h3⟩
        refine ⟨k, ?_, h2, h3⟩
        by_cases e : k = n
        · subst e; rw [hp] at h2; cases h2
        · omega
theorem wetL_nodup (p : Nat → Bool) : ∀ (n : Nat), n ≤ 36 → (wetL p n).Nodup
  | 0, _ => List.nodup_nil
  | n + 1, hn => by
    rw [wetL_succ]
    split
    · refine List.nodup_append.2 ⟨wetL_nodup p n (by omega), by simp, fun a ha b hb => ?_⟩
      obtain ⟨k, h1, _, h3⟩ := (wetL_mem p n (by omega) a).1 ha
      rintro rfl
      simp only [List.mem_cons, List.not_mem_nil, or_false] at hb
      omega
    · exact wetL_nodup p n (by omega)
theorem folds_wet {G : Array Value → Array Value} (p : Nat → Bool) (r : Array Value) : ∀ n, folds (fun r k => if p k then upd G (upd G r k) (36 + k) else r) r n = (wetL p n).foldl (upd G) r
  | 0 => rfl
  | n + 1 => by
    rw [folds_succ, folds_wet p r n]
    rw [wetL_succ]
    split
    · rw [List.foldl_append]; rfl
    · rfl
/-- All cells whose chances are turned. -/
noncomputable def curV (S : Array Value) (a1 a2 : Int) : Array Value := (List.range 72).foldl (upd (flowG a1 a2)) S
noncomputable def curCode (S : Array Value) (a1 a2 : Int) : Int := bif okS S then (bif spec_l00In_v0 a1 0 4 then (bif spec_l00In_v0 a2 0 12 then 0 else 2) else 2) else 1
noncomputable def curR (P : Program) (S : Array Value) (a1 a2 : Int) : Array Value := bif curCode S a1 a2 == 0 then curV S a1 a2 else zc P 29

noncomputable def spec_WithCurrent_e1 : Int × Array Value → LS
  | (y1_9, r1_0) => ([.a (.i .i64 (y1_9))], [.row r1_0 29])

noncomputable def spec_WithCurrent_x1 : Int × Array Value → Exit × LS
  | t => ((.exit 2), spec_WithCurrent_e1 t)

noncomputable def spec_WithCurrent_g1 (P : Program) (a0 : Array Value) (a1 : Int) (a2 : Int) (y0_8 : Int) (r0_0 : Array Value) : Int × Array Value → Option (Stp (Int × Array Value) (Int × Array Value))
  | (y1_9, r1_0) => bif decide (y1_9 < (36 : Int)) then (bif (decide (0 ≤ y0_8) && decide (y0_8 < 2)) then (bif (decide (0 ≤ y1_9) && decide (y1_9 < 36)) then (bif (decide (0 ≤ a1) && decide (a1 < 5)) then (bif (decide (0 ≤ a1) && decide (a1 < 5)) then (some (.more ((IntKind.i64.wrap (y1_9 + (1 : Int))), ((r1_0.setIfInBounds (((3 + ((y0_8).toNat * 180)) + ((y1_9).toNat * 5)) + 0) (.int .u8 (IntKind.u8.wrap ((num r1_0 (((3 + ((y0_8).toNat * 180)) + ((y1_9).toNat * 5)) + 0)) - (IntKind.u8.wrap (spec_l00Min_v0 a2 (IntKind.i64.wrap (num r1_0 (((3 + ((y0_8).toNat * 180)) + ((y1_9).toNat * 5)) + 0))))))))).setIfInBounds (((3 + ((y0_8).toNat * 180)) + ((y1_9).toNat * 5)) + ((a1).toNat * 1)) (.int .u8 (IntKind.u8.wrap ((num (r1_0.setIfInBounds (((3 + ((y0_8).toNat * 180)) + ((y1_9).toNat * 5)) + 0) (.int .u8 (IntKind.u8.wrap ((num r1_0 (((3 + ((y0_8).toNat * 180)) + ((y1_9).toNat * 5)) + 0)) - (IntKind.u8.wrap (spec_l00Min_v0 a2 (IntKind.i64.wrap (num r1_0 (((3 + ((y0_8).toNat * 180)) + ((y1_9).toNat * 5)) + 0))))))))) (((3 + ((y0_8).toNat * 180)) + ((y1_9).toNat * 5)) + ((a1).toNat * 1))) + (IntKind.u8.wrap (spec_l00Min_v0 a2 (IntKind.i64.wrap (num r1_0 (((3 + ((y0_8).toNat * 180)) + ((y1_9).toNat * 5)) + 0))))))))))))
            else (none))
          else (none))
        else (none))
      else (none))
    else (some (.done (y1_9, r1_0)))

theorem spec_WithCurrent_s1 (N : Nat) (a0 : Array Value) (a1 : Int) (a2 : Int) (y0_8 : Int) (r0_0 : Array Value) : ∀ t : Int × Array Value, stepV Try.prog (mkΓ [(52, con spec_l00In_con), (61, con spec_l01Ok_con), (62, con spec_l01Way_con), (63, con spec_l00Min_con)]) N (cAt (codeOf Try.f18) [1, 1, 1, 0, 1, 0, 0, 1, 0, 0, 1, 0, 0]) (pAt (mkPlan (codeOf Try.f18) [([8], [0]), ([9], [0])]).1 [1, 1, 1, 0, 1, 0, 1, 0, 1, 0]) [9] [0] (⟨[.a (.g a0 29), .a (.i .i64 (a1)), .a (.i .i64 (a2)), .a (.w 0), .a (.u), .a (.u), .a (.w 1), .a (.i .i64 (0 : Int)), .a (.i .i64 (y0_8)), .a (.i .i64 (0 : Int)), .a (.x), .a (.x), .a (.b ((okS a0))), .a (.b ((!((okS a0))))), .a (.u), .a (.i .i64 (a1)), .a (.b ((spec_l00In_v0 a1 (0 : Int) (4 : Int)))), .a (.b ((!((spec_l00In_v0 a1 (0 : Int) (4 : Int)))))), .a (.b (false)), .a (.i .i64 (a2)), .a (.b ((spec_l00In_v0 a2 (0 : Int) (12 : Int)))), .a (.b ((!((spec_l00In_v0 a2 (0 : Int) (12 : Int)))))), .a (.b ((!((spec_l00In_v0 a2 (0 : Int) (12 : Int)))))), .a (.u), .a (.i .i64 (y0_8)), .a (.b (decide (y0_8 < (2 : Int)))), .a (.x), .a (.x), .a (.x), .a (.x), .a (.x), .a (.x), .a (.x), .a (.x), .a (.x), .a (.x), .a (.x), .a (.x), .a (.x), .a (.x), .a (.x), .a (.x), .a (.x), .a (.x), .a (.x), .a (.x), .a (.x), .a (.x), .a (.x), .a (.x), .a (.x), .a (.x), .a (.x), .a (.x), .a (.x), .a (.x), .a (.x), .a (.x), .a (.x), .a (.x), .a (.x), .a (.x), .a (.u)], [.row r0_0 29, .row (zc Try.prog 29) 29, .no], [0]⟩ : St) (spec_WithCurrent_e1 t) = mapS spec_WithCurrent_e1 spec_WithCurrent_x1 (spec_WithCurrent_g1 Try.prog a0 a1 a2 y0_8 r0_0 t) := by
  rintro ⟨y1_9, r1_0⟩
  have h : stepV Try.prog (mkΓ [(52, con spec_l00In_con), (61, con spec_l01Ok_con), (62, con spec_l01Way_con), (63, con spec_l00Min_con)]) N (cAt (codeOf Try.f18) [1, 1, 1, 0, 1, 0, 0, 1, 0, 0, 1, 0, 0]) (pAt (mkPlan (codeOf Try.f18) [([8], [0]), ([9], [0])]).1 [1, 1, 1, 0, 1, 0, 1, 0, 1, 0]) [9] [0] (⟨[.a (.g a0 29), .a (.i .i64 (a1)), .a (.i .i64 (a2)), .a (.w 0), .a (.u), .a (.u), .a (.w 1), .a (.i .i64 (0 : Int)), .a (.i .i64 (y0_8)), .a (.i .i64 (0 : Int)), .a (.x), .a (.x), .a (.b ((okS a0))), .a (.b ((!((okS a0))))), .a (.u), .a (.i .i64 (a1)), .a (.b ((spec_l00In_v0 a1 (0 : Int) (4 : Int)))), .a (.b ((!((spec_l00In_v0 a1 (0 : Int) (4 : Int)))))), .a (.b (false)), .a (.i .i64 (a2)), .a (.b ((spec_l00In_v0 a2 (0 : Int) (12 : Int)))), .a (.b ((!((spec_l00In_v0 a2 (0 : Int) (12 : Int)))))), .a (.b ((!((spec_l00In_v0 a2 (0 : Int) (12 : Int)))))), .a (.u), .a (.i .i64 (y0_8)), .a (.b (decide (y0_8 < (2 : Int)))), .a (.x), .a (.x), .a (.x), .a (.x), .a (.x), .a (.x), .a (.x), .a (.x), .a (.x), .a (.x), .a (.x), .a (.x), .a (.x), .a (.x), .a (.x), .a (.x), .a (.x), .a (.x), .a (.x), .a (.x), .a (.x), .a (.x), .a (.x), .a (.x), .a (.x), .a (.x), .a (.x), .a (.x), .a (.x), .a (.x), .a (.x), .a (.x), .a (.x), .a (.x), .a (.x), .a (.x), .a (.u)], [.row r0_0 29, .row (zc Try.prog 29) 29, .no], [0]⟩ : St) ([.a (.i .i64 (y1_9))], [.row r1_0 29]) = (bif decide (y1_9 < (36 : Int)) then (bif (decide (0 ≤ y0_8) && decide (y0_8 < 2)) then (bif (decide (0 ≤ y1_9) && decide (y1_9 < 36)) then (bif (decide (0 ≤ a1) && decide (a1 < 5)) then (bif (decide (0 ≤ a1) && decide (a1 < 5)) then (some (.more ([.a (.i .i64 (IntKind.i64.wrap (y1_9 + (1 : Int))))], [.row ((r1_0.setIfInBounds (((3 + ((y0_8).toNat * 180)) + ((y1_9).toNat * 5)) + 0) (.int .u8 (IntKind.u8.wrap ((num r1_0 (((3 + ((y0_8).toNat * 180)) + ((y1_9).toNat * 5)) + 0)) - (IntKind.u8.wrap (spec_l00Min_v0 a2 (IntKind.i64.wrap (num r1_0 (((3 + ((y0_8).toNat * 180)) + ((y1_9).toNat * 5)) + 0))))))))).setIfInBounds (((3 + ((y0_8).toNat * 180)) + ((y1_9).toNat * 5)) + ((a1).toNat * 1)) (.int .u8 (IntKind.u8.wrap ((num (r1_0.setIfInBounds (((3 + ((y0_8).toNat * 180)) + ((y1_9).toNat * 5)) + 0) (.int .u8 (IntKind.u8.wrap ((num r1_0 (((3 + ((y0_8).toNat * 180)) + ((y1_9).toNat * 5)) + 0)) - (IntKind.u8.wrap (spec_l00Min_v0 a2 (IntKind.i64.wrap (num r1_0 (((3 + ((y0_8).toNat * 180)) + ((y1_9).toNat * 5)) + 0))))))))) (((3 + ((y0_8).toNat * 180)) + ((y1_9).toNat * 5)) + ((a1).toNat * 1))) + (IntKind.u8.wrap (spec_l00Min_v0 a2 (IntKind.i64.wrap (num r1_0 (((3 + ((y0_8).toNat * 180)) + ((y1_9).toNat * 5)) + 0))))))))) 29])))
            else (none))
          else (none))
        else (none))
      else (none))
    else (some (.done ((.exit 2), ([.a (.i .i64 (y1_9))], [.row r1_0 29]))))) := by kernel_rfl
  refine h.trans ?_
  simp only [spec_WithCurrent_g1, mapS_cond, mapS_more, mapS_done, mapS_none, spec_WithCurrent_e1, spec_WithCurrent_x1]

noncomputable def spec_WithCurrent_e0 : Int × Array Value → LS
  | (y0_8, r0_0) => ([.a (.i .i64 (y0_8))], [.row r0_0 29])

noncomputable def spec_WithCurrent_x0 : Int × Array Value → Exit × LS
  | t => ((.exit 0), spec_WithCurrent_e0 t)

noncomputable def spec_WithCurrent_k1_0 (P : Program) (N : Nat) (a0 : Array Value) (a1 : Int) (a2 : Int) (y0_8 : Int) (r0_0 : Array Value) (z1_9 : Int) (q1_0 : Array Value) : Option (Stp (Int × Array Value) (Int × Array Value)) := some (.more ((IntKind.i64.wrap (y0_8 + (1 : Int))), q1_0))

theorem spec_WithCurrent_k1_0_eq (N : Nat) (a0 : Array Value) (a1 : Int) (a2 : Int) (y0_8 : Int) (r0_0 : Array Value) (z1_9 : Int) (q1_0 : Array Value) : (kBlock 2 (kBlock 1 (kSeq (veC Try.prog (mkΓ [(52, con spec_l00In_con), (61, con spec_l01Ok_con), (62, con spec_l01Way_con), (63, con spec_l00Min_con)]) N (cAt (codeOf Try.f18) [1, 1, 1, 0, 1, 0, 0, 1, 1]) (pAt (mkPlan (codeOf Try.f18) [([8], [0]), ([9], [0])]).1 [1, 1, 1, 0, 1, 0, 1, 1]) (Stp LS (Exit × LS))) (kBody 3 [8] [0])))) (.exit 2) (left (writes (cAt (codeOf Try.f18) [1, 1, 1, 0, 1, 0, 0, 1, 0, 0, 1, 0, 0])) [9] [0] (⟨[.a (.g a0 29), .a (.i .i64 (a1)), .a (.i .i64 (a2)), .a (.w 0), .a (.u), .a (.u), .a (.w 1), .a (.i .i64 (0 : Int)), .a (.i .i64 (y0_8)), .a (.i .i64 (0 : Int)), .a (.x), .a (.x), .a (.b ((okS a0))), .a (.b ((!((okS a0))))), .a (.u), .a (.i .i64 (a1)), .a (.b ((spec_l00In_v0 a1 (0 : Int) (4 : Int)))), .a (.b ((!((spec_l00In_v0 a1 (0 : Int) (4 : Int)))))), .a (.b (false)), .a (.i .i64 (a2)), .a (.b ((spec_l00In_v0 a2 (0 : Int) (12 : Int)))), .a (.b ((!((spec_l00In_v0 a2 (0 : Int) (12 : Int)))))), .a (.b ((!((spec_l00In_v0 a2 (0 : Int) (12 : Int)))))), .a (.u), .a (.i .i64 (y0_8)), .a (.b (decide (y0_8 < (2 : Int)))), .a (.x), .a (.x), .a (.x), .a (.x), .a (.x), .a (.x), .a (.x), .a (.x), .a (.x), .a (.x), .a (.x), .a (.x), .a (.x), .a (.x), .a (.x), .a (.x), .a (.x), .a (.x), .a (.x), .a (.x), .a (.x), .a (.x), .a (.x), .a (.x), .a (.x), .a (.x), .a (.x), .a (.x), .a (.x), .a (.x), .a (.x), .a (.x), .a (.x), .a (.x), .a (.x), .a (.x), .a (.u)], [.row r0_0 29, .row (zc Try.prog 29) 29, .no], [0]⟩ : St) ([.a (.i .i64 (z1_9))], [.row q1_0 29])) = mapS spec_WithCurrent_e0 spec_WithCurrent_x0 (spec_WithCurrent_k1_0 Try.prog N a0 a1 a2 y0_8 r0_0 z1_9 q1_0) := by
  have h : (kBlock 2 (kBlock 1 (kSeq (veC Try.prog (mkΓ [(52, con spec_l00In_con), (61, con spec_l01Ok_con), (62, con spec_l01Way_con), (63, con spec_l00Min_con)]) N (cAt (codeOf Try.f18) [1, 1, 1, 0, 1, 0, 0, 1, 1]) (pAt (mkPlan (codeOf Try.f18) [([8], [0]), ([9], [0])]).1 [1, 1, 1, 0, 1, 0, 1, 1]) (Stp LS (Exit × LS))) (kBody 3 [8] [0])))) (.exit 2) (left (writes (cAt (codeOf Try.f18) [1, 1, 1, 0, 1, 0, 0, 1, 0, 0, 1, 0, 0])) [9] [0] (⟨[.a (.g a0 29), .a (.i .i64 (a1)), .a (.i .i64 (a2)), .a (.w 0), .a (.u), .a (.u), .a (.w 1), .a (.i .i64 (0 : Int)), .a (.i .i64 (y0_8)), .a (.i .i64 (0 : Int)), .a (.x), .a (.x), .a (.b ((okS a0))), .a (.b ((!((okS a0))))), .a (.u), .a (.i .i64 (a1)), .a (.b ((spec_l00In_v0 a1 (0 : Int) (4 : Int)))), .a (.b ((!((spec_l00In_v0 a1 (0 : Int) (4 : Int)))))), .a (.b (false)), .a (.i .i64 (a2)), .a (.b ((spec_l00In_v0 a2 (0 : Int) (12 : Int)))), .a (.b ((!((spec_l00In_v0 a2 (0 : Int) (12 : Int)))))), .a (.b ((!((spec_l00In_v0 a2 (0 : Int) (12 : Int)))))), .a (.u), .a (.i .i64 (y0_8)), .a (.b (decide (y0_8 < (2 : Int)))), .a (.x), .a (.x), .a (.x), .a (.x), .a (.x), .a (.x), .a (.x), .a (.x), .a (.x), .a (.x), .a (.x), .a (.x), .a (.x), .a (.x), .a (.x), .a (.x), .a (.x), .a (.x), .a (.x), .a (.x), .a (.x), .a (.x), .a (.x), .a (.x), .a (.x), .a (.x), .a (.x), .a (.x), .a (.x), .a (.x), .a (.x), .a (.x), .a (.x), .a (.x), .a (.x), .a (.x), .a (.u)], [.row r0_0 29, .row (zc Try.prog 29) 29, .no], [0]⟩ : St) ([.a (.i .i64 (z1_9))], [.row q1_0 29])) = (some (.more ([.a (.i .i64 (IntKind.i64.wrap (y0_8 + (1 : Int))))], [.row q1_0 29]))) := by kernel_rfl
  refine h.trans ?_
  simp only [spec_WithCurrent_k1_0, mapS_cond, mapS_more, mapS_done, mapS_none, spec_WithCurrent_e0, spec_WithCurrent_x0]

theorem spec_WithCurrent_n1 (N : Nat) (a0 : Array Value) (a1 : Int) (a2 : Int) (y0_8 : Int) (r0_0 : Array Value) : bindX (iterO (stepV Try.prog (mkΓ [(52, con spec_l00In_con), (61, con spec_l01Ok_con), (62, con spec_l01Way_con), (63, con spec_l00Min_con)]) N (cAt (codeOf Try.f18) [1, 1, 1, 0, 1, 0, 0, 1, 0, 0, 1, 0, 0]) (pAt (mkPlan (codeOf Try.f18) [([8], [0]), ([9], [0])]).1 [1, 1, 1, 0, 1, 0, 1, 0, 1, 0]) [9] [0] (⟨[.a (.g a0 29), .a (.i .i64 (a1)), .a (.i .i64 (a2)), .a (.w 0), .a (.u), .a (.u), .a (.w 1), .a (.i .i64 (0 : Int)), .a (.i .i64 (y0_8)), .a (.i .i64 (0 : Int)), .a (.x), .a (.x), .a (.b ((okS a0))), .a (.b ((!((okS a0))))), .a (.u), .a (.i .i64 (a1)), .a (.b ((spec_l00In_v0 a1 (0 : Int) (4 : Int)))), .a (.b ((!((spec_l00In_v0 a1 (0 : Int) (4 : Int)))))), .a (.b (false)), .a (.i .i64 (a2)), .a (.b ((spec_l00In_v0 a2 (0 : Int) (12 : Int)))), .a (.b ((!((spec_l00In_v0 a2 (0 : Int) (12 : Int)))))), .a (.b ((!((spec_l00In_v0 a2 (0 : Int) (12 : Int)))))), .a (.u), .a (.i .i64 (y0_8)), .a (.b (decide (y0_8 < (2 : Int)))), .a (.x), .a (.x), .a (.x), .a (.x), .a (.x), .a (.x), .a (.x), .a (.x), .a (.x), .a (.x), .a (.x), .a (.x), .a (.x), .a (.x), .a (.x), .a (.x), .a (.x), .a (.x), .a (.x), .a (.x), .a (.x), .a (.x), .a (.x), .a (.x), .a (.x), .a (.x), .a (.x), .a (.x), .a (.x), .a (.x), .a (.x), .a (.x), .a (.x), .a (.x), .a (.x), .a (.x), .a (.u)], [.row r0_0 29, .row (zc Try.prog 29) 29, .no], [0]⟩ : St)) N ([.a (.i .i64 (0 : Int))], [.row r0_0 29])) (fun e s => (kBlock 2 (kBlock 1 (kSeq (veC Try.prog (mkΓ [(52, con spec_l00In_con), (61, con spec_l01Ok_con), (62, con spec_l01Way_con), (63, con spec_l00Min_con)]) N (cAt (codeOf Try.f18) [1, 1, 1, 0, 1, 0, 0, 1, 1]) (pAt (mkPlan (codeOf Try.f18) [([8], [0]), ([9], [0])]).1 [1, 1, 1, 0, 1, 0, 1, 1]) (Stp LS (Exit × LS))) (kBody 3 [8] [0])))) e (left (writes (cAt (codeOf Try.f18) [1, 1, 1, 0, 1, 0, 0, 1, 0, 0, 1, 0, 0])) [9] [0] (⟨[.a (.g a0 29), .a (.i .i64 (a1)), .a (.i .i64 (a2)), .a (.w 0), .a (.u), .a (.u), .a (.w 1), .a (.i .i64 (0 : Int)), .a (.i .i64 (y0_8)), .a (.i .i64 (0 : Int)), .a (.x), .a (.x), .a (.b ((okS a0))), .a (.b ((!((okS a0))))), .a (.u), .a (.i .i64 (a1)), .a (.b ((spec_l00In_v0 a1 (0 : Int) (4 : Int)))), .a (.b ((!((spec_l00In_v0 a1 (0 : Int) (4 : Int)))))), .a (.b (false)), .a (.i .i64 (a2)), .a (.b ((spec_l00In_v0 a2 (0 : Int) (12 : Int)))), .a (.b ((!((spec_l00In_v0 a2 (0 : Int) (12 : Int)))))), .a (.b ((!((spec_l00In_v0 a2 (0 : Int) (12 : Int)))))), .a (.u), .a (.i .i64 (y0_8)), .a (.b (decide (y0_8 < (2 : Int)))), .a (.x), .a (.x), .a (.x), .a (.x), .a (.x), .a (.x), .a (.x), .a (.x), .a (.x), .a (.x), .a (.x), .a (.x), .a (.x), .a (.x), .a (.x), .a (.x), .a (.x), .a (.x), .a (.x), .a (.x), .a (.x), .a (.x), .a (.x), .a (.x), .a (.x), .a (.x), .a (.x), .a (.x), .a (.x), .a (.x), .a (.x), .a (.x), .a (.x), .a (.x), .a (.x), .a (.x), .a (.u)], [.row r0_0 29, .row (zc Try.prog 29) 29, .no], [0]⟩ : St) s)) = mapS spec_WithCurrent_e0 spec_WithCurrent_x0 (nodeX (iterO (spec_WithCurrent_g1 Try.prog a0 a1 a2 y0_8 r0_0) N ((0 : Int), r0_0)) (fun x => spec_WithCurrent_k1_0 Try.prog N a0 a1 a2 y0_8 r0_0 x.1 x.2)) := by
  refine (loop_node spec_WithCurrent_e1 spec_WithCurrent_x1 _ _ (spec_WithCurrent_s1 N a0 a1 a2 y0_8 r0_0) N ((0 : Int), r0_0) _ (fun x => mapS spec_WithCurrent_e0 spec_WithCurrent_x0 ((fun x => spec_WithCurrent_k1_0 Try.prog N a0 a1 a2 y0_8 r0_0 x.1 x.2) x)) ?_).trans (mapS_nodeX spec_WithCurrent_e0 spec_WithCurrent_x0 _ _).symm
  intro x; exact spec_WithCurrent_k1_0_eq N a0 a1 a2 y0_8 r0_0 x.1 x.2

noncomputable def spec_WithCurrent_g0 (P : Program) (N : Nat) (a0 : Array Value) (a1 : Int) (a2 : Int) : Int × Array Value → Option (Stp (Int × Array Value) (Int × Array Value))
  | (y0_8, r0_0) => bif decide (y0_8 < (2 : Int)) then (nodeX (iterO (spec_WithCurrent_g1 P a0 a1 a2 y0_8 r0_0) N ((0 : Int), r0_0)) (fun x => spec_WithCurrent_k1_0 P N a0 a1 a2 y0_8 r0_0 x.1 x.2))
    else (some (.done (y0_8, r0_0)))

theorem spec_WithCurrent_s0 (N : Nat) (a0 : Array Value) (a1 : Int) (a2 : Int) : ∀ t : Int × Array Value, stepV Try.prog (mkΓ [(52, con spec_l00In_con), (61, con spec_l01Ok_con), (62, con spec_l01Way_con), (63, con spec_l00Min_con)]) N (cAt (codeOf Try.f18) [1, 1, 1, 0, 1, 0, 0]) (pAt (mkPlan (codeOf Try.f18) [([8], [0]), ([9], [0])]).1 [1, 1, 1, 0, 1, 0]) [8] [0] (⟨[.a (.g a0 29), .a (.i .i64 (a1)), .a (.i .i64 (a2)), .a (.w 0), .a (.u), .a (.u), .a (.w 1), .a (.i .i64 (0 : Int)), .a (.i .i64 (0 : Int)), .a (.u), .a (.u), .a (.u), .a (.b ((okS a0))), .a (.b ((!((okS a0))))), .a (.u), .a (.i .i64 (a1)), .a (.b ((spec_l00In_v0 a1 (0 : Int) (4 : Int)))), .a (.b ((!((spec_l00In_v0 a1 (0 : Int) (4 : Int)))))), .a (.b (false)), .a (.i .i64 (a2)), .a (.b ((spec_l00In_v0 a2 (0 : Int) (12 : Int)))), .a (.b ((!((spec_l00In_v0 a2 (0 : Int) (12 : Int)))))), .a (.b ((!((spec_l00In_v0 a2 (0 : Int) (12 : Int)))))), .a (.u), .a (.u), .a (.u), .a (.u), .a (.u), .a (.u), .a (.u), .a (.u), .a (.u), .a (.u), .a (.u), .a (.u), .a (.u), .a (.u), .a (.u), .a (.u), .a (.u), .a (.u), .a (.u), .a (.u), .a (.u), .a (.u), .a (.u), .a (.u), .a (.u), .a (.u), .a (.u), .a (.u), .a (.u), .a (.u), .a (.u), .a (.u), .a (.u), .a (.u), .a (.u), .a (.u), .a (.u), .a (.u), .a (.u), .a (.u)], [.row a0 29, .row (zc Try.prog 29) 29, .no], []⟩ : St) (spec_WithCurrent_e0 t) = mapS spec_WithCurrent_e0 spec_WithCurrent_x0 (spec_WithCurrent_g0 Try.prog N a0 a1 a2 t) := by
  rintro ⟨y0_8, r0_0⟩
  have h : stepV Try.prog (mkΓ [(52, con spec_l00In_con), (61, con spec_l01Ok_con), (62, con spec_l01Way_con), (63, con spec_l00Min_con)]) N (cAt (codeOf Try.f18) [1, 1, 1, 0, 1, 0, 0]) (pAt (mkPlan (codeOf Try.f18) [([8], [0]), ([9], [0])]).1 [1, 1, 1, 0, 1, 0]) [8] [0] (⟨[.a (.g a0 29), .a (.i .i64 (a1)), .a (.i .i64 (a2)), .a (.w 0), .a (.u), .a (.u), .a (.w 1), .a (.i .i64 (0 : Int)), .a (.i .i64 (0 : Int)), .a (.u), .a (.u), .a (.u), .a (.b ((okS a0))), .a (.b ((!((okS a0))))), .a (.u), .a (.i .i64 (a1)), .a (.b ((spec_l00In_v0 a1 (0 : Int) (4 : Int)))), .a (.b ((!((spec_l00In_v0 a1 (0 : Int) (4 : Int)))))), .a (.b (false)), .a (.i .i64 (a2)), .a (.b ((spec_l00In_v0 a2 (0 : Int) (12 : Int)))), .a (.b ((!((spec_l00In_v0 a2 (0 : Int) (12 : Int)))))), .a (.b ((!((spec_l00In_v0 a2 (0 : Int) (12 : Int)))))), .a (.u), .a (.u), .a (.u), .a (.u), .a (.u), .a (.u), .a (.u), .a (.u), .a (.u), .a (.u), .a (.u), .a (.u), .a (.u), .a (.u), .a (.u), .a (.u), .a (.u), .a (.u), .a (.u), .a (.u), .a (.u), .a (.u), .a (.u), .a (.u), .a (.u), .a (.u), .a (.u), .a (.u), .a (.u), .a (.u), .a (.u), .a (.u), .a (.u), .a (.u), .a (.u), .a (.u), .a (.u), .a (.u), .a (.u), .a (.u)], [.row a0 29, .row (zc Try.prog 29) 29, .no], []⟩ : St) ([.a (.i .i64 (y0_8))], [.row r0_0 29]) = (bif decide (y0_8 < (2 : Int)) then (bindX (iterO (stepV Try.prog (mkΓ [(52, con spec_l00In_con), (61, con spec_l01Ok_con), (62, con spec_l01Way_con), (63, con spec_l00Min_con)]) N (cAt (codeOf Try.f18) [1, 1, 1, 0, 1, 0, 0, 1, 0, 0, 1, 0, 0]) (pAt (mkPlan (codeOf Try.f18) [([8], [0]), ([9], [0])]).1 [1, 1, 1, 0, 1, 0, 1, 0, 1, 0]) [9] [0] (⟨[.a (.g a0 29), .a (.i .i64 (a1)), .a (.i .i64 (a2)), .a (.w 0), .a (.u), .a (.u), .a (.w 1), .a (.i .i64 (0 : Int)), .a (.i .i64 (y0_8)), .a (.i .i64 (0 : Int)), .a (.x), .a (.x), .a (.b ((okS a0))), .a (.b ((!((okS a0))))), .a (.u), .a (.i .i64 (a1)), .a (.b ((spec_l00In_v0 a1 (0 : Int) (4 : Int)))), .a (.b ((!((spec_l00In_v0 a1 (0 : Int) (4 : Int)))))), .a (.b (false)), .a (.i .i64 (a2)), .a (.b ((spec_l00In_v0 a2 (0 : Int) (12 : Int)))), .a (.b ((!((spec_l00In_v0 a2 (0 : Int) (12 : Int)))))), .a (.b ((!((spec_l00In_v0 a2 (0 : Int) (12 : Int)))))), .a (.u), .a (.i .i64 (y0_8)), .a (.b (decide (y0_8 < (2 : Int)))), .a (.x), .a (.x), .a (.x), .a (.x), .a (.x), .a (.x), .a (.x), .a (.x), .a (.x), .a (.x), .a (.x), .a (.x), .a (.x), .a (.x), .a (.x), .a (.x), .a (.x), .a (.x), .a (.x), .a (.x), .a (.x), .a (.x), .a (.x), .a (.x), .a (.x), .a (.x), .a (.x), .a (.x), .a (.x), .a (.x), .a (.x), .a (.x), .a (.x), .a (.x), .a (.x), .a (.x), .a (.u)], [.row r0_0 29, .row (zc Try.prog 29) 29, .no], [0]⟩ : St)) N ([.a (.i .i64 (0 : Int))], [.row r0_0 29])) (fun e s => (kBlock 2 (kBlock 1 (kSeq (veC Try.prog (mkΓ [(52, con spec_l00In_con), (61, con spec_l01Ok_con), (62, con spec_l01Way_con), (63, con spec_l00Min_con)]) N (cAt (codeOf Try.f18) [1, 1, 1, 0, 1, 0, 0, 1, 1]) (pAt (mkPlan (codeOf Try.f18) [([8], [0]), ([9], [0])]).1 [1, 1, 1, 0, 1, 0, 1, 1]) (Stp LS (Exit × LS))) (kBody 3 [8] [0])))) e (left (writes (cAt (codeOf Try.f18) [1, 1, 1, 0, 1, 0, 0, 1, 0, 0, 1, 0, 0])) [9] [0] (⟨[.a (.g a0 29), .a (.i .i64 (a1)), .a (.i .i64 (a2)), .a (.w 0), .a (.u), .a (.u), .a (.w 1), .a (.i .i64 (0 : Int)), .a (.i .i64 (y0_8)), .a (.i .i64 (0 : Int)), .a (.x), .a (.x), .a (.b ((okS a0))), .a (.b ((!((okS a0))))), .a (.u), .a (.i .i64 (a1)), .a (.b ((spec_l00In_v0 a1 (0 : Int) (4 : Int)))), .a (.b ((!((spec_l00In_v0 a1 (0 : Int) (4 : Int)))))), .a (.b (false)), .a (.i .i64 (a2)), .a (.b ((spec_l00In_v0 a2 (0 : Int) (12 : Int)))), .a (.b ((!((spec_l00In_v0 a2 (0 : Int) (12 : Int)))))), .a (.b ((!((spec_l00In_v0 a2 (0 : Int) (12 : Int)))))), .a (.u), .a (.i .i64 (y0_8)), .a (.b (decide (y0_8 < (2 : Int)))), .a (.x), .a (.x), .a (.x), .a (.x), .a (.x), .a (.x), .a (.x), .a (.x), .a (.x), .a (.x), .a (.x), .a (.x), .a (.x), .a (.x), .a (.x), .a (.x), .a (.x), .a (.x), .a (.x), .a (.x), .a (.x), .a (.x), .a (.x), .a (.x), .a (.x), .a (.x), .a (.x), .a (.x), .a (.x), .a (.x), .a (.x), .a (.x), .a (.x), .a (.x), .a (.x), .a (.x), .a (.u)], [.row r0_0 29, .row (zc Try.prog 29) 29, .no], [0]⟩ : St) s)))
    else (some (.done ((.exit 0), ([.a (.i .i64 (y0_8))], [.row r0_0 29]))))) := by kernel_rfl
  refine h.trans ?_
  simp only [spec_WithCurrent_n1, spec_WithCurrent_g0, mapS_cond, mapS_more, mapS_done, mapS_none, spec_WithCurrent_e0, spec_WithCurrent_x0]

noncomputable def spec_WithCurrent_k0_0 (P : Program) (N : Nat) (a0 : Array Value) (a1 : Int) (a2 : Int) (z0_8 : Int) (q0_0 : Array Value) : Option (SV × Eff × Bool) := some (.t [.g q0_0 29, .i .i64 (0 : Int)], .none, true)

theorem spec_WithCurrent_k0_0_eq (N : Nat) (a0 : Array Value) (a1 : Int) (a2 : Int) (z0_8 : Int) (q0_0 : Array Value) : (kBlock 0 (kSeq (veC Try.prog (mkΓ [(52, con spec_l00In_con), (61, con spec_l01Ok_con), (62, con spec_l01Way_con), (63, con spec_l00Min_con)]) N (cAt (codeOf Try.f18) [1, 1, 1, 1]) (pAt (mkPlan (codeOf Try.f18) [([8], [0]), ([9], [0])]).1 [1, 1, 1, 1]) (SV × Eff × Bool)) (finK Try.prog [] [.cell 6 29, .tmp 7]))) (.exit 0) (left (writes (cAt (codeOf Try.f18) [1, 1, 1, 0, 1, 0, 0])) [8] [0] (⟨[.a (.g a0 29), .a (.i .i64 (a1)), .a (.i .i64 (a2)), .a (.w 0), .a (.u), .a (.u), .a (.w 1), .a (.i .i64 (0 : Int)), .a (.i .i64 (0 : Int)), .a (.u), .a (.u), .a (.u), .a (.b ((okS a0))), .a (.b ((!((okS a0))))), .a (.u), .a (.i .i64 (a1)), .a (.b ((spec_l00In_v0 a1 (0 : Int) (4 : Int)))), .a (.b ((!((spec_l00In_v0 a1 (0 : Int) (4 : Int)))))), .a (.b (false)), .a (.i .i64 (a2)), .a (.b ((spec_l00In_v0 a2 (0 : Int) (12 : Int)))), .a (.b ((!((spec_l00In_v0 a2 (0 : Int) (12 : Int)))))), .a (.b ((!((spec_l00In_v0 a2 (0 : Int) (12 : Int)))))), .a (.u), .a (.u), .a (.u), .a (.u), .a (.u), .a (.u), .a (.u), .a (.u), .a (.u), .a (.u), .a (.u), .a (.u), .a (.u), .a (.u), .a (.u), .a (.u), .a (.u), .a (.u), .a (.u), .a (.u), .a (.u), .a (.u), .a (.u), .a (.u), .a (.u), .a (.u), .a (.u), .a (.u), .a (.u), .a (.u), .a (.u), .a (.u), .a (.u), .a (.u), .a (.u), .a (.u), .a (.u), .a (.u), .a (.u), .a (.u)], [.row a0 29, .row (zc Try.prog 29) 29, .no], []⟩ : St) ([.a (.i .i64 (z0_8))], [.row q0_0 29])) = spec_WithCurrent_k0_0 Try.prog N a0 a1 a2 z0_8 q0_0 := by
  have h : (kBlock 0 (kSeq (veC Try.prog (mkΓ [(52, con spec_l00In_con), (61, con spec_l01Ok_con), (62, con spec_l01Way_con), (63, con spec_l00Min_con)]) N (cAt (codeOf Try.f18) [1, 1, 1, 1]) (pAt (mkPlan (codeOf Try.f18) [([8], [0]), ([9], [0])]).1 [1, 1, 1, 1]) (SV × Eff × Bool)) (finK Try.prog [] [.cell 6 29, .tmp 7]))) (.exit 0) (left (writes (cAt (codeOf Try.f18) [1, 1, 1, 0, 1, 0, 0])) [8] [0] (⟨[.a (.g a0 29), .a (.i .i64 (a1)), .a (.i .i64 (a2)), .a (.w 0), .a (.u), .a (.u), .a (.w 1), .a (.i .i64 (0 : Int)), .a (.i .i64 (0 : Int)), .a (.u), .a (.u), .a (.u), .a (.b ((okS a0))), .a (.b ((!((okS a0))))), .a (.u), .a (.i .i64 (a1)), .a (.b ((spec_l00In_v0 a1 (0 : Int) (4 : Int)))), .a (.b ((!((spec_l00In_v0 a1 (0 : Int) (4 : Int)))))), .a (.b (false)), .a (.i .i64 (a2)), .a (.b ((spec_l00In_v0 a2 (0 : Int) (12 : Int)))), .a (.b ((!((spec_l00In_v0 a2 (0 : Int) (12 : Int)))))), .a (.b ((!((spec_l00In_v0 a2 (0 : Int) (12 : Int)))))), .a (.u), .a (.u), .a (.u), .a (.u), .a (.u), .a (.u), .a (.u), .a (.u), .a (.u), .a (.u), .a (.u), .a (.u), .a (.u), .a (.u), .a (.u), .a (.u), .a (.u), .a (.u), .a (.u), .a (.u), .a (.u), .a (.u), .a (.u), .a (.u), .a (.u), .a (.u), .a (.u), .a (.u), .a (.u), .a (.u), .a (.u), .a (.u), .a (.u), .a (.u), .a (.u), .a (.u), .a (.u), .a (.u), .a (.u), .a (.u)], [.row a0 29, .row (zc Try.prog 29) 29, .no], []⟩ : St) ([.a (.i .i64 (z0_8))], [.row q0_0 29])) = (some (.t [.g q0_0 29, .i .i64 (0 : Int)], .none, true)) := by kernel_rfl
  refine h.trans ?_
  rfl

theorem spec_WithCurrent_n0 (N : Nat) (a0 : Array Value) (a1 : Int) (a2 : Int) : bindX (iterO (stepV Try.prog (mkΓ [(52, con spec_l00In_con), (61, con spec_l01Ok_con), (62, con spec_l01Way_con), (63, con spec_l00Min_con)]) N (cAt (codeOf Try.f18) [1, 1, 1, 0, 1, 0, 0]) (pAt (mkPlan (codeOf Try.f18) [([8], [0]), ([9], [0])]).1 [1, 1, 1, 0, 1, 0]) [8] [0] (⟨[.a (.g a0 29), .a (.i .i64 (a1)), .a (.i .i64 (a2)), .a (.w 0), .a (.u), .a (.u), .a (.w 1), .a (.i .i64 (0 : Int)), .a (.i .i64 (0 : Int)), .a (.u), .a (.u), .a (.u), .a (.b ((okS a0))), .a (.b ((!((okS a0))))), .a (.u), .a (.i .i64 (a1)), .a (.b ((spec_l00In_v0 a1 (0 : Int) (4 : Int)))), .a (.b ((!((spec_l00In_v0 a1 (0 : Int) (4 : Int)))))), .a (.b (false)), .a (.i .i64 (a2)), .a (.b ((spec_l00In_v0 a2 (0 : Int) (12 : Int)))), .a (.b ((!((spec_l00In_v0 a2 (0 : Int) (12 : Int)))))), .a (.b ((!((spec_l00In_v0 a2 (0 : Int) (12 : Int)))))), .a (.u), .a (.u), .a (.u), .a (.u), .a (.u), .a (.u), .a (.u), .a (.u), .a (.u), .a (.u), .a (.u), .a (.u), .a (.u), .a (.u), .a (.u), .a (.u), .a (.u), .a (.u), .a (.u), .a (.u), .a (.u), .a (.u), .a (.u), .a (.u), .a (.u), .a (.u), .a (.u), .a (.u), .a (.u), .a (.u), .a (.u), .a (.u), .a (.u), .a (.u), .a (.u), .a (.u), .a (.u), .a (.u), .a (.u), .a (.u)], [.row a0 29, .row (zc Try.prog 29) 29, .no], []⟩ : St)) N ([.a (.i .i64 (0 : Int))], [.row a0 29])) (fun e s => (kBlock 0 (kSeq (veC Try.prog (mkΓ [(52, con spec_l00In_con), (61, con spec_l01Ok_con), (62, con spec_l01Way_con), (63, con spec_l00Min_con)]) N (cAt (codeOf Try.f18) [1, 1, 1, 1]) (pAt (mkPlan (codeOf Try.f18) [([8], [0]), ([9], [0])]).1 [1, 1, 1, 1]) (SV × Eff × Bool)) (finK Try.prog [] [.cell 6 29, .tmp 7]))) e (left (writes (cAt (codeOf Try.f18) [1, 1, 1, 0, 1, 0, 0])) [8] [0] (⟨[.a (.g a0 29), .a (.i .i64 (a1)), .a (.i .i64 (a2)), .a (.w 0), .a (.u), .a (.u), .a (.w 1), .a (.i .i64 (0 : Int)), .a (.i .i64 (0 : Int)), .a (.u), .a (.u), .a (.u), .a (.b ((okS a0))), .a (.b ((!((okS a0))))), .a (.u), .a (.i .i64 (a1)), .a (.b ((spec_l00In_v0 a1 (0 : Int) (4 : Int)))), .a (.b ((!((spec_l00In_v0 a1 (0 : Int) (4 : Int)))))), .a (.b (false)), .a (.i .i64 (a2)), .a (.b ((spec_l00In_v0 a2 (0 : Int) (12 : Int)))), .a (.b ((!((spec_l00In_v0 a2 (0 : Int) (12 : Int)))))), .a (.b ((!((spec_l00In_v0 a2 (0 : Int) (12 : Int)))))), .a (.u), .a (.u), .a (.u), .a (.u), .a (.u), .a (.u), .a (.u), .a (.u), .a (.u), .a (.u), .a (.u), .a (.u), .a (.u), .a (.u), .a (.u), .a (.u), .a (.u), .a (.u), .a (.u), .a (.u), .a (.u), .a (.u), .a (.u), .a (.u), .a (.u), .a (.u), .a (.u), .a (.u), .a (.u), .a (.u), .a (.u), .a (.u), .a (.u), .a (.u), .a (.u), .a (.u), .a (.u), .a (.u), .a (.u), .a (.u)], [.row a0 29, .row (zc Try.prog 29) 29, .no], []⟩ : St) s)) = nodeX (iterO (spec_WithCurrent_g0 Try.prog N a0 a1 a2) N ((0 : Int), a0)) (fun x => spec_WithCurrent_k0_0 Try.prog N a0 a1 a2 x.1 x.2) := by
  refine loop_node spec_WithCurrent_e0 spec_WithCurrent_x0 _ _ (spec_WithCurrent_s0 N a0 a1 a2) N ((0 : Int), a0) _ _ ?_
  intro x; exact spec_WithCurrent_k0_0_eq N a0 a1 a2 x.1 x.2

theorem spec_WithCurrent_ans (N : Nat) (a0 : Array Value) (a1 : Int) (a2 : Int) : ansV Try.prog (mkΓ [(52, con spec_l00In_con), (61, con spec_l01Ok_con), (62, con spec_l01Way_con), (63, con spec_l00Min_con)]) N Try.f18 [([8], [0]), ([9], [0])] [.g a0 29, .i .i64 (a1), .i .i64 (a2)] [] = (bif (!((okS a0))) then (some (.t [.g (zc Try.prog 29) 29, .i .i64 (1 : Int)], .none, true))
    else (bif (!((spec_l00In_v0 a1 (0 : Int) (4 : Int)))) then (some (.t [.g (zc Try.prog 29) 29, .i .i64 (2 : Int)], .none, true))
      else (bif (!((spec_l00In_v0 a2 (0 : Int) (12 : Int)))) then (some (.t [.g (zc Try.prog 29) 29, .i .i64 (2 : Int)], .none, true))
        else (nodeX (iterO (spec_WithCurrent_g0 Try.prog N a0 a1 a2) N ((0 : Int), a0)) (fun x => spec_WithCurrent_k0_0 Try.prog N a0 a1 a2 x.1 x.2))))) := by
  have h : ansV Try.prog (mkΓ [(52, con spec_l00In_con), (61, con spec_l01Ok_con), (62, con spec_l01Way_con), (63, con spec_l00Min_con)]) N Try.f18 [([8], [0]), ([9], [0])] [.g a0 29, .i .i64 (a1), .i .i64 (a2)] [] = (bif (!((okS a0))) then (some (.t [.g (zc Try.prog 29) 29, .i .i64 (1 : Int)], .none, true))
    else (bif (!((spec_l00In_v0 a1 (0 : Int) (4 : Int)))) then (some (.t [.g (zc Try.prog 29) 29, .i .i64 (2 : Int)], .none, true))
      else (bif (!((spec_l00In_v0 a2 (0 : Int) (12 : Int)))) then (some (.t [.g (zc Try.prog 29) 29, .i .i64 (2 : Int)], .none, true))
        else (bindX (iterO (stepV Try.prog (mkΓ [(52, con spec_l00In_con), (61, con spec_l01Ok_con), (62, con spec_l01Way_con), (63, con spec_l00Min_con)]) N (cAt (codeOf Try.f18) [1, 1, 1, 0, 1, 0, 0]) (pAt (mkPlan (codeOf Try.f18) [([8], [0]), ([9], [0])]).1 [1, 1, 1, 0, 1, 0]) [8] [0] (⟨[.a (.g a0 29), .a (.i .i64 (a1)), .a (.i .i64 (a2)), .a (.w 0), .a (.u), .a (.u), .a (.w 1), .a (.i .i64 (0 : Int)), .a (.i .i64 (0 : Int)), .a (.u), .a (.u), .a (.u), .a (.b ((okS a0))), .a (.b ((!((okS a0))))), .a (.u), .a (.i .i64 (a1)), .a (.b ((spec_l00In_v0 a1 (0 : Int) (4 : Int)))), .a (.b ((!((spec_l00In_v0 a1 (0 : Int) (4 : Int)))))), .a (.b (false)), .a (.i .i64 (a2)), .a (.b ((spec_l00In_v0 a2 (0 : Int) (12 : Int)))), .a (.b ((!((spec_l00In_v0 a2 (0 : Int) (12 : Int)))))), .a (.b ((!((spec_l00In_v0 a2 (0 : Int) (12 : Int)))))), .a (.u), .a (.u), .a (.u), .a (.u), .a (.u), .a (.u), .a (.u), .a (.u), .a (.u), .a (.u), .a (.u), .a (.u), .a (.u), .a (.u), .a (.u), .a (.u), .a (.u), .a (.u), .a (.u), .a (.u), .a (.u), .a (.u), .a (.u), .a (.u), .a (.u), .a (.u), .a (.u), .a (.u), .a (.u), .a (.u), .a (.u), .a (.u), .a (.u), .a (.u), .a (.u), .a (.u), .a (.u), .a (.u), .a (.u), .a (.u)], [.row a0 29, .row (zc Try.prog 29) 29, .no], []⟩ : St)) N ([.a (.i .i64 (0 : Int))], [.row a0 29])) (fun e s => (kBlock 0 (kSeq (veC Try.prog (mkΓ [(52, con spec_l00In_con), (61, con spec_l01Ok_con), (62, con spec_l01Way_con), (63, con spec_l00Min_con)]) N (cAt (codeOf Try.f18) [1, 1, 1, 1]) (pAt (mkPlan (codeOf Try.f18) [([8], [0]), ([9], [0])]).1 [1, 1, 1, 1]) (SV × Eff × Bool)) (finK Try.prog [] [.cell 6 29, .tmp 7]))) e (left (writes (cAt (codeOf Try.f18) [1, 1, 1, 0, 1, 0, 0])) [8] [0] (⟨[.a (.g a0 29), .a (.i .i64 (a1)), .a (.i .i64 (a2)), .a (.w 0), .a (.u), .a (.u), .a (.w 1), .a (.i .i64 (0 : Int)), .a (.i .i64 (0 : Int)), .a (.u), .a (.u), .a (.u), .a (.b ((okS a0))), .a (.b ((!((okS a0))))), .a (.u), .a (.i .i64 (a1)), .a (.b ((spec_l00In_v0 a1 (0 : Int) (4 : Int)))), .a (.b ((!((spec_l00In_v0 a1 (0 : Int) (4 : Int)))))), .a (.b (false)), .a (.i .i64 (a2)), .a (.b ((spec_l00In_v0 a2 (0 : Int) (12 : Int)))), .a (.b ((!((spec_l00In_v0 a2 (0 : Int) (12 : Int)))))), .a (.b ((!((spec_l00In_v0 a2 (0 : Int) (12 : Int)))))), .a (.u), .a (.u), .a (.u), .a (.u), .a (.u), .a (.u), .a (.u), .a (.u), .a (.u), .a (.u), .a (.u), .a (.u), .a (.u), .a (.u), .a (.u), .a (.u), .a (.u), .a (.u), .a (.u), .a (.u), .a (.u), .a (.u), .a (.u), .a (.u), .a (.u), .a (.u), .a (.u), .a (.u), .a (.u), .a (.u), .a (.u), .a (.u), .a (.u), .a (.u), .a (.u), .a (.u), .a (.u), .a (.u), .a (.u), .a (.u)], [.row a0 29, .row (zc Try.prog 29) 29, .no], []⟩ : St) s)))))) := by kernel_rfl
  refine h.trans ?_
  simp only [spec_WithCurrent_n0]

noncomputable def impl_WithCurrent_e1 : Int × Array Value → LS
  | (y1_32, r1_0) => ([.a (.i .i64 (y1_32))], [.row r1_0 29])

noncomputable def impl_WithCurrent_x1 : Int × Array Value → Exit × LS
  | t => ((.exit 2), impl_WithCurrent_e1 t)

noncomputable def impl_WithCurrent_g1 (P : Program) (a0 : Array Value) (a1 : Int) (a2 : Int) (x0 : Int) (r0_0 : Array Value) : Int × Array Value → Option (Stp (Int × Array Value) (Int × Array Value))
  | (y1_32, r1_0) => bif decide (y1_32 < (2 : Int)) then (bif (decide (0 ≤ y1_32) && decide (y1_32 < 2)) then (bif (decide (0 ≤ x0) && decide (x0 < 36)) then (bif (impl_flowing_gd (r1_0.extract ((3 + ((y1_32).toNat * 180)) + ((x0).toNat * 5)) (((3 + ((y1_32).toNat * 180)) + ((x0).toNat * 5)) + 5)) a1 a2) then (bif (decide (0 ≤ y1_32) && decide (y1_32 < 2)) then (bif (decide (0 ≤ x0) && decide (x0 < 36)) then (some (.more ((IntKind.i64.wrap (y1_32 + (1 : Int))), (spl r1_0 ((3 + ((y1_32).toNat * 180)) + ((x0).toNat * 5)) (impl_flowing_v0 (r1_0.extract ((3 + ((y1_32).toNat * 180)) + ((x0).toNat * 5)) (((3 + ((y1_32).toNat * 180)) + ((x0).toNat * 5)) + 5)) a1 a2).toList))))
              else (none))
            else (none))
          else (none))
        else (none))
      else (none))
    else (some (.done (y1_32, r1_0)))

theorem impl_WithCurrent_s1 (N : Nat) (a0 : Array Value) (a1 : Int) (a2 : Int) (x0 : Int) (r0_0 : Array Value) : ∀ t : Int × Array Value, stepV Try.prog (mkΓx [(65, con impl_seaCode_con), (66, con impl_hasWay_con), (67, con impl_flowing_con)] [(57, impl_eachWater_nc)] [(101, impl_eachWater_1_ic)]) N (cAt (codeOf Try.f20) [1, 1, 1, 0, 1, 0, 0, 0, 1, 0, 0]) (pAt (mkPlan (codeOf Try.f20) [([], [0]), ([32], [0])]).1 [1, 1, 1, 0, 1, 0, 1, 0]) [32] [0] (⟨[.a (.g a0 29), .a (.i .i64 (a1)), .a (.i .i64 (a2)), .a (.w 0), .a (.w 1), .a (.w 2), .a (.w 3), .a (.i .i64 (0 : Int)), .a (.i .i64 (bif okS a0 then 0 else 1)), .a (.i .i64 (x0)), .a (.u), .a (.g a0 29), .a (.i .i64 (bif okS a0 then 0 else 1)), .a (.i .i64 (bif okS a0 then 0 else 1)), .a (.b (((bif okS a0 then 0 else 1) != (0 : Int)))), .a (.u), .a (.u), .a (.i .i64 (a1)), .a (.b ((impl_hasWay_v0 a1))), .a (.b ((!((impl_hasWay_v0 a1))))), .a (.b (false)), .a (.i .i64 (a2)), .a (.b (decide (a2 < (0 : Int)))), .a (.b (decide (a2 < (0 : Int)))), .a (.b (false)), .a (.i .i64 (a2)), .a (.b (decide (a2 > (12 : Int)))), .a (.b (decide (a2 > (12 : Int)))), .a (.u), .a (.g a0 29), .a (.c 101 [8]), .a (.i .i64 (x0)), .a (.i .i64 (0 : Int)), .a (.u), .a (.u), .a (.u), .a (.u), .a (.u), .a (.u), .a (.u), .a (.u), .a (.u), .a (.u), .a (.u), .a (.u), .a (.u), .a (.u), .a (.u), .a (.u), .a (.u), .a (.u)], [.row r0_0 29, .row #[.int .i64 (a1)] 2, .row #[.int .i64 (a2)] 2, .row (zc Try.prog 29) 29, .no, .no, .no, .no, .row a0 29, .no, .no, .no, .no], []⟩ : St) (impl_WithCurrent_e1 t) = mapS impl_WithCurrent_e1 impl_WithCurrent_x1 (impl_WithCurrent_g1 Try.prog a0 a1 a2 x0 r0_0 t) := by
  rintro ⟨y1_32, r1_0⟩
  have h : stepV Try.prog (mkΓx [(65, con impl_seaCode_con), (66, con impl_hasWay_con), (67, con impl_flowing_con)] [(57, impl_eachWater_nc)] [(101, impl_eachWater_1_ic)]) N (cAt (codeOf Try.f20) [1, 1, 1, 0, 1, 0, 0, 0, 1, 0, 0]) (pAt (mkPlan (codeOf Try.f20) [([], [0]), ([32], [0])]).1 [1, 1, 1, 0, 1, 0, 1, 0]) [32] [0] (⟨[.a (.g a0 29), .a (.i .i64 (a1)), .a (.i .i64 (a2)), .a (.w 0), .a (.w 1), .a (.w 2), .a (.w 3), .a (.i .i64 (0 : Int)), .a (.i .i64 (bif okS a0 then 0 else 1)), .a (.i .i64 (x0)), .a (.u), .a (.g a0 29), .a (.i .i64 (bif okS a0 then 0 else 1)), .a (.i .i64 (bif okS a0 then 0 else 1)), .a (.b (((bif okS a0 then 0 else 1) != (0 : Int)))), .a (.u), .a (.u), .a (.i .i64 (a1)), .a (.b ((impl_hasWay_v0 a1))), .a (.b ((!((impl_hasWay_v0 a1))))), .a (.b (false)), .a (.i .i64 (a2)), .a (.b (decide (a2 < (0 : Int)))), .a (.b (decide (a2 < (0 : Int)))), .a (.b (false)), .a (.i .i64 (a2)), .a (.b (decide (a2 > (12 : Int)))), .a (.b (decide (a2 > (12 : Int)))), .a (.u), .a (.g a0 29), .a (.c 101 [8]), .a (.i .i64 (x0)), .a (.i .i64 (0 : Int)), .a (.u), .a (.u), .a (.u), .a (.u), .a (.u), .a (.u), .a (.u), .a (.u), .a (.u), .a (.u), .a (.u), .a (.u), .a (.u), .a (.u), .a (.u), .a (.u), .a (.u), .a (.u)], [.row r0_0 29, .row #[.int .i64 (a1)] 2, .row #[.int .i64 (a2)] 2, .row (zc Try.prog 29) 29, .no, .no, .no, .no, .row a0 29, .no, .no, .no, .no], []⟩ : St) ([.a (.i .i64 (y1_32))], [.row r1_0 29]) = (bif decide (y1_32 < (2 : Int)) then (bif (decide (0 ≤ y1_32) && decide (y1_32 < 2)) then (bif (decide (0 ≤ x0) && decide (x0 < 36)) then (bif (impl_flowing_gd (r1_0.extract ((3 + ((y1_32).toNat * 180)) + ((x0).toNat * 5)) (((3 + ((y1_32).toNat * 180)) + ((x0).toNat * 5)) + 5)) a1 a2) then (bif (decide (0 ≤ y1_32) && decide (y1_32 < 2)) then (bif (decide (0 ≤ x0) && decide (x0 < 36)) then (some (.more ([.a (.i .i64 (IntKind.i64.wrap (y1_32 + (1 : Int))))], [.row (spl r1_0 ((3 + ((y1_32).toNat * 180)) + ((x0).toNat * 5)) (impl_flowing_v0 (r1_0.extract ((3 + ((y1_32).toNat * 180)) + ((x0).toNat * 5)) (((3 + ((y1_32).toNat * 180)) + ((x0).toNat * 5)) + 5)) a1 a2).toList) 29])))
              else (none))
            else (none))
          else (none))
        else (none))
      else (none))
    else (some (.done ((.exit 2), ([.a (.i .i64 (y1_32))], [.row r1_0 29]))))) := by kernel_rfl
  refine h.trans ?_
  simp only [impl_WithCurrent_g1, mapS_cond, mapS_more, mapS_done, mapS_none, impl_WithCurrent_e1, impl_WithCurrent_x1]

noncomputable def impl_WithCurrent_e0 : Array Value → BS
  | r0_0 => ([.row r0_0 29] : BS)

noncomputable def impl_WithCurrent_x0 : Empty → Exit × BS := fun x => nomatch x

noncomputable def impl_WithCurrent_k1_0 (P : Program) (N : Nat) (a0 : Array Value) (a1 : Int) (a2 : Int) (x0 : Int) (r0_0 : Array Value) (z1_32 : Int) (q1_0 : Array Value) : Option (Stp (Array Value) Empty) := some (.more q1_0)

theorem impl_WithCurrent_k1_0_eq (N : Nat) (a0 : Array Value) (a1 : Int) (a2 : Int) (x0 : Int) (r0_0 : Array Value) (z1_32 : Int) (q1_0 : Array Value) : (kBlock 2 (kBlock 1 (kBodyI 13 [0]))) (.exit 2) (left (writes (cAt (codeOf Try.f20) [1, 1, 1, 0, 1, 0, 0, 0, 1, 0, 0])) [32] [0] (⟨[.a (.g a0 29), .a (.i .i64 (a1)), .a (.i .i64 (a2)), .a (.w 0), .a (.w 1), .a (.w 2), .a (.w 3), .a (.i .i64 (0 : Int)), .a (.i .i64 (bif okS a0 then 0 else 1)), .a (.i .i64 (x0)), .a (.u), .a (.g a0 29), .a (.i .i64 (bif okS a0 then 0 else 1)), .a (.i .i64 (bif okS a0 then 0 else 1)), .a (.b (((bif okS a0 then 0 else 1) != (0 : Int)))), .a (.u), .a (.u), .a (.i .i64 (a1)), .a (.b ((impl_hasWay_v0 a1))), .a (.b ((!((impl_hasWay_v0 a1))))), .a (.b (false)), .a (.i .i64 (a2)), .a (.b (decide (a2 < (0 : Int)))), .a (.b (decide (a2 < (0 : Int)))), .a (.b (false)), .a (.i .i64 (a2)), .a (.b (decide (a2 > (12 : Int)))), .a (.b (decide (a2 > (12 : Int)))), .a (.u), .a (.g a0 29), .a (.c 101 [8]), .a (.i .i64 (x0)), .a (.i .i64 (0 : Int)), .a (.u), .a (.u), .a (.u), .a (.u), .a (.u), .a (.u), .a (.u), .a (.u), .a (.u), .a (.u), .a (.u), .a (.u), .a (.u), .a (.u), .a (.u), .a (.u), .a (.u), .a (.u)], [.row r0_0 29, .row #[.int .i64 (a1)] 2, .row #[.int .i64 (a2)] 2, .row (zc Try.prog 29) 29, .no, .no, .no, .no, .row a0 29, .no, .no, .no, .no], []⟩ : St) ([.a (.i .i64 (z1_32))], [.row q1_0 29])) = mapS impl_WithCurrent_e0 impl_WithCurrent_x0 (impl_WithCurrent_k1_0 Try.prog N a0 a1 a2 x0 r0_0 z1_32 q1_0) := by
  have h : (kBlock 2 (kBlock 1 (kBodyI 13 [0]))) (.exit 2) (left (writes (cAt (codeOf Try.f20) [1, 1, 1, 0, 1, 0, 0, 0, 1, 0, 0])) [32] [0] (⟨[.a (.g a0 29), .a (.i .i64 (a1)), .a (.i .i64 (a2)), .a (.w 0), .a (.w 1), .a (.w 2), .a (.w 3), .a (.i .i64 (0 : Int)), .a (.i .i64 (bif okS a0 then 0 else 1)), .a (.i .i64 (x0)), .a (.u), .a (.g a0 29), .a (.i .i64 (bif okS a0 then 0 else 1)), .a (.i .i64 (bif okS a0 then 0 else 1)), .a (.b (((bif okS a0 then 0 else 1) != (0 : Int)))), .a (.u), .a (.u), .a (.i .i64 (a1)), .a (.b ((impl_hasWay_v0 a1))), .a (.b ((!((impl_hasWay_v0 a1))))), .a (.b (false)), .a (.i .i64 (a2)), .a (.b (decide (a2 < (0 : Int)))), .a (.b (decide (a2 < (0 : Int)))), .a (.b (false)), .a (.i .i64 (a2)), .a (.b (decide (a2 > (12 : Int)))), .a (.b (decide (a2 > (12 : Int)))), .a (.u), .a (.g a0 29), .a (.c 101 [8]), .a (.i .i64 (x0)), .a (.i .i64 (0 : Int)), .a (.u), .a (.u), .a (.u), .a (.u), .a (.u), .a (.u), .a (.u), .a (.u), .a (.u), .a (.u), .a (.u), .a (.u), .a (.u), .a (.u), .a (.u), .a (.u), .a (.u), .a (.u)], [.row r0_0 29, .row #[.int .i64 (a1)] 2, .row #[.int .i64 (a2)] 2, .row (zc Try.prog 29) 29, .no, .no, .no, .no, .row a0 29, .no, .no, .no, .no], []⟩ : St) ([.a (.i .i64 (z1_32))], [.row q1_0 29])) = (some (.more ([.row q1_0 29] : BS))) := by kernel_rfl
  refine h.trans ?_
  simp only [impl_WithCurrent_k1_0, mapS_cond, mapS_more, mapS_done, mapS_none, impl_WithCurrent_e0, impl_WithCurrent_x0]

theorem impl_WithCurrent_n1 (N : Nat) (a0 : Array Value) (a1 : Int) (a2 : Int) (x0 : Int) (r0_0 : Array Value) : bindX (iterO (stepV Try.prog (mkΓx [(65, con impl_seaCode_con), (66, con impl_hasWay_con), (67, con impl_flowing_con)] [(57, impl_eachWater_nc)] [(101, impl_eachWater_1_ic)]) N (cAt (codeOf Try.f20) [1, 1, 1, 0, 1, 0, 0, 0, 1, 0, 0]) (pAt (mkPlan (codeOf Try.f20) [([], [0]), ([32], [0])]).1 [1, 1, 1, 0, 1, 0, 1, 0]) [32] [0] (⟨[.a (.g a0 29), .a (.i .i64 (a1)), .a (.i .i64 (a2)), .a (.w 0), .a (.w 1), .a (.w 2), .a (.w 3), .a (.i .i64 (0 : Int)), .a (.i .i64 (bif okS a0 then 0 else 1)), .a (.i .i64 (x0)), .a (.u), .a (.g a0 29), .a (.i .i64 (bif okS a0 then 0 else 1)), .a (.i .i64 (bif okS a0 then 0 else 1)), .a (.b (((bif okS a0 then 0 else 1) != (0 : Int)))), .a (.u), .a (.u), .a (.i .i64 (a1)), .a (.b ((impl_hasWay_v0 a1))), .a (.b ((!((impl_hasWay_v0 a1))))), .a (.b (false)), .a (.i .i64 (a2)), .a (.b (decide (a2 < (0 : Int)))), .a (.b (decide (a2 < (0 : Int)))), .a (.b (false)), .a (.i .i64 (a2)), .a (.b (decide (a2 > (12 : Int)))), .a (.b (decide (a2 > (12 : Int)))), .a (.u), .a (.g a0 29), .a (.c 101 [8]), .a (.i .i64 (x0)), .a (.i .i64 (0 : Int)), .a (.u), .a (.u), .a (.u), .a (.u), .a (.u), .a (.u), .a (.u), .a (.u), .a (.u), .a (.u), .a (.u), .a (.u), .a (.u), .a (.u), .a (.u), .a (.u), .a (.u), .a (.u)], [.row r0_0 29, .row #[.int .i64 (a1)] 2, .row #[.int .i64 (a2)] 2, .row (zc Try.prog 29) 29, .no, .no, .no, .no, .row a0 29, .no, .no, .no, .no], []⟩ : St)) N ([.a (.i .i64 (0 : Int))], [.row r0_0 29])) (fun e s => (kBlock 2 (kBlock 1 (kBodyI 13 [0]))) e (left (writes (cAt (codeOf Try.f20) [1, 1, 1, 0, 1, 0, 0, 0, 1, 0, 0])) [32] [0] (⟨[.a (.g a0 29), .a (.i .i64 (a1)), .a (.i .i64 (a2)), .a (.w 0), .a (.w 1), .a (.w 2), .a (.w 3), .a (.i .i64 (0 : Int)), .a (.i .i64 (bif okS a0 then 0 else 1)), .a (.i .i64 (x0)), .a (.u), .a (.g a0 29), .a (.i .i64 (bif okS a0 then 0 else 1)), .a (.i .i64 (bif okS a0 then 0 else 1)), .a (.b (((bif okS a0 then 0 else 1) != (0 : Int)))), .a (.u), .a (.u), .a (.i .i64 (a1)), .a (.b ((impl_hasWay_v0 a1))), .a (.b ((!((impl_hasWay_v0 a1))))), .a (.b (false)), .a (.i .i64 (a2)), .a (.b (decide (a2 < (0 : Int)))), .a (.b (decide (a2 < (0 : Int)))), .a (.b (false)), .a (.i .i64 (a2)), .a (.b (decide (a2 > (12 : Int)))), .a (.b (decide (a2 > (12 : Int)))), .a (.u), .a (.g a0 29), .a (.c 101 [8]), .a (.i .i64 (x0)), .a (.i .i64 (0 : Int)), .a (.u), .a (.u), .a (.u), .a (.u), .a (.u), .a (.u), .a (.u), .a (.u), .a (.u), .a (.u), .a (.u), .a (.u), .a (.u), .a (.u), .a (.u), .a (.u), .a (.u), .a (.u)], [.row r0_0 29, .row #[.int .i64 (a1)] 2, .row #[.int .i64 (a2)] 2, .row (zc Try.prog 29) 29, .no, .no, .no, .no, .row a0 29, .no, .no, .no, .no], []⟩ : St) s)) = mapS impl_WithCurrent_e0 impl_WithCurrent_x0 (nodeX (iterO (impl_WithCurrent_g1 Try.prog a0 a1 a2 x0 r0_0) N ((0 : Int), r0_0)) (fun x => impl_WithCurrent_k1_0 Try.prog N a0 a1 a2 x0 r0_0 x.1 x.2)) := by
  refine (loop_node impl_WithCurrent_e1 impl_WithCurrent_x1 _ _ (impl_WithCurrent_s1 N a0 a1 a2 x0 r0_0) N ((0 : Int), r0_0) _ (fun x => mapS impl_WithCurrent_e0 impl_WithCurrent_x0 ((fun x => impl_WithCurrent_k1_0 Try.prog N a0 a1 a2 x0 r0_0 x.1 x.2) x)) ?_).trans (mapS_nodeX impl_WithCurrent_e0 impl_WithCurrent_x0 _ _).symm
  intro x; exact impl_WithCurrent_k1_0_eq N a0 a1 a2 x0 r0_0 x.1 x.2

noncomputable def impl_WithCurrent_g0 (P : Program) (N : Nat) (a0 : Array Value) (a1 : Int) (a2 : Int) (x0 : Int) : Array Value → Option (Stp (Array Value) Empty)
  | r0_0 => nodeX (iterO (impl_WithCurrent_g1 P a0 a1 a2 x0 r0_0) N ((0 : Int), r0_0)) (fun x => impl_WithCurrent_k1_0 P N a0 a1 a2 x0 r0_0 x.1 x.2)

theorem impl_WithCurrent_s0 (N : Nat) (a0 : Array Value) (a1 : Int) (a2 : Int) (x0 : Int) : ∀ t : Array Value, stepI Try.prog (mkΓx [(65, con impl_seaCode_con), (66, con impl_hasWay_con), (67, con impl_flowing_con)] [(57, impl_eachWater_nc)] [(101, impl_eachWater_1_ic)]) N (cAt (codeOf Try.f20) [1, 1, 1, 0, 1, 0, 0]) (pAt (mkPlan (codeOf Try.f20) [([], [0]), ([32], [0])]).1 [1, 1, 1, 0, 1, 0]) 13 [0] [31] [(9, 31)] (⟨[.a (.g a0 29), .a (.i .i64 (a1)), .a (.i .i64 (a2)), .a (.w 0), .a (.w 1), .a (.w 2), .a (.w 3), .a (.i .i64 (0 : Int)), .a (.i .i64 (bif okS a0 then 0 else 1)), .a (.u), .a (.u), .a (.g a0 29), .a (.i .i64 (bif okS a0 then 0 else 1)), .a (.i .i64 (bif okS a0 then 0 else 1)), .a (.b (((bif okS a0 then 0 else 1) != (0 : Int)))), .a (.u), .a (.u), .a (.i .i64 (a1)), .a (.b ((impl_hasWay_v0 a1))), .a (.b ((!((impl_hasWay_v0 a1))))), .a (.b (false)), .a (.i .i64 (a2)), .a (.b (decide (a2 < (0 : Int)))), .a (.b (decide (a2 < (0 : Int)))), .a (.b (false)), .a (.i .i64 (a2)), .a (.b (decide (a2 > (12 : Int)))), .a (.b (decide (a2 > (12 : Int)))), .a (.u), .a (.g a0 29), .a (.c 101 [8]), .a (.u), .a (.u), .a (.u), .a (.u), .a (.u), .a (.u), .a (.u), .a (.u), .a (.u), .a (.u), .a (.u), .a (.u), .a (.u), .a (.u), .a (.u), .a (.u), .a (.u), .a (.u), .a (.u), .a (.u)], [.row a0 29, .row #[.int .i64 (a1)] 2, .row #[.int .i64 (a2)] 2, .row (zc Try.prog 29) 29, .no, .no, .no, .no, .row a0 29, .no, .no, .no, .no], []⟩ : St) [.i .i64 (x0)] (impl_WithCurrent_e0 t) = mapS impl_WithCurrent_e0 impl_WithCurrent_x0 (impl_WithCurrent_g0 Try.prog N a0 a1 a2 x0 t) := by
  rintro r0_0
  have h : stepI Try.prog (mkΓx [(65, con impl_seaCode_con), (66, con impl_hasWay_con), (67, con impl_flowing_con)] [(57, impl_eachWater_nc)] [(101, impl_eachWater_1_ic)]) N (cAt (codeOf Try.f20) [1, 1, 1, 0, 1, 0, 0]) (pAt (mkPlan (codeOf Try.f20) [([], [0]), ([32], [0])]).1 [1, 1, 1, 0, 1, 0]) 13 [0] [31] [(9, 31)] (⟨[.a (.g a0 29), .a (.i .i64 (a1)), .a (.i .i64 (a2)), .a (.w 0), .a (.w 1), .a (.w 2), .a (.w 3), .a (.i .i64 (0 : Int)), .a (.i .i64 (bif okS a0 then 0 else 1)), .a (.u), .a (.u), .a (.g a0 29), .a (.i .i64 (bif okS a0 then 0 else 1)), .a (.i .i64 (bif okS a0 then 0 else 1)), .a (.b (((bif okS a0 then 0 else 1) != (0 : Int)))), .a (.u), .a (.u), .a (.i .i64 (a1)), .a (.b ((impl_hasWay_v0 a1))), .a (.b ((!((impl_hasWay_v0 a1))))), .a (.b (false)), .a (.i .i64 (a2)), .a (.b (decide (a2 < (0 : Int)))), .a (.b (decide (a2 < (0 : Int)))), .a (.b (false)), .a (.i .i64 (a2)), .a (.b (decide (a2 > (12 : Int)))), .a (.b (decide (a2 > (12 : Int)))), .a (.u), .a (.g a0 29), .a (.c 101 [8]), .a (.u), .a (.u), .a (.u), .a (.u), .a (.u), .a (.u), .a (.u), .a (.u), .a (.u), .a (.u), .a (.u), .a (.u), .a (.u), .a (.u), .a (.u), .a (.u), .a (.u), .a (.u), .a (.u), .a (.u)], [.row a0 29, .row #[.int .i64 (a1)] 2, .row #[.int .i64 (a2)] 2, .row (zc Try.prog 29) 29, .no, .no, .no, .no, .row a0 29, .no, .no, .no, .no], []⟩ : St) [.i .i64 (x0)] ([.row r0_0 29] : BS) = (bindX (iterO (stepV Try.prog (mkΓx [(65, con impl_seaCode_con), (66, con impl_hasWay_con), (67, con impl_flowing_con)] [(57, impl_eachWater_nc)] [(101, impl_eachWater_1_ic)]) N (cAt (codeOf Try.f20) [1, 1, 1, 0, 1, 0, 0, 0, 1, 0, 0]) (pAt (mkPlan (codeOf Try.f20) [([], [0]), ([32], [0])]).1 [1, 1, 1, 0, 1, 0, 1, 0]) [32] [0] (⟨[.a (.g a0 29), .a (.i .i64 (a1)), .a (.i .i64 (a2)), .a (.w 0), .a (.w 1), .a (.w 2), .a (.w 3), .a (.i .i64 (0 : Int)), .a (.i .i64 (bif okS a0 then 0 else 1)), .a (.i .i64 (x0)), .a (.u), .a (.g a0 29), .a (.i .i64 (bif okS a0 then 0 else 1)), .a (.i .i64 (bif okS a0 then 0 else 1)), .a (.b (((bif okS a0 then 0 else 1) != (0 : Int)))), .a (.u), .a (.u), .a (.i .i64 (a1)), .a (.b ((impl_hasWay_v0 a1))), .a (.b ((!((impl_hasWay_v0 a1))))), .a (.b (false)), .a (.i .i64 (a2)), .a (.b (decide (a2 < (0 : Int)))), .a (.b (decide (a2 < (0 : Int)))), .a (.b (false)), .a (.i .i64 (a2)), .a (.b (decide (a2 > (12 : Int)))), .a (.b (decide (a2 > (12 : Int)))), .a (.u), .a (.g a0 29), .a (.c 101 [8]), .a (.i .i64 (x0)), .a (.i .i64 (0 : Int)), .a (.u), .a (.u), .a (.u), .a (.u), .a (.u), .a (.u), .a (.u), .a (.u), .a (.u), .a (.u), .a (.u), .a (.u), .a (.u), .a (.u), .a (.u), .a (.u), .a (.u), .a (.u)], [.row r0_0 29, .row #[.int .i64 (a1)] 2, .row #[.int .i64 (a2)] 2, .row (zc Try.prog 29) 29, .no, .no, .no, .no, .row a0 29, .no, .no, .no, .no], []⟩ : St)) N ([.a (.i .i64 (0 : Int))], [.row r0_0 29])) (fun e s => (kBlock 2 (kBlock 1 (kBodyI 13 [0]))) e (left (writes (cAt (codeOf Try.f20) [1, 1, 1, 0, 1, 0, 0, 0, 1, 0, 0])) [32] [0] (⟨[.a (.g a0 29), .a (.i .i64 (a1)), .a (.i .i64 (a2)), .a (.w 0), .a (.w 1), .a (.w 2), .a (.w 3), .a (.i .i64 (0 : Int)), .a (.i .i64 (bif okS a0 then 0 else 1)), .a (.i .i64 (x0)), .a (.u), .a (.g a0 29), .a (.i .i64 (bif okS a0 then 0 else 1)), .a (.i .i64 (bif okS a0 then 0 else 1)), .a (.b (((bif okS a0 then 0 else 1) != (0 : Int)))), .a (.u), .a (.u), .a (.i .i64 (a1)), .a (.b ((impl_hasWay_v0 a1))), .a (.b ((!((impl_hasWay_v0 a1))))), .a (.b (false)), .a (.i .i64 (a2)), .a (.b (decide (a2 < (0 : Int)))), .a (.b (decide (a2 < (0 : Int)))), .a (.b (false)), .a (.i .i64 (a2)), .a (.b (decide (a2 > (12 : Int)))), .a (.b (decide (a2 > (12 : Int)))), .a (.u), .a (.g a0 29), .a (.c 101 [8]), .a (.i .i64 (x0)), .a (.i .i64 (0 : Int)), .a (.u), .a (.u), .a (.u), .a (.u), .a (.u), .a (.u), .a (.u), .a (.u), .a (.u), .a (.u), .a (.u), .a (.u), .a (.u), .a (.u), .a (.u), .a (.u), .a (.u), .a (.u)], [.row r0_0 29, .row #[.int .i64 (a1)] 2, .row #[.int .i64 (a2)] 2, .row (zc Try.prog 29) 29, .no, .no, .no, .no, .row a0 29, .no, .no, .no, .no], []⟩ : St) s))) := by kernel_rfl
  refine h.trans ?_
  simp only [impl_WithCurrent_n1, impl_WithCurrent_g0, mapS_cond, mapS_more, mapS_done, mapS_none, impl_WithCurrent_e0, impl_WithCurrent_x0]

noncomputable def impl_WithCurrent_k0_n (P : Program) (N : Nat) (a0 : Array Value) (a1 : Int) (a2 : Int) (q0_0 : Array Value) : Option (SV × Eff × Bool) := some (.t [.g q0_0 29, .i .i64 (0 : Int)], .none, true)

theorem impl_WithCurrent_k0_n_eq (N : Nat) (a0 : Array Value) (a1 : Int) (a2 : Int) (q0_0 : Array Value) : (kBlock 0 (kSeq (veC Try.prog (mkΓx [(65, con impl_seaCode_con), (66, con impl_hasWay_con), (67, con impl_flowing_con)] [(57, impl_eachWater_nc)] [(101, impl_eachWater_1_ic)]) N (cAt (codeOf Try.f20) [1, 1, 1, 1]) (pAt (mkPlan (codeOf Try.f20) [([], [0]), ([32], [0])]).1 [1, 1, 1, 1]) (SV × Eff × Bool)) (finK Try.prog [] [.cell 6 29, .tmp 7]))) .normal (leftI [0] (⟨[.a (.g a0 29), .a (.i .i64 (a1)), .a (.i .i64 (a2)), .a (.w 0), .a (.w 1), .a (.w 2), .a (.w 3), .a (.i .i64 (0 : Int)), .a (.i .i64 (bif okS a0 then 0 else 1)), .a (.u), .a (.u), .a (.g a0 29), .a (.i .i64 (bif okS a0 then 0 else 1)), .a (.i .i64 (bif okS a0 then 0 else 1)), .a (.b (((bif okS a0 then 0 else 1) != (0 : Int)))), .a (.u), .a (.u), .a (.i .i64 (a1)), .a (.b ((impl_hasWay_v0 a1))), .a (.b ((!((impl_hasWay_v0 a1))))), .a (.b (false)), .a (.i .i64 (a2)), .a (.b (decide (a2 < (0 : Int)))), .a (.b (decide (a2 < (0 : Int)))), .a (.b (false)), .a (.i .i64 (a2)), .a (.b (decide (a2 > (12 : Int)))), .a (.b (decide (a2 > (12 : Int)))), .a (.u), .a (.g a0 29), .a (.c 101 [8]), .a (.u), .a (.u), .a (.u), .a (.u), .a (.u), .a (.u), .a (.u), .a (.u), .a (.u), .a (.u), .a (.u), .a (.u), .a (.u), .a (.u), .a (.u), .a (.u), .a (.u), .a (.u), .a (.u), .a (.u)], [.row a0 29, .row #[.int .i64 (a1)] 2, .row #[.int .i64 (a2)] 2, .row (zc Try.prog 29) 29, .no, .no, .no, .no, .row a0 29, .no, .no, .no, .no], []⟩ : St) ([.row q0_0 29] : BS)) = impl_WithCurrent_k0_n Try.prog N a0 a1 a2 q0_0 := by
  have h : (kBlock 0 (kSeq (veC Try.prog (mkΓx [(65, con impl_seaCode_con), (66, con impl_hasWay_con), (67, con impl_flowing_con)] [(57, impl_eachWater_nc)] [(101, impl_eachWater_1_ic)]) N (cAt (codeOf Try.f20) [1, 1, 1, 1]) (pAt (mkPlan (codeOf Try.f20) [([], [0]), ([32], [0])]).1 [1, 1, 1, 1]) (SV × Eff × Bool)) (finK Try.prog [] [.cell 6 29, .tmp 7]))) .normal (leftI [0] (⟨[.a (.g a0 29), .a (.i .i64 (a1)), .a (.i .i64 (a2)), .a (.w 0), .a (.w 1), .a (.w 2), .a (.w 3), .a (.i .i64 (0 : Int)), .a (.i .i64 (bif okS a0 then 0 else 1)), .a (.u), .a (.u), .a (.g a0 29), .a (.i .i64 (bif okS a0 then 0 else 1)), .a (.i .i64 (bif okS a0 then 0 else 1)), .a (.b (((bif okS a0 then 0 else 1) != (0 : Int)))), .a (.u), .a (.u), .a (.i .i64 (a1)), .a (.b ((impl_hasWay_v0 a1))), .a (.b ((!((impl_hasWay_v0 a1))))), .a (.b (false)), .a (.i .i64 (a2)), .a (.b (decide (a2 < (0 : Int)))), .a (.b (decide (a2 < (0 : Int)))), .a (.b (false)), .a (.i .i64 (a2)), .a (.b (decide (a2 > (12 : Int)))), .a (.b (decide (a2 > (12 : Int)))), .a (.u), .a (.g a0 29), .a (.c 101 [8]), .a (.u), .a (.u), .a (.u), .a (.u), .a (.u), .a (.u), .a (.u), .a (.u), .a (.u), .a (.u), .a (.u), .a (.u), .a (.u), .a (.u), .a (.u), .a (.u), .a (.u), .a (.u), .a (.u), .a (.u)], [.row a0 29, .row #[.int .i64 (a1)] 2, .row #[.int .i64 (a2)] 2, .row (zc Try.prog 29) 29, .no, .no, .no, .no, .row a0 29, .no, .no, .no, .no], []⟩ : St) ([.row q0_0 29] : BS)) = (some (.t [.g q0_0 29, .i .i64 (0 : Int)], .none, true)) := by kernel_rfl
  refine h.trans ?_
  rfl

theorem impl_WithCurrent_n0 (N : Nat) (a0 : Array Value) (a1 : Int) (a2 : Int) : bindI (foldI (fun (x0 : Int) (hb : BS) => stepI Try.prog (mkΓx [(65, con impl_seaCode_con), (66, con impl_hasWay_con), (67, con impl_flowing_con)] [(57, impl_eachWater_nc)] [(101, impl_eachWater_1_ic)]) N (cAt (codeOf Try.f20) [1, 1, 1, 0, 1, 0, 0]) (pAt (mkPlan (codeOf Try.f20) [([], [0]), ([32], [0])]).1 [1, 1, 1, 0, 1, 0]) 13 [0] [31] [(9, 31)] (⟨[.a (.g a0 29), .a (.i .i64 (a1)), .a (.i .i64 (a2)), .a (.w 0), .a (.w 1), .a (.w 2), .a (.w 3), .a (.i .i64 (0 : Int)), .a (.i .i64 (bif okS a0 then 0 else 1)), .a (.u), .a (.u), .a (.g a0 29), .a (.i .i64 (bif okS a0 then 0 else 1)), .a (.i .i64 (bif okS a0 then 0 else 1)), .a (.b (((bif okS a0 then 0 else 1) != (0 : Int)))), .a (.u), .a (.u), .a (.i .i64 (a1)), .a (.b ((impl_hasWay_v0 a1))), .a (.b ((!((impl_hasWay_v0 a1))))), .a (.b (false)), .a (.i .i64 (a2)), .a (.b (decide (a2 < (0 : Int)))), .a (.b (decide (a2 < (0 : Int)))), .a (.b (false)), .a (.i .i64 (a2)), .a (.b (decide (a2 > (12 : Int)))), .a (.b (decide (a2 > (12 : Int)))), .a (.u), .a (.g a0 29), .a (.c 101 [8]), .a (.u), .a (.u), .a (.u), .a (.u), .a (.u), .a (.u), .a (.u), .a (.u), .a (.u), .a (.u), .a (.u), .a (.u), .a (.u), .a (.u), .a (.u), .a (.u), .a (.u), .a (.u), .a (.u), .a (.u)], [.row a0 29, .row #[.int .i64 (a1)] 2, .row #[.int .i64 (a2)] 2, .row (zc Try.prog 29) 29, .no, .no, .no, .no, .row a0 29, .no, .no, .no, .no], []⟩ : St) [.i .i64 (x0)] hb) ((cellsL (num a0 0) (num a0 1) 36).filter (impl_isWater_v0 a0)) ([.row a0 29] : BS)) (fun hb => (kBlock 0 (kSeq (veC Try.prog (mkΓx [(65, con impl_seaCode_con), (66, con impl_hasWay_con), (67, con impl_flowing_con)] [(57, impl_eachWater_nc)] [(101, impl_eachWater_1_ic)]) N (cAt (codeOf Try.f20) [1, 1, 1, 1]) (pAt (mkPlan (codeOf Try.f20) [([], [0]), ([32], [0])]).1 [1, 1, 1, 1]) (SV × Eff × Bool)) (finK Try.prog [] [.cell 6 29, .tmp 7]))) .normal (leftI [0] (⟨[.a (.g a0 29), .a (.i .i64 (a1)), .a (.i .i64 (a2)), .a (.w 0), .a (.w 1), .a (.w 2), .a (.w 3), .a (.i .i64 (0 : Int)), .a (.i .i64 (bif okS a0 then 0 else 1)), .a (.u), .a (.u), .a (.g a0 29), .a (.i .i64 (bif okS a0 then 0 else 1)), .a (.i .i64 (bif okS a0 then 0 else 1)), .a (.b (((bif okS a0 then 0 else 1) != (0 : Int)))), .a (.u), .a (.u), .a (.i .i64 (a1)), .a (.b ((impl_hasWay_v0 a1))), .a (.b ((!((impl_hasWay_v0 a1))))), .a (.b (false)), .a (.i .i64 (a2)), .a (.b (decide (a2 < (0 : Int)))), .a (.b (decide (a2 < (0 : Int)))), .a (.b (false)), .a (.i .i64 (a2)), .a (.b (decide (a2 > (12 : Int)))), .a (.b (decide (a2 > (12 : Int)))), .a (.u), .a (.g a0 29), .a (.c 101 [8]), .a (.u), .a (.u), .a (.u), .a (.u), .a (.u), .a (.u), .a (.u), .a (.u), .a (.u), .a (.u), .a (.u), .a (.u), .a (.u), .a (.u), .a (.u), .a (.u), .a (.u), .a (.u), .a (.u), .a (.u)], [.row a0 29, .row #[.int .i64 (a1)] 2, .row #[.int .i64 (a2)] 2, .row (zc Try.prog 29) 29, .no, .no, .no, .no, .row a0 29, .no, .no, .no, .no], []⟩ : St) hb)) (fun e hb => (kBlock 0 (kSeq (veC Try.prog (mkΓx [(65, con impl_seaCode_con), (66, con impl_hasWay_con), (67, con impl_flowing_con)] [(57, impl_eachWater_nc)] [(101, impl_eachWater_1_ic)]) N (cAt (codeOf Try.f20) [1, 1, 1, 1]) (pAt (mkPlan (codeOf Try.f20) [([], [0]), ([32], [0])]).1 [1, 1, 1, 1]) (SV × Eff × Bool)) (finK Try.prog [] [.cell 6 29, .tmp 7]))) e (leftI [0] (⟨[.a (.g a0 29), .a (.i .i64 (a1)), .a (.i .i64 (a2)), .a (.w 0), .a (.w 1), .a (.w 2), .a (.w 3), .a (.i .i64 (0 : Int)), .a (.i .i64 (bif okS a0 then 0 else 1)), .a (.u), .a (.u), .a (.g a0 29), .a (.i .i64 (bif okS a0 then 0 else 1)), .a (.i .i64 (bif okS a0 then 0 else 1)), .a (.b (((bif okS a0 then 0 else 1) != (0 : Int)))), .a (.u), .a (.u), .a (.i .i64 (a1)), .a (.b ((impl_hasWay_v0 a1))), .a (.b ((!((impl_hasWay_v0 a1))))), .a (.b (false)), .a (.i .i64 (a2)), .a (.b (decide (a2 < (0 : Int)))), .a (.b (decide (a2 < (0 : Int)))), .a (.b (false)), .a (.i .i64 (a2)), .a (.b (decide (a2 > (12 : Int)))), .a (.b (decide (a2 > (12 : Int)))), .a (.u), .a (.g a0 29), .a (.c 101 [8]), .a (.u), .a (.u), .a (.u), .a (.u), .a (.u), .a (.u), .a (.u), .a (.u), .a (.u), .a (.u), .a (.u), .a (.u), .a (.u), .a (.u), .a (.u), .a (.u), .a (.u), .a (.u), .a (.u), .a (.u)], [.row a0 29, .row #[.int .i64 (a1)] 2, .row #[.int .i64 (a2)] 2, .row (zc Try.prog 29) 29, .no, .no, .no, .no, .row a0 29, .no, .no, .no, .no], []⟩ : St) hb)) = nodeI (foldI (impl_WithCurrent_g0 Try.prog N a0 a1 a2) ((cellsL (num a0 0) (num a0 1) 36).filter (impl_isWater_v0 a0)) a0) (fun x => impl_WithCurrent_k0_n Try.prog N a0 a1 a2 x) (fun x : Empty => nomatch x) := by
  refine iter_node impl_WithCurrent_e0 impl_WithCurrent_x0 _ _ (fun y t => impl_WithCurrent_s0 N a0 a1 a2 y t) _ a0 _ _ _ _ ?_ ?_
  · intro x; exact impl_WithCurrent_k0_n_eq N a0 a1 a2 x
  · intro x; exact nomatch x

theorem impl_WithCurrent_ans (N : Nat) (a0 : Array Value) (a1 : Int) (a2 : Int) : ansV Try.prog (mkΓx [(65, con impl_seaCode_con), (66, con impl_hasWay_con), (67, con impl_flowing_con)] [(57, impl_eachWater_nc)] [(101, impl_eachWater_1_ic)]) N Try.f20 [([], [0]), ([32], [0])] [.g a0 29, .i .i64 (a1), .i .i64 (a2)] [] = (bif ((bif okS a0 then 0 else 1) != (0 : Int)) then (some (.t [.g (zc Try.prog 29) 29, .i .i64 (bif okS a0 then 0 else 1)], .none, true))
    else (bif (!((impl_hasWay_v0 a1))) then (some (.t [.g (zc Try.prog 29) 29, .i .i64 (2 : Int)], .none, true))
      else (bif decide (a2 < (0 : Int)) then (some (.t [.g (zc Try.prog 29) 29, .i .i64 (2 : Int)], .none, true))
        else (bif decide (a2 > (12 : Int)) then (some (.t [.g (zc Try.prog 29) 29, .i .i64 (2 : Int)], .none, true))
          else (bif (decide (0 ≤ num a0 0) && decide (num a0 0 ≤ 6) && (decide (0 ≤ num a0 1) && decide (num a0 1 ≤ 6))) then (nodeI (foldI (impl_WithCurrent_g0 Try.prog N a0 a1 a2) ((cellsL (num a0 0) (num a0 1) 36).filter (impl_isWater_v0 a0)) a0) (fun x => impl_WithCurrent_k0_n Try.prog N a0 a1 a2 x) (fun x : Empty => nomatch x))
            else (none)))))) := by
  have h : ansV Try.prog (mkΓx [(65, con impl_seaCode_con), (66, con impl_hasWay_con), (67, con impl_flowing_con)] [(57, impl_eachWater_nc)] [(101, impl_eachWater_1_ic)]) N Try.f20 [([], [0]), ([32], [0])] [.g a0 29, .i .i64 (a1), .i .i64 (a2)] [] = (bif ((bif okS a0 then 0 else 1) != (0 : Int)) then (some (.t [.g (zc Try.prog 29) 29, .i .i64 (bif okS a0 then 0 else 1)], .none, true))
    else (bif (!((impl_hasWay_v0 a1))) then (some (.t [.g (zc Try.prog 29) 29, .i .i64 (2 : Int)], .none, true))
      else (bif decide (a2 < (0 : Int)) then (some (.t [.g (zc Try.prog 29) 29, .i .i64 (2 : Int)], .none, true))
        else (bif decide (a2 > (12 : Int)) then (some (.t [.g (zc Try.prog 29) 29, .i .i64 (2 : Int)], .none, true))
          else (bif (decide (0 ≤ num a0 0) && decide (num a0 0 ≤ 6) && (decide (0 ≤ num a0 1) && decide (num a0 1 ≤ 6))) then (bindI (foldI (fun (x0 : Int) (hb : BS) => stepI Try.prog (mkΓx [(65, con impl_seaCode_con), (66, con impl_hasWay_con), (67, con impl_flowing_con)] [(57, impl_eachWater_nc)] [(101, impl_eachWater_1_ic)]) N (cAt (codeOf Try.f20) [1, 1, 1, 0, 1, 0, 0]) (pAt (mkPlan (codeOf Try.f20) [([], [0]), ([32], [0])]).1 [1, 1, 1, 0, 1, 0]) 13 [0] [31] [(9, 31)] (⟨[.a (.g a0 29), .a (.i .i64 (a1)), .a (.i .i64 (a2)), .a (.w 0), .a (.w 1), .a (.w 2), .a (.w 3), .a (.i .i64 (0 : Int)), .a (.i .i64 (bif okS a0 then 0 else 1)), .a (.u), .a (.u), .a (.g a0 29), .a (.i .i64 (bif okS a0 then 0 else 1)), .a (.i .i64 (bif okS a0 then 0 else 1)), .a (.b (((bif okS a0 then 0 else 1) != (0 : Int)))), .a (.u), .a (.u), .a (.i .i64 (a1)), .a (.b ((impl_hasWay_v0 a1))), .a (.b ((!((impl_hasWay_v0 a1))))), .a (.b (false)), .a (.i .i64 (a2)), .a (.b (decide (a2 < (0 : Int)))), .a (.b (decide (a2 < (0 : Int)))), .a (.b (false)), .a (.i .i64 (a2)), .a (.b (decide (a2 > (12 : Int)))), .a (.b (decide (a2 > (12 : Int)))), .a (.u), .a (.g a0 29), .a (.c 101 [8]), .a (.u), .a (.u), .a (.u), .a (.u), .a (.u), .a (.u), .a (.u), .a (.u), .a (.u), .a (.u), .a (.u), .a (.u), .a (.u), .a (.u), .a (.u), .a (.u), .a (.u), .a (.u), .a (.u), .a (.u)], [.row a0 29, .row #[.int .i64 (a1)] 2, .row #[.int .i64 (a2)] 2, .row (zc Try.prog 29) 29, .no, .no, .no, .no, .row a0 29, .no, .no, .no, .no], []⟩ : St) [.i .i64 (x0)] hb) ((cellsL (num a0 0) (num a0 1) 36).filter (impl_isWater_v0 a0)) ([.row a0 29] : BS)) (fun hb => (kBlock 0 (kSeq (veC Try.prog (mkΓx [(65, con impl_seaCode_con), (66, con impl_hasWay_con), (67, con impl_flowing_con)] [(57, impl_eachWater_nc)] [(101, impl_eachWater_1_ic)]) N (cAt (codeOf Try.f20) [1, 1, 1, 1]) (pAt (mkPlan (codeOf Try.f20) [([], [0]), ([32], [0])]).1 [1, 1, 1, 1]) (SV × Eff × Bool)) (finK Try.prog [] [.cell 6 29, .tmp 7]))) .normal (leftI [0] (⟨[.a (.g a0 29), .a (.i .i64 (a1)), .a (.i .i64 (a2)), .a (.w 0), .a (.w 1), .a (.w 2), .a (.w 3), .a (.i .i64 (0 : Int)), .a (.i .i64 (bif okS a0 then 0 else 1)), .a (.u), .a (.u), .a (.g a0 29), .a (.i .i64 (bif okS a0 then 0 else 1)), .a (.i .i64 (bif okS a0 then 0 else 1)), .a (.b (((bif okS a0 then 0 else 1) != (0 : Int)))), .a (.u), .a (.u), .a (.i .i64 (a1)), .a (.b ((impl_hasWay_v0 a1))), .a (.b ((!((impl_hasWay_v0 a1))))), .a (.b (false)), .a (.i .i64 (a2)), .a (.b (decide (a2 < (0 : Int)))), .a (.b (decide (a2 < (0 : Int)))), .a (.b (false)), .a (.i .i64 (a2)), .a (.b (decide (a2 > (12 : Int)))), .a (.b (decide (a2 > (12 : Int)))), .a (.u), .a (.g a0 29), .a (.c 101 [8]), .a (.u), .a (.u), .a (.u), .a (.u), .a (.u), .a (.u), .a (.u), .a (.u), .a (.u), .a (.u), .a (.u), .a (.u), .a (.u), .a (.u), .a (.u), .a (.u), .a (.u), .a (.u), .a (.u), .a (.u)], [.row a0 29, .row #[.int .i64 (a1)] 2, .row #[.int .i64 (a2)] 2, .row (zc Try.prog 29) 29, .no, .no, .no, .no, .row a0 29, .no, .no, .no, .no], []⟩ : St) hb)) (fun e hb => (kBlock 0 (kSeq (veC Try.prog (mkΓx [(65, con impl_seaCode_con), (66, con impl_hasWay_con), (67, con impl_flowing_con)] [(57, impl_eachWater_nc)] [(101, impl_eachWater_1_ic)]) N (cAt (codeOf Try.f20) [1, 1, 1, 1]) (pAt (mkPlan (codeOf Try.f20) [([], [0]), ([32], [0])]).1 [1, 1, 1, 1]) (SV × Eff × Bool)) (finK Try.prog [] [.cell 6 29, .tmp 7]))) e (leftI [0] (⟨[.a (.g a0 29), .a (.i .i64 (a1)), .a (.i .i64 (a2)), .a (.w 0), .a (.w 1), .a (.w 2), .a (.w 3), .a (.i .i64 (0 : Int)), .a (.i .i64 (bif okS a0 then 0 else 1)), .a (.u), .a (.u), .a (.g a0 29), .a (.i .i64 (bif okS a0 then 0 else 1)), .a (.i .i64 (bif okS a0 then 0 else 1)), .a (.b (((bif okS a0 then 0 else 1) != (0 : Int)))), .a (.u), .a (.u), .a (.i .i64 (a1)), .a (.b ((impl_hasWay_v0 a1))), .a (.b ((!((impl_hasWay_v0 a1))))), .a (.b (false)), .a (.i .i64 (a2)), .a (.b (decide (a2 < (0 : Int)))), .a (.b (decide (a2 < (0 : Int)))), .a (.b (false)), .a (.i .i64 (a2)), .a (.b (decide (a2 > (12 : Int)))), .a (.b (decide (a2 > (12 : Int)))), .a (.u), .a (.g a0 29), .a (.c 101 [8]), .a (.u), .a (.u), .a (.u), .a (.u), .a (.u), .a (.u), .a (.u), .a (.u), .a (.u), .a (.u), .a (.u), .a (.u), .a (.u), .a (.u), .a (.u), .a (.u), .a (.u), .a (.u), .a (.u), .a (.u)], [.row a0 29, .row #[.int .i64 (a1)] 2, .row #[.int .i64 (a2)] 2, .row (zc Try.prog 29) 29, .no, .no, .no, .no, .row a0 29, .no, .no, .no, .no], []⟩ : St) hb)))
            else (none)))))) := by kernel_rfl
  refine h.trans ?_
  simp only [impl_WithCurrent_n0]

theorem spec_WithCurrent_main (a0 : Array Value) (a1 : Int) (a2 : Int) (h_a0 : WT Try.prog 29 a0) (h_a1 : IntKind.i64.min ≤ a1 ∧ a1 ≤ IntKind.i64.max) (h_a2 : IntKind.i64.min ≤ a2 ∧ a2 ≤ IntKind.i64.max) (hg : (true) = true) : ansV Try.prog (mkΓ [(52, con spec_l00In_con), (61, con spec_l01Ok_con), (62, con spec_l01Way_con), (63, con spec_l00Min_con)]) 1000 Try.f18 [([8], [0]), ([9], [0])] [.g a0 29, .i .i64 (a1), .i .i64 (a2)] [] = some (.t [.g (curR Try.prog a0 a1 a2) 29, .i .i64 (curCode a0 a1 a2)], .none, true) := by
  refine (spec_WithCurrent_ans 1000 a0 a1 a2).trans ?_
  unfold curR curCode
  cases hok : okS a0
  · rfl
  cases hw : spec_l00In_v0 a1 0 4
  · rfl
  cases hp : spec_l00In_v0 a2 0 12
  · rfl
  have w := in_of hw
  have pr := in_of hp
  have hz := seaS_size h_a0
  have u0 : U8s a0 := ⟨hz, fun i hi => ⟨_, (sea_u8 h_a0 hi).1, (sea_u8 h_a0 hi).2⟩⟩
  have v0 : decide (0 ≤ a1) = true := decide_eq_true w.1
  have v1 : decide (a1 < 5) = true := decide_eq_true (by omega)
  -- one cell
  have one : ∀ (r : Array Value) (X : Nat), U8s r → 3 ≤ X → X + 5 ≤ 363 →
      (r.setIfInBounds (X + 0) (.int .u8 (IntKind.u8.wrap (num r (X + 0) - IntKind.u8.wrap (spec_l00Min_v0 a2 (IntKind.i64.wrap (num r (X + 0)))))))).setIfInBounds (X + a1.toNat * 1) (.int .u8 (IntKind.u8.wrap (num (r.setIfInBounds (X + 0) (.int .u8 (IntKind.u8.wrap (num r (X + 0) - IntKind.u8.wrap (spec_l00Min_v0 a2 (IntKind.i64.wrap (num r (X + 0)))))))) (X + a1.toNat * 1) + IntKind.u8.wrap (spec_l00Min_v0 a2 (IntKind.i64.wrap (num r (X + 0))))))) = spl r X (flowG a1 a2 (r.extract X (X + 5))).toList := fun r X hr h3 hX => by
    have hn := hr.num (i := X - 3) (by omega)
    rw [show 3 + (X - 3) = X + 0 by omega] at hn
    rw [min_eq hn pr, set_sub (by rw [hr.1]; exact hX) (by omega)]
    unfold flowG impl_flowing_v0
    rw [num_sub (show 0 < 5 by omega), num_set (by rw [hr.1]; exact hX) (by omega)]
  have inv1 : ∀ (r : Array Value) (X : Nat), U8s r → 3 ≤ X → X + 5 ≤ 363 → U8s (spl r X (flowG a1 a2 (r.extract X (X + 5))).toList) := fun r X hr h3 hX => by
    rw [← one r X hr h3 hX]
    exact (hr.set (by omega) _).set (by omega) _
  have row : ∀ (t : Nat) (r0 : Array Value), t < 2 → U8s r0 → iterO (spec_WithCurrent_g1 Try.prog a0 a1 a2 (t : Int) r0) 1000 ((0 : Int), r0) = some ((36 : Int), folds (fun r k => upd (flowG a1 a2) r (t * 36 + k)) r0 36) ∧ U8s (folds (fun r k => upd (flowG a1 a2) r (t * 36 + k)) r0 36) := fun t r0 ht hr0 => by
    have hin := folds_inv (f := fun r k => upd (flowG a1 a2) r (t * 36 + k)) (fun _ r => U8s r) (t := r0) (n := 36) hr0 (fun k s hk hs => by
      show U8s (spl s (3 + (t * 36 + k) * 5) (flowG a1 a2 (s.extract (3 + (t * 36 + k) * 5) (3 + (t * 36 + k) * 5 + 5))).toList)
      exact inv1 s _ hs (by omega) (by omega))
    refine ⟨?_, hin 36 (Nat.le_refl _)⟩
    have h := iter_folds (g := spec_WithCurrent_g1 Try.prog a0 a1 a2 (t : Int) r0) (fun s k => ((k : Int), s)) (fun r k => upd (flowG a1 a2) r (t * 36 + k)) (m := 36) (t := r0) (x := ((36 : Int), folds (fun r k => upd (flowG a1 a2) r (t * 36 + k)) r0 36)) (N := 1000) (fun k s hk hs => by
      have h1 : decide ((k : Int) < 36) = true := decide_eq_true (by omega)
      have h0 : decide (0 ≤ (k : Int)) = true := decide_eq_true (by omega)
      have h3 : IntKind.i64.wrap ((k : Int) + 1) = ((k + 1 : Nat) : Int) := by rw [IntWalk.i64_in _ (by omega)]; omega
      have t1 : decide ((t : Int) < 2) = true := decide_eq_true (by omega)
      have t0 : decide (0 ≤ (t : Int)) = true := decide_eq_true (by omega)
      have hu := hs ▸ hin k (by omega)
      have e := one s (3 + t * 180 + k * 5) hu (by omega) (by omega)
      simp only [spec_WithCurrent_g1, h1, h0, t1, t0, v0, v1, h3, Bool.and_self, cond_true, Int.toNat_natCast, e]
      show some (Stp.more (((k + 1 : Nat) : Int), spl s (3 + t * 180 + k * 5) (flowG a1 a2 (s.extract (3 + t * 180 + k * 5) (3 + t * 180 + k * 5 + 5))).toList)) = some (Stp.more (((k + 1 : Nat) : Int), spl s (3 + (t * 36 + k) * 5) (flowG a1 a2 (s.extract (3 + (t * 36 + k) * 5) (3 + (t * 36 + k) * 5 + 5))).toList))
      rw [show 3 + (t * 36 + k) * 5 = 3 + t * 180 + k * 5 by omega]) (by
      have h1 : decide (((36 : Nat) : Int) < 36) = false := by decide
      simp only [spec_WithCurrent_g1, h1, cond_false]
      rfl) (by omega)
    exact h
  obtain ⟨i0, u1⟩ := row 0 a0 (by omega) u0
  obtain ⟨i1, u2⟩ := row 1 _ (by omega) u1
  have e0 : ((0 : Nat) : Int) = 0 := rfl
  have e1 : ((1 : Nat) : Int) = 1 := rfl
  rw [e0] at i0
  rw [e1] at i1
  have d0 : decide ((0 : Int) < 2) = true := by decide
  have d1 : decide ((1 : Int) < 2) = true := by decide
  have d2 : decide ((2 : Int) < 2) = false := by decide
  have w1 : IntKind.i64.wrap ((0 : Int) + 1) = 1 := rfl
  have w2 : IntKind.i64.wrap ((1 : Int) + 1) = 2 := rfl
  have hcv : folds (fun r k => upd (flowG a1 a2) r (1 * 36 + k)) (folds (fun r k => upd (flowG a1 a2) r (0 * 36 + k)) a0 36) 36 = curV a0 a1 a2 := by
    unfold curV
    rw [show List.range 72 = List.range 36 ++ (List.range 36).map (36 + ·) by rw [← List.range_add], List.foldl_append, List.foldl_map]
    unfold folds
    simp only [Nat.zero_mul, Nat.zero_add, Nat.one_mul]
  rw [hcv] at i1
  generalize folds (fun r k => upd (flowG a1 a2) r (0 * 36 + k)) a0 36 = r1 at i0 i1
  have g0 : ∀ (r : Array Value) (x : Int) (y : Array Value), iterO (spec_WithCurrent_g1 Try.prog a0 a1 a2 x r) 1000 ((0 : Int), r) = some ((36 : Int), y) → decide (x < 2) = true → spec_WithCurrent_g0 Try.prog 1000 a0 a1 a2 (x, r) = some (.more (IntKind.i64.wrap (x + 1), y)) := fun r x y h hx => by
    simp only [spec_WithCurrent_g0, hx, cond_true, h, nodeX, spec_WithCurrent_k1_0]
  have s0 := g0 a0 0 r1 i0 d0
  have s1 := g0 r1 1 _ i1 d1
  rw [w1] at s0
  rw [w2] at s1
  have : iterO (spec_WithCurrent_g0 Try.prog 1000 a0 a1 a2) 1000 ((0 : Int), a0) = some ((2 : Int), curV a0 a1 a2) := (iter_step s0 999).trans ((iter_step s1 998).trans (iter_done (by simp only [spec_WithCurrent_g0, d2, cond_false]) 997))
  simp only [Bool.not_true, cond_false, cond_true, this]
  generalize curV a0 a1 a2 = cv
  rfl
noncomputable def spec_WithCurrent_con : Con := fun args h => match args, h with
  | [.g a0 29, .i .i64 a1, .i .i64 a2], [] => some (.t [.g (curR Try.prog a0 a1 a2) 29, .i .i64 (curCode a0 a1 a2)], .none, true)
  | _, _ => none
theorem spec_WithCurrent_enter : ∀ args w, (callFunc 18 args).run Try.prog w = .ok (.enter 18 args) w := enter_ok (fn := Try.f18) (by kernel_rfl) (by kernel_rfl) (by kernel_rfl)
theorem spec_WithCurrent_ok : ConOk Try.prog 18 spec_WithCurrent_con := (ans_ok (N := 1000) (by kernel_rfl) (mkΓ_cons (con_ok spec_l00In_ok) spec_l00In_enter (mkΓ_cons (con_ok spec_l01Ok_ok) spec_l01Ok_enter (mkΓ_cons (con_ok spec_l01Way_ok) spec_l01Way_enter (mkΓ_cons (con_ok spec_l00Min_ok) spec_l00Min_enter mkΓ_nil)))) (fn := Try.f18) (by kernel_rfl) (by kernel_rfl) [([8], [0]), ([9], [0])]).of (by
  intro ρ h w args vals r e hA hH hr
  unfold spec_WithCurrent_con at hr
  split at hr
  · rename_i a0 a1 a2
    obtain ⟨rfl, hg⟩ := Prod.mk.inj (Option.some.inj hr)
    obtain ⟨rfl, hg2⟩ := Prod.mk.inj hg
    exact spec_WithCurrent_main a0 a1 a2 (hA.wt 0 rfl) (hA.rng 1 rfl) (hA.rng 2 rfl) hg2
  · cases hr)

theorem impl_WithCurrent_main (a0 : Array Value) (a1 : Int) (a2 : Int) (h_a0 : WT Try.prog 29 a0) (h_a1 : IntKind.i64.min ≤ a1 ∧ a1 ≤ IntKind.i64.max) (h_a2 : IntKind.i64.min ≤ a2 ∧ a2 ≤ IntKind.i64.max) (hg : (true) = true) : ansV Try.prog (mkΓx [(65, con impl_seaCode_con), (66, con impl_hasWay_con), (67, con impl_flowing_con)] [(57, impl_eachWater_nc)] [(101, impl_eachWater_1_ic)]) 1000 Try.f20 [([], [0]), ([32], [0])] [.g a0 29, .i .i64 (a1), .i .i64 (a2)] [] = some (.t [.g (curR Try.prog a0 a1 a2) 29, .i .i64 (curCode a0 a1 a2)], .none, true) := by
  refine (impl_WithCurrent_ans 1000 a0 a1 a2).trans ?_
  rw [way_eq]
  unfold curR curCode
  cases hok : okS a0
  · rfl
  cases hw : spec_l00In_v0 a1 0 4
  · rfl
  have hpe : spec_l00In_v0 a2 0 12 = (!decide (a2 < 0) && !decide (a2 > 12)) := by
    unfold spec_l00In_v0
    by_cases c1 : a2 < 0
    · rw [decide_eq_true c1, decide_eq_false (show ¬ a2 ≥ 0 by omega)]; rfl
    · rw [decide_eq_false c1, decide_eq_true (show a2 ≥ 0 by omega)]
      by_cases c2 : a2 > 12
      · rw [decide_eq_true c2, decide_eq_false (show ¬ a2 ≤ 12 by omega)]; rfl
      · rw [decide_eq_false c2, decide_eq_true (show a2 ≤ 12 by omega)]; rfl
  cases c1 : decide (a2 < 0)
  case true => rw [hpe, c1]; rfl
  cases c2 : decide (a2 > 12)
  case true => rw [hpe, c1, c2]; rfl
  have hp : spec_l00In_v0 a2 0 12 = true := by rw [hpe, c1, c2]; rfl
  have w := in_of hw
  have pr := in_of hp
  have hz := seaS_size h_a0
  have hd := okS_iter hok
  have v0 : decide (0 ≤ a1) = true := decide_eq_true w.1
  have v1 : decide (a1 < 5) = true := decide_eq_true (by omega)
  have h := foldI_cells (X := Empty) (g := impl_WithCurrent_g0 Try.prog 1000 a0 a1 a2) (fun r k => upd (flowG a1 a2) (upd (flowG a1 a2) r k) (36 + k)) (wd := num a0 0) (hi := num a0 1) (q := impl_isWater_v0 a0) (fun s k hk _ _ => by
    have h1 : decide ((k : Int) < 36) = true := decide_eq_true (by omega)
    have h0 : decide (0 ≤ (k : Int)) = true := decide_eq_true (by omega)
    have hin := iter_folds (g := impl_WithCurrent_g1 Try.prog a0 a1 a2 (k : Int) s) (fun r t => ((t : Int), r)) (fun r t => upd (flowG a1 a2) r (t * 36 + k)) (m := 2) (t := s) (x := ((2 : Int), folds (fun r t => upd (flowG a1 a2) r (t * 36 + k)) s 2)) (N := 1000) (fun t r ht _ => by
      have t1 : decide ((t : Int) < 2) = true := decide_eq_true (by omega)
      have t0 : decide (0 ≤ (t : Int)) = true := decide_eq_true (by omega)
      have t3 : IntKind.i64.wrap ((t : Int) + 1) = ((t + 1 : Nat) : Int) := by rw [IntWalk.i64_in _ (by omega)]; omega
      have hg : ∀ c, impl_flowing_gd c a1 a2 = true := fun c => by unfold impl_flowing_gd; rw [v0, v1]; rfl
      simp only [impl_WithCurrent_g1, h1, h0, t1, t0, t3, hg, Bool.and_self, cond_true, Int.toNat_natCast]
      show some (Stp.more (((t + 1 : Nat) : Int), spl r (3 + t * 180 + k * 5) (flowG a1 a2 (r.extract (3 + t * 180 + k * 5) (3 + t * 180 + k * 5 + 5))).toList)) = some (Stp.more (((t + 1 : Nat) : Int), spl r (3 + (t * 36 + k) * 5) (flowG a1 a2 (r.extract (3 + (t * 36 + k) * 5) (3 + (t * 36 + k) * 5 + 5))).toList))
      rw [show 3 + (t * 36 + k) * 5 = 3 + t * 180 + k * 5 by omega]) (by
      have t1 : decide (((2 : Nat) : Int) < 2) = false := by decide
      simp only [impl_WithCurrent_g1, t1, cond_false]
      rfl) (by omega)
    have hin' : iterO (impl_WithCurrent_g1 Try.prog a0 a1 a2 (k : Int) s) 1000 ((0 : Int), s) = some ((2 : Int), folds (fun r t => upd (flowG a1 a2) r (t * 36 + k)) s 2) := hin
    simp only [impl_WithCurrent_g0, hin', nodeX, impl_WithCurrent_k1_0]
    rw [folds_succ, folds_succ, folds_zero]
    simp only [Nat.zero_mul, Nat.zero_add, Nat.one_mul]) a0
  have hfw := folds_wet (G := flowG a1 a2) (fun k => inC (num a0 0) (num a0 1) k && impl_isWater_v0 a0 (k : Int)) a0 36
  rw [hfw] at h
  have hcv : (wetL (fun k => inC (num a0 0) (num a0 1) k && impl_isWater_v0 a0 (k : Int)) 36).foldl (upd (flowG a1 a2)) a0 = curV a0 a1 a2 := by
    obtain ⟨p1, p2, p3⟩ := foldl_upd (flowG_size a1 a2) _ a0 (wetL_nodup (fun k => inC (num a0 0) (num a0 1) k && impl_isWater_v0 a0 (k : Int)) 36 (Nat.le_refl _)) (fun q hq => by
      obtain ⟨k, h1, _, h3⟩ := (wetL_mem _ 36 (Nat.le_refl _) q).1 hq
      omega) hz
    obtain ⟨r1, r2, r3⟩ := foldl_upd (flowG_size a1 a2) (List.range 72) a0 List.nodup_range (fun q hq => List.mem_range.1 hq) hz
    refine row_ext p1 r1 (fun i hi => (p2 i hi).trans (r2 i hi).symm) fun q hq => ?_
    have r3' : chunk (curV a0 a1 a2) q = _ := r3 q hq
    rw [p3 q hq, r3', if_pos (List.mem_range.2 hq)]
    split
    · rfl
    · rename_i hm
      -- no water: nothing is there to be turned
      have hdry : wetB (num a0 0) (num a0 1) (num a0 2) ((q % 36 : Nat) : Int) = false := by
        rw [← water_wet h_a0 (show q % 36 < 36 by omega)]
        cases hx : (inC (num a0 0) (num a0 1) (q % 36) && impl_isWater_v0 a0 ((q % 36 : Nat) : Int)) with
        | false => rfl
        | true => exact absurd ((wetL_mem _ 36 (Nat.le_refl _) q).2 ⟨q % 36, by omega, hx, by omega⟩) hm
      have zero : ∀ j, j < 5 → (chunk a0 q)[j]? = some (.int .u8 0) := fun j hj => by
        have z := ok_dry hok hz (t := q / 36) (k := q % 36) (j := j) (by omega) (by omega) hj hdry
        have c := (sea_u8 h_a0 (i := q * 5 + j) (by omega)).1
        unfold chunk
        rw [Array.getElem?_extract, if_pos (by omega), show 3 + q * 5 + j = 3 + (q * 5 + j) by omega, c]
        rw [show 3 + q / 36 * 180 + q % 36 * 5 + j = 3 + (q * 5 + j) by omega] at z
        rw [z]
      have hcs := chunk_size hz hq
      have hall : chunk a0 q = #[.int .u8 0, .int .u8 0, .int .u8 0, .int .u8 0, .int .u8 0] := arr_ext fun i => by
        match i with
        | 0 => exact zero 0 (by omega)
        | 1 => exact zero 1 (by omega)
        | 2 => exact zero 2 (by omega)
        | 3 => exact zero 3 (by omega)
        | 4 => exact zero 4 (by omega)
        | i + 5 => rw [Array.getElem?_eq_none (by omega)]; rfl
      rw [hall]
      have hm0 : (bif decide ((0 : Int) < IntKind.u8.wrap a2) then (0 : Int) else IntKind.u8.wrap a2) = 0 := by
        rw [IntWalk.u8_in a2 (by omega)]
        by_cases h : 0 < a2
        · rw [decide_eq_true h]; rfl
        · rw [decide_eq_false h]; show a2 = 0; omega
      have n0 : num (#[.int .u8 0, .int .u8 0, .int .u8 0, .int .u8 0, .int .u8 0] : Array Value) 0 = 0 := rfl
      unfold flowG impl_flowing_v0
      rw [n0, hm0]
      obtain ⟨m, hm'⟩ : ∃ m, a1.toNat = m := ⟨_, rfl⟩
      have hml : m < 5 := by omega
      rw [hm']
      match m, hml with
      | 0, _ => rfl
      | 1, _ => rfl
      | 2, _ => rfl
      | 3, _ => rfl
      | 4, _ => rfl
  rw [hcv] at h
  rw [hp]
  simp only [hd, Bool.not_true, cond_false, cond_true, h]
  generalize curV a0 a1 a2 = cv
  rfl
noncomputable def impl_WithCurrent_con : Con := fun args h => match args, h with
  | [.g a0 29, .i .i64 a1, .i .i64 a2], [] => some (.t [.g (curR Try.prog a0 a1 a2) 29, .i .i64 (curCode a0 a1 a2)], .none, true)
  | _, _ => none
theorem impl_WithCurrent_enter : ∀ args w, (callFunc 20 args).run Try.prog w = .ok (.enter 20 args) w := enter_ok (fn := Try.f20) (by kernel_rfl) (by kernel_rfl) (by kernel_rfl)
theorem impl_WithCurrent_ok : ConOk Try.prog 20 impl_WithCurrent_con := (ans_ok (N := 1000) (by kernel_rfl) (mkΓx_c (con_ok impl_seaCode_ok) impl_seaCode_enter (mkΓx_c (con_ok impl_hasWay_ok) impl_hasWay_enter (mkΓx_c (con_ok impl_flowing_ok) impl_flowing_enter (mkΓx_n impl_eachWater_nok impl_eachWater_enter (mkΓx_i impl_eachWater_1_iok impl_eachWater_1_enter mkΓx_nil))))) (fn := Try.f20) (by kernel_rfl) (by kernel_rfl) [([], [0]), ([32], [0])]).of (by
  intro ρ h w args vals r e hA hH hr
  unfold impl_WithCurrent_con at hr
  split at hr
  · rename_i a0 a1 a2
    obtain ⟨rfl, hg⟩ := Prod.mk.inj (Option.some.inj hr)
    obtain ⟨rfl, hg2⟩ := Prod.mk.inj hg
    exact impl_WithCurrent_main a0 a1 a2 (hA.wt 0 rfl) (hA.rng 1 rfl) (hA.rng 2 rfl) hg2
  · cases hr)

theorem laws_FnExactWithCurrent_ans (N : Nat) (a0 : Array Value) (a1 : Int) (a2 : Int) : ansV Try.prog (mkΓ [(17, con laws_eqSea_con), (18, con spec_WithCurrent_con), (19, con laws_toSea_con), (20, con impl_WithCurrent_con)]) N Try.f4 [] [.g a0 37, .i .i64 (a1), .i .i64 (a2)] [] = (bif (!(sameB (curR Try.prog a0 a1 a2) (curR Try.prog a0 a1 a2))) then (some (.a (.b (false)), .none, true))
    else (bif ((curCode a0 a1 a2) != (curCode a0 a1 a2)) then (some (.a (.b (false)), .none, true))
      else (some (.a (.b (true)), .none, true)))) := by kernel_rfl

noncomputable def laws_FnExactWithCurrent_v0 (P : Program) (a0 : Array Value) (a1 : Int) (a2 : Int) : Bool := (bif (!(sameB (curR P a0 a1 a2) (curR P a0 a1 a2))) then false else (bif ((curCode a0 a1 a2) != (curCode a0 a1 a2)) then false else true))

theorem laws_FnExactWithCurrent_main (a0 : Array Value) (a1 : Int) (a2 : Int) (h_a0 : WT Try.prog 37 a0) (h_a1 : IntKind.i64.min ≤ a1 ∧ a1 ≤ IntKind.i64.max) (h_a2 : IntKind.i64.min ≤ a2 ∧ a2 ≤ IntKind.i64.max) (hg : (true) = true) : ansV Try.prog (mkΓ [(17, con laws_eqSea_con), (18, con spec_WithCurrent_con), (19, con laws_toSea_con), (20, con impl_WithCurrent_con)]) 1000 Try.f4 [] [.g a0 37, .i .i64 (a1), .i .i64 (a2)] [] = some (.a (.b ((laws_FnExactWithCurrent_v0 Try.prog a0 a1 a2))), .none, true) := by
  refine (laws_FnExactWithCurrent_ans 1000 a0 a1 a2).trans ?_
  unfold laws_FnExactWithCurrent_v0
  revert hg
  generalize ((!(sameB (curR Try.prog a0 a1 a2) (curR Try.prog a0 a1 a2)))) = b2
  intro hg
  cases b2
  · skip
    revert hg
    generalize (((curCode a0 a1 a2) != (curCode a0 a1 a2))) = b4
    intro hg
    cases b4
    · skip
      first | (simp only [cond_true, cond_false, Bool.and_true, Bool.true_and, Bool.and_false, Bool.false_and]; done) | rfl | exact (nomatch (hg : false = true))
    · skip
      first | (simp only [cond_true, cond_false, Bool.and_true, Bool.true_and, Bool.and_false, Bool.false_and]; done) | rfl | exact (nomatch (hg : false = true))
  · skip
    first | (simp only [cond_true, cond_false, Bool.and_true, Bool.true_and, Bool.and_false, Bool.false_and]; done) | rfl | exact (nomatch (hg : false = true))
noncomputable def laws_FnExactWithCurrent_con : Con := fun args h => match args, h with
  | [.g a0 37, .i .i64 a1, .i .i64 a2], [] => some (.a (.b ((laws_FnExactWithCurrent_v0 Try.prog a0 a1 a2))), .none, true)
  | _, _ => none
theorem laws_FnExactWithCurrent_enter : ∀ args w, (callFunc 4 args).run Try.prog w = .ok (.enter 4 args) w := enter_ok (fn := Try.f4) (by kernel_rfl) (by kernel_rfl) (by kernel_rfl)
theorem laws_FnExactWithCurrent_ok : ConOk Try.prog 4 laws_FnExactWithCurrent_con := (ans_ok (N := 1000) (by kernel_rfl) (mkΓ_cons (con_ok laws_eqSea_ok) laws_eqSea_enter (mkΓ_cons (con_ok spec_WithCurrent_ok) spec_WithCurrent_enter (mkΓ_cons (con_ok laws_toSea_ok) laws_toSea_enter (mkΓ_cons (con_ok impl_WithCurrent_ok) impl_WithCurrent_enter mkΓ_nil)))) (fn := Try.f4) (by kernel_rfl) (by kernel_rfl) []).of (by
  intro ρ h w args vals r e hA hH hr
  unfold laws_FnExactWithCurrent_con at hr
  split at hr
  · rename_i a0 a1 a2
    obtain ⟨rfl, hg⟩ := Prod.mk.inj (Option.some.inj hr)
    obtain ⟨rfl, hg2⟩ := Prod.mk.inj hg
    exact laws_FnExactWithCurrent_main a0 a1 a2 (hA.wt 0 rfl) (hA.rng 1 rfl) (hA.rng 2 rfl) hg2
  · cases hr)

theorem laws_FnExactWithCurrent_true (a0 : Array Value) (a1 : Int) (a2 : Int) (h_a0 : WT Try.prog 37 a0) (h_a1 : IntKind.i64.min ≤ a1 ∧ a1 ≤ IntKind.i64.max) (h_a2 : IntKind.i64.min ≤ a2 ∧ a2 ≤ IntKind.i64.max) : (true) = true ∧ ((laws_FnExactWithCurrent_v0 Try.prog a0 a1 a2)) = true := by
  refine ⟨rfl, ?_⟩
  unfold laws_FnExactWithCurrent_v0
  simp only [sameB_self, bne_self_eq_false, cond_false, Bool.not_true]

namespace lawFnExactWithCurrent
theorem lifted (os : Os) (started : os.Started) (H : Type) (enc : TypeId × Value → H) :
    ReturnsInHanded {} Try.checked os 4 .any (Rows.fnExactWithCurrentSpec.pre6 enc Try.prog Try.f4 Rows.fnExactWithCurrentRow.domain false) (Rows.fnExactWithCurrentSpec.post enc Try.prog Try.f4 false true false false) := by
  refine law_lifted (C := Try.checked) (tb := 4) (by kernel_rfl) (by kernel_rfl) (by kernel_rfl) Try.func4 (by kernel_rfl) Try.underlying4 (of_decide_eq_true (by kernel_rfl)) rfl ?_ os started H enc
    (ChangeSpec.witness6 (enc := enc) (C := Try.checked) false ⟨#[], #[.agg (zc Try.prog 37), .int .i64 0, .int .i64 0], []⟩ 8 (by kernel_rfl) (by kernel_rfl) (by kernel_rfl) (by kernel_rfl)) ?_
  · intro H ds hds
    rw [show Try.f4.params.toList.length = 3 by kernel_rfl] at hds
    match ds, hds with
    | [_, _, _], _ => rfl
  · intro W base args ds ps hval hA
    rw [Try.params4] at hA hval
    obtain ⟨v0, v1, v2, d0, d1, d2, p0, p1, p2, hargs, rfl, rfl, h0, h1, h2⟩ := trodAll_three hA
    obtain ⟨a0, e0, w0⟩ := open_data (t := 37) 8 (by kernel_rfl) (by kernel_rfl) (hval 0 37 v0 rfl (by rw [hargs]; rfl)) h0
    obtain ⟨a1, e1, _, _, w1⟩ := open_int Try.underlying2 (hval 1 2 v1 rfl (by rw [hargs]; rfl)) h1
    obtain ⟨a2, e2, _, _, w2⟩ := open_int Try.underlying2 (hval 2 2 v2 rfl (by rw [hargs]; rfl)) h2
    obtain rfl : args = #[.agg a0, .int .i64 a1, .int .i64 a2] := by rw [hargs, e0, e1, e2]
    obtain ⟨hg, hv⟩ := laws_FnExactWithCurrent_true a0 a1 a2 w0 (wfb w1) (wfb w2)
    have hr : laws_FnExactWithCurrent_con [.g a0 37, .i .i64 a1, .i .i64 a2] [] = some (.a (.b true), .none, true) := by
      show (some (SV.a (SA.b ((laws_FnExactWithCurrent_v0 Try.prog a0 a1 a2))), Eff.none, true) : Option (SV × Eff × Bool)) = _
      rw [hg, hv]
    exact calls_con laws_FnExactWithCurrent_ok hr W (vals := [.agg a0, .int .i64 a1, .int .i64 a2]) (allCons ⟨rfl, w0⟩ (allCons ⟨rfl, wfb w1⟩ (allCons ⟨rfl, wfb w2⟩ allNil)))

theorem over : Rows.fnExactWithCurrentRow.holds Try.pinned (OpenSpec.ofChange Rows.fnExactWithCurrentSpec) :=
  OpenClaim.holds_of_wide 4 Try.f4 rfl rfl rfl rfl rfl rfl rfl ⟨rfl, rfl, rfl, rfl, rfl⟩ rfl rfl rfl rfl rfl (by kernel_rfl) Try.func4 (by kernel_rfl)
    (of_decide_eq_true (by kernel_rfl)) (by unfold Func.isWrapper; first | (rw [if_pos (by decide +kernel)]; kernel_rfl) | (rw [if_neg (by decide +kernel)]; exact ⟨rfl, rfl⟩))
    (fun os started H enc _ => lifted os started H enc)

theorem proved : Rows.FnExactWithCurrentSaid := over
#print axioms proved
end lawFnExactWithCurrent

end
end Go.Proofs.Ytafmhcdelokmbaa
