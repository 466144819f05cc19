/- Finds as they are seen at visits: spec and program. -/
import Derived.Test.YthpcidnfbceliaaDoorProg
import Derived.Test.YthpcidnfbceliaaDoorVeFinds
import Derived.Test.YthpcidnfbceliaaDoorIsF
namespace Go.Proofs.YthpcidnfbceliaaDoor
open Go.ChangeShapes Go.WideShapes Go.ChangeAt Go.RowKit Ve
set_option linter.unusedVariables false
set_option linter.unusedSimpArgs false
set_option maxRecDepth 100000
noncomputable section

noncomputable def impl_codeOf_con : Con := ansV Tryd.prog (mkΓ [(56, conG isCon)]) 1000 Tryd.f31 []
theorem impl_codeOf_enter : ∀ args w, (callFunc 31 args).run Tryd.prog w = .ok (.enter 31 args) w := enter_ok (fn := Tryd.f31) (by kernel_rfl) (by kernel_rfl) (by kernel_rfl)
theorem impl_codeOf_ok : ConOk Tryd.prog 31 impl_codeOf_con := ans_ok (N := 1000) (by kernel_rfl) (mkΓ_cons (conG_ok isCon_ok) isCon_enter mkΓ_nil) (fn := Tryd.f31) (by kernel_rfl) (by kernel_rfl) []

noncomputable def spec_l03Given_G : Cons := (mkΓ [(52, con spec_l01Ok_con), (53, con spec_l03Finds_con)])
theorem spec_l03Given_ans (N : Nat) (a0 : Array Value) (b_a1 : Option (Option Addr)) (n_a1 : Nat) (a1 : Array Value) : ansV Tryd.prog spec_l03Given_G N Tryd.f26 [] [.w 0, .l 1] [.row a0 38, .sl (.came b_a1) n_a1 a1 64] = (bif (!((okS a0))) then (some (.a (.i .i64 (1 : Int)), .none, true))
    else (bif (!((fndAll a0 n_a1 a1 && decide ((n_a1 : Int) ≤ 60)))) then (some (.a (.i .i64 (1 : Int)), .none, true))
      else (some (.a (.i .i64 (0 : Int)), .none, true)))) := by kernel_rfl

noncomputable def spec_l03Given_v0 (a0 : Array Value) (b_a1 : Option (Option Addr)) (n_a1 : Nat) (a1 : Array Value) : Int := (bif (!((okS a0))) then (1 : Int) else (bif (!((fndAll a0 n_a1 a1 && decide ((n_a1 : Int) ≤ 60)))) then (1 : Int) else (0 : Int)))

theorem spec_l03Given_main (a0 : Array Value) (b_a1 : Option (Option Addr)) (n_a1 : Nat) (a1 : Array Value) (h_a0 : WT Tryd.prog 38 a0) (h_a1 : a1.size = n_a1 * (lay Tryd.prog 64).length ∧ (∀ k, k < n_a1 → WT Tryd.prog 64 (a1.extract (k * (lay Tryd.prog 64).length) (k * (lay Tryd.prog 64).length + (lay Tryd.prog 64).length))) ∧ n_a1 ≤ 9223372036854775807) (hg : (true) = true) : ansV Tryd.prog spec_l03Given_G 1000 Tryd.f26 [] [.w 0, .l 1] [.row a0 38, .sl (.came b_a1) n_a1 a1 64] = some (.a (.i .i64 (spec_l03Given_v0 a0 b_a1 n_a1 a1)), .none, true) := by
  refine (spec_l03Given_ans 1000 a0 b_a1 n_a1 a1).trans ?_
  unfold spec_l03Given_v0
  revert hg
  generalize ((!((okS a0)))) = b2
  intro hg
  cases b2
  · skip
    revert hg
    generalize ((!((fndAll a0 n_a1 a1 && decide ((n_a1 : Int) ≤ 60))))) = b4
    intro hg
    cases b4
    · skip
      first | (simp only [cond_true, cond_false, Bool.and_true, Bool.true_and, Bool.and_false, Bool.false_and]; done) | rfl | exact (nomatch (hg : false = true))
    · skip
      first | (simp only [cond_true, cond_false, Bool.and_true, Bool.true_and, Bool.and_false, Bool.false_and]; done) | rfl | exact (nomatch (hg : false = true))
  · skip
    first | (simp only [cond_true, cond_false, Bool.and_true, Bool.true_and, Bool.and_false, Bool.false_and]; done) | rfl | exact (nomatch (hg : false = true))
noncomputable def spec_l03Given_con : Con := fun args h => match args, h with
  | [.w 0, .l 1], [.row a0 38, .sl (.came b_a1) n_a1 a1 64] => some (.a (.i .i64 (spec_l03Given_v0 a0 b_a1 n_a1 a1)), .none, true)
  | _, _ => none
theorem spec_l03Given_enter : ∀ args w, (callFunc 26 args).run Tryd.prog w = .ok (.enter 26 args) w := enter_ok (fn := Tryd.f26) (by kernel_rfl) (by kernel_rfl) (by kernel_rfl)
theorem spec_l03Given_ok : ConOk Tryd.prog 26 spec_l03Given_con := (ans_ok (N := 1000) (by kernel_rfl) (mkΓ_cons (con_ok spec_l01Ok_ok) spec_l01Ok_enter (mkΓ_cons (con_ok spec_l03Finds_ok) spec_l03Finds_enter mkΓ_nil)) (fn := Tryd.f26) (by kernel_rfl) (by kernel_rfl) []).of (by
  intro ρ h w args vals r e hA hH hr
  unfold spec_l03Given_con at hr
  split at hr
  · rename_i a0 b_a1 n_a1 a1
    obtain ⟨rfl, hg⟩ := Prod.mk.inj (Option.some.inj hr)
    obtain ⟨rfl, hg2⟩ := Prod.mk.inj hg
    exact spec_l03Given_main a0 b_a1 n_a1 a1 (hH.wt 0 rfl) (hH.slw 1 rfl) hg2
  · cases hr)


noncomputable def vf (S : Array Value) (n : Nat) (a : Array Value) : Bool := (okS S && (fndAll S n a && decide ((n : Int) ≤ 60)))
/-- The hour of the visit at which a find is seen. -/
noncomputable def visF (a : Array Value) (e : Int) (k : Nat) : Int := IntKind.i64.wrap ((IntKind.i64.wrap ((IntKind.i64.wrap ((IntKind.i64.wrap (hcF a k + e)) - (1 : Int))).tdiv e)) * e)
noncomputable def latV (a : Array Value) (e : Int) (k : Nat) : Bool := decide (visF a e k > (14 : Int))
noncomputable def seenC (a : Array Value) (e : Int) : Nat → Array Value
  | 0 => #[]
  | k + 1 => seenC a e k ++ #[.int .i8 (num a (k * 2 + 0)), .int .i8 (IntKind.i8.wrap (visF a e k))]
noncomputable def okV (a : Array Value) (e : Int) (n : Nat) : Bool := ((List.range n).find? (latV a e)).isNone
noncomputable def putC (e : Int) (a r : Array Value) (k : Nat) : Array Value := r.setIfInBounds (k * 2 + 1) (.int .i8 (IntKind.i8.wrap (visF a e k)))
theorem seenC_size (a : Array Value) (e : Int) : ∀ n, (seenC a e n).size = n * 2
  | 0 => rfl
  | n + 1 => by
    rw [seenC, Array.size_append, seenC_size a e n]
    show n * 2 + 2 = _
    omega
theorem seenC_at (a : Array Value) (e : Int) : ∀ (n k : Nat), k < n → (seenC a e n)[k * 2]? = some (.int .i8 (num a (k * 2 + 0))) ∧ (seenC a e n)[k * 2 + 1]? = some (.int .i8 (IntKind.i8.wrap (visF a e k)))
  | 0, k, hk => by omega
  | n + 1, k, hk => by
    have hz := seenC_size a e n
    by_cases h : k < n
    · obtain ⟨h1, h2⟩ := seenC_at a e n k h
      rw [seenC, Array.getElem?_append, if_pos (by omega), Array.getElem?_append, if_pos (by omega)]
      exact ⟨h1, h2⟩
    · obtain rfl : k = n := by omega
      rw [seenC, Array.getElem?_append, if_neg (by omega), Array.getElem?_append, if_neg (by omega), hz, show k * 2 - k * 2 = 0 by omega, show k * 2 + 1 - k * 2 = 1 by omega]
      exact ⟨rfl, rfl⟩
theorem putC_at (a : Array Value) (e : Int) {n : Nat} (hz : a.size = n * 2) : ∀ m, m ≤ n → (folds (putC e a) a m).size = n * 2 ∧ ∀ k, k < n → (folds (putC e a) a m)[k * 2]? = a[k * 2]? ∧ (folds (putC e a) a m)[k * 2 + 1]? = if k < m then some (.int .i8 (IntKind.i8.wrap (visF a e k))) else a[k * 2 + 1]?
  | 0, _ => ⟨hz, fun k _ => ⟨rfl, by rw [if_neg (by omega)]; rfl⟩⟩
  | m + 1, hm => by
    obtain ⟨h1, h2⟩ := putC_at a e hz m (by omega)
    rw [folds_succ]
    generalize folds (putC e a) a m = r at h1 h2
    unfold putC
    refine ⟨by rw [Array.size_setIfInBounds, h1], fun k hk => ?_⟩
    obtain ⟨h3, h4⟩ := h2 k hk
    refine ⟨by rw [Array.getElem?_setIfInBounds, if_neg (by omega)]; exact h3, ?_⟩
    rw [Array.getElem?_setIfInBounds]
    by_cases e1 : m * 2 + 1 = k * 2 + 1
    · rw [if_pos e1, if_pos (by omega), if_pos (by omega)]
      rw [show m = k by omega]
    · rw [if_neg e1, h4]
      by_cases e2 : k < m
      · rw [if_pos e2, if_pos (by omega)]
      · rw [if_neg e2, if_neg (by omega)]
theorem put_seen {a : Array Value} {e : Int} {n : Nat} (hz : a.size = n * 2) (hw : ∀ k, k < n → WT Tryd.prog 64 (a.extract (k * 2) (k * 2 + 2))) : folds (putC e a) a n = seenC a e n := by
  obtain ⟨z, h⟩ := putC_at a e hz n (Nat.le_refl _)
  have hs := seenC_size a e n
  refine Array.ext_getElem? fun i => ?_
  by_cases hi : i < n * 2
  · obtain ⟨k, hk, hi2⟩ : ∃ k, k < n ∧ (i = k * 2 ∨ i = k * 2 + 1) := ⟨i / 2, by omega, by omega⟩
    obtain ⟨h1, h2⟩ := h k hk
    obtain ⟨s1, s2⟩ := seenC_at a e n k hk
    have hc := ((hw k hk).int (o := 0) (k := .i8) (by kernel_rfl)).1
    rw [Array.getElem?_extract, if_pos (by omega), ext_num (by omega)] at hc
    rcases hi2 with rfl | rfl
    · rw [h1, s1]; exact hc
    · rw [h2, s2, if_pos hk]
  · rw [Array.getElem?_eq_none (by omega), Array.getElem?_eq_none (by omega)]
theorem vf_n {S a : Array Value} {n : Nat} (h : vf S n a = true) : n ≤ 60 := by
  unfold vf at h
  simp only [Bool.and_eq_true, decide_eq_true_eq] at h
  omega

theorem impl_isEvery_ans (N : Nat) (a0 : Int) : ansV Tryd.prog (mkΓ []) N Tryd.f57 [] [.i .i64 (a0)] [] = (bif decide (a0 ≥ (1 : Int)) then (some (.a (.b (decide (a0 ≤ (14 : Int)))), .none, true))
    else (some (.a (.b (false)), .none, true))) := by kernel_rfl

noncomputable def impl_isEvery_v0 (a0 : Int) : Bool := (bif decide (a0 ≥ (1 : Int)) then decide (a0 ≤ (14 : Int)) else false)

theorem impl_isEvery_main (a0 : Int) (h_a0 : IntKind.i64.min ≤ a0 ∧ a0 ≤ IntKind.i64.max) (hg : (true) = true) : ansV Tryd.prog (mkΓ []) 1000 Tryd.f57 [] [.i .i64 (a0)] [] = some (.a (.b ((impl_isEvery_v0 a0))), .none, true) := by
  refine (impl_isEvery_ans 1000 a0).trans ?_
  unfold impl_isEvery_v0
  revert hg
  generalize (decide (a0 ≥ (1 : Int))) = b2
  intro hg
  cases b2
  · skip
    first | (simp only [cond_true, cond_false, Bool.and_true, Bool.true_and, Bool.and_false, Bool.false_and]; done) | rfl | exact (nomatch (hg : false = true))
  · skip
    first | (simp only [cond_true, cond_false, Bool.and_true, Bool.true_and, Bool.and_false, Bool.false_and]; done) | rfl | exact (nomatch (hg : false = true))
noncomputable def impl_isEvery_con : Con := fun args h => match args, h with
  | [.i .i64 a0], [] => some (.a (.b ((impl_isEvery_v0 a0))), .none, true)
  | _, _ => none
theorem impl_isEvery_enter : ∀ args w, (callFunc 57 args).run Tryd.prog w = .ok (.enter 57 args) w := enter_ok (fn := Tryd.f57) (by kernel_rfl) (by kernel_rfl) (by kernel_rfl)
theorem impl_isEvery_ok : ConOk Tryd.prog 57 impl_isEvery_con := (ans_ok (N := 1000) (by kernel_rfl) mkΓ_nil (fn := Tryd.f57) (by kernel_rfl) (by kernel_rfl) []).of (by
  intro ρ h w args vals r e hA hH hr
  unfold impl_isEvery_con at hr
  split at hr
  · rename_i a0
    obtain ⟨rfl, hg⟩ := Prod.mk.inj (Option.some.inj hr)
    obtain ⟨rfl, hg2⟩ := Prod.mk.inj hg
    exact impl_isEvery_main a0 (hA.rng 0 rfl) hg2
  · cases hr)

theorem every_in (e : Int) : impl_isEvery_v0 e = spec_l00In_v0 e 1 14 := rfl

theorem impl_findsError_ans (N : Nat) (a0 : Array Value) (g_e0 : Addr) (g_e1 : Addr) (g_e2 : Addr) (g_e3 : Addr) (g_e4 : Addr) (b_a1 : Option (Option Addr)) (n_a1 : Nat) (a1 : Array Value) : ansV Tryd.prog (mkΓ [(55, con impl_ValidFinds_con)]) N Tryd.f30 [] [.g a0 38, .l 5] [.gl 0 212 g_e0 36452, .gl 1 212 g_e1 27809, .gl 2 212 g_e2 46794, .gl 3 212 g_e3 59197, .gl 4 212 g_e4 28733, .sl (.came b_a1) n_a1 a1 64] = (bif (!((okS a0 && (fndAll a0 n_a1 a1 && decide ((n_a1 : Int) ≤ 60))))) then (some (.a (.e 0), .none, true))
    else (some (.a (.v (.nilIface)), .none, true))) := by kernel_rfl

theorem impl_findsError_main0 (a0 : Array Value) (g_e0 : Addr) (g_e1 : Addr) (g_e2 : Addr) (g_e3 : Addr) (g_e4 : Addr) (b_a1 : Option (Option Addr)) (n_a1 : Nat) (a1 : Array Value) (h_a0 : WT Tryd.prog 38 a0) (h_a1 : a1.size = n_a1 * (lay Tryd.prog 64).length ∧ (∀ k, k < n_a1 → WT Tryd.prog 64 (a1.extract (k * (lay Tryd.prog 64).length) (k * (lay Tryd.prog 64).length + (lay Tryd.prog 64).length))) ∧ n_a1 ≤ 9223372036854775807) (hc0 : (vf a0 n_a1 a1) = false) (hg : (true) = true) : ansV Tryd.prog (mkΓ [(55, con impl_ValidFinds_con)]) 1000 Tryd.f30 [] [.g a0 38, .l 5] [.gl 0 212 g_e0 36452, .gl 1 212 g_e1 27809, .gl 2 212 g_e2 46794, .gl 3 212 g_e3 59197, .gl 4 212 g_e4 28733, .sl (.came b_a1) n_a1 a1 64] = some (.a (.e 0), .none, true) := by
  refine (impl_findsError_ans 1000 a0 g_e0 g_e1 g_e2 g_e3 g_e4 b_a1 n_a1 a1).trans ?_
  unfold vf at hc0
  simp only [hc0, Bool.not_false, cond_true]
theorem impl_findsError_main1 (a0 : Array Value) (g_e0 : Addr) (g_e1 : Addr) (g_e2 : Addr) (g_e3 : Addr) (g_e4 : Addr) (b_a1 : Option (Option Addr)) (n_a1 : Nat) (a1 : Array Value) (h_a0 : WT Tryd.prog 38 a0) (h_a1 : a1.size = n_a1 * (lay Tryd.prog 64).length ∧ (∀ k, k < n_a1 → WT Tryd.prog 64 (a1.extract (k * (lay Tryd.prog 64).length) (k * (lay Tryd.prog 64).length + (lay Tryd.prog 64).length))) ∧ n_a1 ≤ 9223372036854775807) (hc0 : (vf a0 n_a1 a1) = true) (hg : (true) = true) : ansV Tryd.prog (mkΓ [(55, con impl_ValidFinds_con)]) 1000 Tryd.f30 [] [.g a0 38, .l 5] [.gl 0 212 g_e0 36452, .gl 1 212 g_e1 27809, .gl 2 212 g_e2 46794, .gl 3 212 g_e3 59197, .gl 4 212 g_e4 28733, .sl (.came b_a1) n_a1 a1 64] = some (.a (.v (.nilIface)), .none, true) := by
  refine (impl_findsError_ans 1000 a0 g_e0 g_e1 g_e2 g_e3 g_e4 b_a1 n_a1 a1).trans ?_
  unfold vf at hc0
  simp only [hc0, Bool.not_true, cond_false]
noncomputable def impl_findsError_scon : SCon := fun args h => match args, h with
  | [.g a0 38, .l 5], [.gl 0 212 g_e0 36452, .gl 1 212 g_e1 27809, .gl 2 212 g_e2 46794, .gl 3 212 g_e3 59197, .gl 4 212 g_e4 28733, .sl (.came b_a1) n_a1 a1 64] => .two (vf a0 n_a1 a1) (.one (some (.a (.v (.nilIface)), .none, true))) (.one (some (.a (.e 0), .none, true)))
  | _, _ => .one none
theorem impl_findsError_enter : ∀ args w, (callFunc 30 args).run Tryd.prog w = .ok (.enter 30 args) w := enter_ok (fn := Tryd.f30) (by kernel_rfl) (by kernel_rfl) (by kernel_rfl)
theorem impl_findsError_sok : ConOk Tryd.prog 30 (fun args h => wayRes (impl_findsError_scon args h)) := by
  intro ρ h w args vals r e hn hr hA hH
  dsimp only at hr
  unfold impl_findsError_scon at hr
  split at hr
  · rename_i a0 g_e0 g_e1 g_e2 g_e3 g_e4 b_a1 n_a1 a1
    simp only [wayRes] at hr
    cases hc0 : (vf a0 n_a1 a1)
    · rw [hc0] at hr
      simp only [wayRes, cond_true, cond_false] at hr
      obtain ⟨rfl, hg⟩ := Prod.mk.inj (Option.some.inj hr)
      obtain ⟨rfl, hg2⟩ := Prod.mk.inj hg
      exact ((ans_ok (N := 1000) (by kernel_rfl) (mkΓ_cons (con_ok impl_ValidFinds_ok) impl_ValidFinds_enter mkΓ_nil) (fn := Tryd.f30) (by kernel_rfl) (by kernel_rfl) [])) ρ _ w _ vals _ _ hn ((impl_findsError_main0 a0 g_e0 g_e1 g_e2 g_e3 g_e4 b_a1 n_a1 a1 (hA.wt 0 rfl) (hH.slw 5 rfl) hc0 hg2)) hA hH
    · rw [hc0] at hr
      simp only [wayRes, cond_true, cond_false] at hr
      obtain ⟨rfl, hg⟩ := Prod.mk.inj (Option.some.inj hr)
      obtain ⟨rfl, hg2⟩ := Prod.mk.inj hg
      exact ((ans_ok (N := 1000) (by kernel_rfl) (mkΓ_cons (con_ok impl_ValidFinds_ok) impl_ValidFinds_enter mkΓ_nil) (fn := Tryd.f30) (by kernel_rfl) (by kernel_rfl) [])) ρ _ w _ vals _ _ hn ((impl_findsError_main1 a0 g_e0 g_e1 g_e2 g_e3 g_e4 b_a1 n_a1 a1 (hA.wt 0 rfl) (hH.slw 5 rfl) hc0 hg2)) hA hH
  · simp only [wayRes] at hr
    cases hr

noncomputable def impl_seenEvery_t0 (a1 : Int) (g_e0 : Addr) (g_e1 : Addr) (g_e2 : Addr) (g_e3 : Addr) (g_e4 : Addr) (b_a0 : Option (Option Addr)) (n_a0 : Nat) (a0 : Array Value) : St := (⟨.a (.l 5) :: .a (.i .i64 (a1)) :: .a (.u) :: .a (.u) :: .a (.v (.slice none 0 0)) :: .a (.v (.nilIface)) :: .a (.l 8) :: us 3 (.a (.i .i64 (a1)) :: .a (.b ((impl_isEvery_v0 a1))) :: .a (.b ((!((impl_isEvery_v0 a1))))) :: .a (.u) :: .a (.l 6) :: .a (.l 5) :: .a (.l 8) :: .a (.l 5) :: .a (.i .i64 (n_a0 : Int)) :: .a (.i .i64 (0 : Int)) :: us 25 ([])), [.gl 0 212 g_e0 36452, .gl 1 212 g_e1 27809, .gl 2 212 g_e2 46794, .gl 3 212 g_e3 59197, .gl 4 212 g_e4 28733, .sl (.came b_a0) n_a0 a0 64, .sp, .no, .sl .own (0 + n_a0) ((#[] : Array Value) ++ a0) 64, .no], [6]⟩ : St)

noncomputable def impl_seenEvery_e0 (n_a0 : Nat) : Int × Array Value → LS
  | (y0_19, r0_8) => ([.a (.i .i64 (y0_19))], [.sl .own (0 + n_a0) r0_8 64])

noncomputable def impl_seenEvery_x0 (n_a0 : Nat) : Int × Array Value → Exit × LS
  | t => ((.exit 0), (impl_seenEvery_e0 n_a0) t)

noncomputable def impl_seenEvery_g0 (P : Program) (a1 : Int) (g_e0 : Addr) (g_e1 : Addr) (g_e2 : Addr) (g_e3 : Addr) (g_e4 : Addr) (b_a0 : Option (Option Addr)) (n_a0 : Nat) (a0 : Array Value) : Int × Array Value → Option (Stp (Int × Array Value) ((Int × Array Value) ⊕ (SV × Eff × Bool)))
  | (y0_19, r0_8) => bif decide (y0_19 < (n_a0 : Int)) then (bif (decide (0 ≤ y0_19) && decide (y0_19 < (n_a0 : Int))) then (bif (a1 != 0) then (bif decide ((IntKind.i64.wrap ((IntKind.i64.wrap (((IntKind.i64.wrap ((IntKind.i64.wrap ((IntKind.i64.wrap (num (a0.extract ((y0_19).toNat * 2) (((y0_19).toNat * 2) + 2)) 1)) + a1)) - (1 : Int)))).tdiv a1)) * a1)) > (14 : Int)) then (some (.done (.inr (.t [.v (.slice none 0 0), .e 1], .none, true))))
          else (bif (decide (0 ≤ y0_19) && decide (y0_19 < ((0 + n_a0) : Int))) then (some (.more ((IntKind.i64.wrap (y0_19 + (1 : Int))), (r0_8.setIfInBounds (((y0_19).toNat * 2) + 1) (.int .i8 (IntKind.i8.wrap (IntKind.i64.wrap ((IntKind.i64.wrap (((IntKind.i64.wrap ((IntKind.i64.wrap ((IntKind.i64.wrap (num (a0.extract ((y0_19).toNat * 2) (((y0_19).toNat * 2) + 2)) 1)) + a1)) - (1 : Int)))).tdiv a1)) * a1))))))))
            else (none)))
        else (none))
      else (none))
    else (some (.done (.inl (y0_19, r0_8))))

theorem impl_seenEvery_s0 (N : Nat) (a1 : Int) (g_e0 : Addr) (g_e1 : Addr) (g_e2 : Addr) (g_e3 : Addr) (g_e4 : Addr) (b_a0 : Option (Option Addr)) (n_a0 : Nat) (a0 : Array Value) : ∀ t : Int × Array Value, stepVR Tryd.prog (mkΓ [(57, con impl_isEvery_con)]) N (cAt (codeOf Tryd.f32) [1, 1, 1, 0, 1, 0, 0]) (pAt (mkPlan (codeOf Tryd.f32) [([4000000000, 19], [8])]).1 [1, 1, 1, 0, 1, 0]) [19] [8] (impl_seenEvery_t0 a1 g_e0 g_e1 g_e2 g_e3 g_e4 b_a0 n_a0 a0) (kBlock 0 (kSeq (veC Tryd.prog (mkΓ [(57, con impl_isEvery_con)]) N (cAt (codeOf Tryd.f32) [1, 1, 1, 1]) (pAt (mkPlan (codeOf Tryd.f32) [([4000000000, 19], [8])]).1 [1, 1, 1, 1]) (SV × Eff × Bool)) (finK Tryd.prog [.gl 0 212 g_e0 36452, .gl 1 212 g_e1 27809, .gl 2 212 g_e2 46794, .gl 3 212 g_e3 59197, .gl 4 212 g_e4 28733, .sl (.came b_a0) n_a0 a0 64] [.tmp 4, .tmp 5]))) ((impl_seenEvery_e0 n_a0) t) = mapS (impl_seenEvery_e0 n_a0) (eR (impl_seenEvery_x0 n_a0)) (impl_seenEvery_g0 Tryd.prog a1 g_e0 g_e1 g_e2 g_e3 g_e4 b_a0 n_a0 a0 t) := by
  rintro ⟨y0_19, r0_8⟩
  refine Eq.trans (b := (bif decide (y0_19 < (n_a0 : Int)) then (bif (decide (0 ≤ y0_19) && decide (y0_19 < (n_a0 : Int))) then (bif (a1 != 0) then (bif decide ((IntKind.i64.wrap ((IntKind.i64.wrap (((IntKind.i64.wrap ((IntKind.i64.wrap ((IntKind.i64.wrap (num (a0.extract ((y0_19).toNat * 2) (((y0_19).toNat * 2) + 2)) 1)) + a1)) - (1 : Int)))).tdiv a1)) * a1)) > (14 : Int)) then (some (.done (.inr (.t [.v (.slice none 0 0), .e 1], .none, true))))
          else (bif (decide (0 ≤ y0_19) && decide (y0_19 < ((0 + n_a0) : Int))) then (some (.more ([.a (.i .i64 (IntKind.i64.wrap (y0_19 + (1 : Int))))], [.sl .own (0 + n_a0) (r0_8.setIfInBounds (((y0_19).toNat * 2) + 1) (.int .i8 (IntKind.i8.wrap (IntKind.i64.wrap ((IntKind.i64.wrap (((IntKind.i64.wrap ((IntKind.i64.wrap ((IntKind.i64.wrap (num (a0.extract ((y0_19).toNat * 2) (((y0_19).toNat * 2) + 2)) 1)) + a1)) - (1 : Int)))).tdiv a1)) * a1))))) 64])))
            else (none)))
        else (none))
      else (none))
    else (some (.done (.inl ((.exit 0), ([.a (.i .i64 (y0_19))], [.sl .own (0 + n_a0) r0_8 64]))))))) (by kernel_rfl) ?_
  simp only [impl_seenEvery_g0, mapS_cond, mapS_more, mapS_done, mapS_none, impl_seenEvery_e0, impl_seenEvery_x0, eR]

noncomputable def impl_seenEvery_k0_0 (P : Program) (N : Nat) (a1 : Int) (g_e0 : Addr) (g_e1 : Addr) (g_e2 : Addr) (g_e3 : Addr) (g_e4 : Addr) (b_a0 : Option (Option Addr)) (n_a0 : Nat) (a0 : Array Value) (z0_19 : Int) (q0_8 : Array Value) : Option (SV × Eff × Bool) := some (.t [.x, .v (.nilIface)], .newS (some 0) (0 + n_a0) q0_8 64, true)

theorem impl_seenEvery_k0_0_eq (N : Nat) (a1 : Int) (g_e0 : Addr) (g_e1 : Addr) (g_e2 : Addr) (g_e3 : Addr) (g_e4 : Addr) (b_a0 : Option (Option Addr)) (n_a0 : Nat) (a0 : Array Value) (z0_19 : Int) (q0_8 : Array Value) : (kBlock 0 (kSeq (veC Tryd.prog (mkΓ [(57, con impl_isEvery_con)]) N (cAt (codeOf Tryd.f32) [1, 1, 1, 1]) (pAt (mkPlan (codeOf Tryd.f32) [([4000000000, 19], [8])]).1 [1, 1, 1, 1]) (SV × Eff × Bool)) (finK Tryd.prog [.gl 0 212 g_e0 36452, .gl 1 212 g_e1 27809, .gl 2 212 g_e2 46794, .gl 3 212 g_e3 59197, .gl 4 212 g_e4 28733, .sl (.came b_a0) n_a0 a0 64] [.tmp 4, .tmp 5]))) (.exit 0) (left (writes (cAt (codeOf Tryd.f32) [1, 1, 1, 0, 1, 0, 0])) [19] [8] (impl_seenEvery_t0 a1 g_e0 g_e1 g_e2 g_e3 g_e4 b_a0 n_a0 a0) ([.a (.i .i64 (z0_19))], [.sl .own (0 + n_a0) q0_8 64])) = impl_seenEvery_k0_0 Tryd.prog N a1 g_e0 g_e1 g_e2 g_e3 g_e4 b_a0 n_a0 a0 z0_19 q0_8 := by
  refine Eq.trans (b := (some (.t [.x, .v (.nilIface)], .newS (some 0) (0 + n_a0) q0_8 64, true))) (by kernel_rfl) ?_
  rfl

theorem impl_seenEvery_n0 (N : Nat) (a1 : Int) (g_e0 : Addr) (g_e1 : Addr) (g_e2 : Addr) (g_e3 : Addr) (g_e4 : Addr) (b_a0 : Option (Option Addr)) (n_a0 : Nat) (a0 : Array Value) : bindR (iterO (stepVR Tryd.prog (mkΓ [(57, con impl_isEvery_con)]) N (cAt (codeOf Tryd.f32) [1, 1, 1, 0, 1, 0, 0]) (pAt (mkPlan (codeOf Tryd.f32) [([4000000000, 19], [8])]).1 [1, 1, 1, 0, 1, 0]) [19] [8] (impl_seenEvery_t0 a1 g_e0 g_e1 g_e2 g_e3 g_e4 b_a0 n_a0 a0) (kBlock 0 (kSeq (veC Tryd.prog (mkΓ [(57, con impl_isEvery_con)]) N (cAt (codeOf Tryd.f32) [1, 1, 1, 1]) (pAt (mkPlan (codeOf Tryd.f32) [([4000000000, 19], [8])]).1 [1, 1, 1, 1]) (SV × Eff × Bool)) (finK Tryd.prog [.gl 0 212 g_e0 36452, .gl 1 212 g_e1 27809, .gl 2 212 g_e2 46794, .gl 3 212 g_e3 59197, .gl 4 212 g_e4 28733, .sl (.came b_a0) n_a0 a0 64] [.tmp 4, .tmp 5])))) N ([.a (.i .i64 (0 : Int))], [.sl .own (0 + n_a0) ((#[] : Array Value) ++ a0) 64])) (fun e s => (kBlock 0 (kSeq (veC Tryd.prog (mkΓ [(57, con impl_isEvery_con)]) N (cAt (codeOf Tryd.f32) [1, 1, 1, 1]) (pAt (mkPlan (codeOf Tryd.f32) [([4000000000, 19], [8])]).1 [1, 1, 1, 1]) (SV × Eff × Bool)) (finK Tryd.prog [.gl 0 212 g_e0 36452, .gl 1 212 g_e1 27809, .gl 2 212 g_e2 46794, .gl 3 212 g_e3 59197, .gl 4 212 g_e4 28733, .sl (.came b_a0) n_a0 a0 64] [.tmp 4, .tmp 5]))) e (left (writes (cAt (codeOf Tryd.f32) [1, 1, 1, 0, 1, 0, 0])) [19] [8] (impl_seenEvery_t0 a1 g_e0 g_e1 g_e2 g_e3 g_e4 b_a0 n_a0 a0) s)) = nodeR (iterO (impl_seenEvery_g0 Tryd.prog a1 g_e0 g_e1 g_e2 g_e3 g_e4 b_a0 n_a0 a0) N ((0 : Int), ((#[] : Array Value) ++ a0))) (fun x => impl_seenEvery_k0_0 Tryd.prog N a1 g_e0 g_e1 g_e2 g_e3 g_e4 b_a0 n_a0 a0 x.1 x.2) := by
  refine loop_nodeR (impl_seenEvery_e0 n_a0) (impl_seenEvery_x0 n_a0) _ _ (impl_seenEvery_s0 N a1 g_e0 g_e1 g_e2 g_e3 g_e4 b_a0 n_a0 a0) N ((0 : Int), ((#[] : Array Value) ++ a0)) _ _ ?_
  intro x; exact impl_seenEvery_k0_0_eq N a1 g_e0 g_e1 g_e2 g_e3 g_e4 b_a0 n_a0 a0 x.1 x.2

theorem impl_seenEvery_ans (N : Nat) (a1 : Int) (g_e0 : Addr) (g_e1 : Addr) (g_e2 : Addr) (g_e3 : Addr) (g_e4 : Addr) (b_a0 : Option (Option Addr)) (n_a0 : Nat) (a0 : Array Value) : ansV Tryd.prog (mkΓ [(57, con impl_isEvery_con)]) N Tryd.f32 [([4000000000, 19], [8])] [.l 5, .i .i64 (a1)] [.gl 0 212 g_e0 36452, .gl 1 212 g_e1 27809, .gl 2 212 g_e2 46794, .gl 3 212 g_e3 59197, .gl 4 212 g_e4 28733, .sl (.came b_a0) n_a0 a0 64] = (bif (!((impl_isEvery_v0 a1))) then (some (.t [.v (.slice none 0 0), .e 1], .none, true))
    else (bif (Nat.ble ((0 + n_a0) * bytesOf Tryd.prog 64) 140737488355328) then (nodeR (iterO (impl_seenEvery_g0 Tryd.prog a1 g_e0 g_e1 g_e2 g_e3 g_e4 b_a0 n_a0 a0) N ((0 : Int), ((#[] : Array Value) ++ a0))) (fun x => impl_seenEvery_k0_0 Tryd.prog N a1 g_e0 g_e1 g_e2 g_e3 g_e4 b_a0 n_a0 a0 x.1 x.2))
      else (none))) := by
  refine Eq.trans (b := (bif (!((impl_isEvery_v0 a1))) then (some (.t [.v (.slice none 0 0), .e 1], .none, true))
    else (bif (Nat.ble ((0 + n_a0) * bytesOf Tryd.prog 64) 140737488355328) then (bindR (iterO (stepVR Tryd.prog (mkΓ [(57, con impl_isEvery_con)]) N (cAt (codeOf Tryd.f32) [1, 1, 1, 0, 1, 0, 0]) (pAt (mkPlan (codeOf Tryd.f32) [([4000000000, 19], [8])]).1 [1, 1, 1, 0, 1, 0]) [19] [8] (impl_seenEvery_t0 a1 g_e0 g_e1 g_e2 g_e3 g_e4 b_a0 n_a0 a0) (kBlock 0 (kSeq (veC Tryd.prog (mkΓ [(57, con impl_isEvery_con)]) N (cAt (codeOf Tryd.f32) [1, 1, 1, 1]) (pAt (mkPlan (codeOf Tryd.f32) [([4000000000, 19], [8])]).1 [1, 1, 1, 1]) (SV × Eff × Bool)) (finK Tryd.prog [.gl 0 212 g_e0 36452, .gl 1 212 g_e1 27809, .gl 2 212 g_e2 46794, .gl 3 212 g_e3 59197, .gl 4 212 g_e4 28733, .sl (.came b_a0) n_a0 a0 64] [.tmp 4, .tmp 5])))) N ([.a (.i .i64 (0 : Int))], [.sl .own (0 + n_a0) ((#[] : Array Value) ++ a0) 64])) (fun e s => (kBlock 0 (kSeq (veC Tryd.prog (mkΓ [(57, con impl_isEvery_con)]) N (cAt (codeOf Tryd.f32) [1, 1, 1, 1]) (pAt (mkPlan (codeOf Tryd.f32) [([4000000000, 19], [8])]).1 [1, 1, 1, 1]) (SV × Eff × Bool)) (finK Tryd.prog [.gl 0 212 g_e0 36452, .gl 1 212 g_e1 27809, .gl 2 212 g_e2 46794, .gl 3 212 g_e3 59197, .gl 4 212 g_e4 28733, .sl (.came b_a0) n_a0 a0 64] [.tmp 4, .tmp 5]))) e (left (writes (cAt (codeOf Tryd.f32) [1, 1, 1, 0, 1, 0, 0])) [19] [8] (impl_seenEvery_t0 a1 g_e0 g_e1 g_e2 g_e3 g_e4 b_a0 n_a0 a0) s)))
      else (none)))) (by kernel_rfl) ?_
  simp only [impl_seenEvery_n0 N a1 g_e0 g_e1 g_e2 g_e3 g_e4 b_a0 n_a0 a0]

theorem impl_seenEvery_main0 (a1 : Int) (g_e0 : Addr) (g_e1 : Addr) (g_e2 : Addr) (g_e3 : Addr) (g_e4 : Addr) (b_a0 : Option (Option Addr)) (n_a0 : Nat) (a0 : Array Value) (h_a1 : IntKind.i64.min ≤ a1 ∧ a1 ≤ IntKind.i64.max) (h_a0 : a0.size = n_a0 * (lay Tryd.prog 64).length ∧ (∀ k, k < n_a0 → WT Tryd.prog 64 (a0.extract (k * (lay Tryd.prog 64).length) (k * (lay Tryd.prog 64).length + (lay Tryd.prog 64).length))) ∧ n_a0 ≤ 9223372036854775807) (hc0 : (spec_l00In_v0 a1 1 14) = false) (hg : (Nat.ble n_a0 60) = true) : ansV Tryd.prog (mkΓ [(57, con impl_isEvery_con)]) 1000 Tryd.f32 [([4000000000, 19], [8])] [.l 5, .i .i64 (a1)] [.gl 0 212 g_e0 36452, .gl 1 212 g_e1 27809, .gl 2 212 g_e2 46794, .gl 3 212 g_e3 59197, .gl 4 212 g_e4 28733, .sl (.came b_a0) n_a0 a0 64] = some (.t [.v (.slice none 0 0), .e 1], .none, true) := by
  have hn : n_a0 ≤ 60 := Nat.le_of_ble_eq_true hg
  refine (impl_seenEvery_ans 1000 a1 g_e0 g_e1 g_e2 g_e3 g_e4 b_a0 n_a0 a0).trans ?_
  rw [every_in]
  simp only [hc0, Bool.not_false, cond_true]
theorem impl_seenEvery_main1 (a1 : Int) (g_e0 : Addr) (g_e1 : Addr) (g_e2 : Addr) (g_e3 : Addr) (g_e4 : Addr) (b_a0 : Option (Option Addr)) (n_a0 : Nat) (a0 : Array Value) (h_a1 : IntKind.i64.min ≤ a1 ∧ a1 ≤ IntKind.i64.max) (h_a0 : a0.size = n_a0 * (lay Tryd.prog 64).length ∧ (∀ k, k < n_a0 → WT Tryd.prog 64 (a0.extract (k * (lay Tryd.prog 64).length) (k * (lay Tryd.prog 64).length + (lay Tryd.prog 64).length))) ∧ n_a0 ≤ 9223372036854775807) (hc0 : (spec_l00In_v0 a1 1 14) = true) (hc1 : (okV a0 a1 n_a0) = false) (hg : (Nat.ble n_a0 60) = true) : ansV Tryd.prog (mkΓ [(57, con impl_isEvery_con)]) 1000 Tryd.f32 [([4000000000, 19], [8])] [.l 5, .i .i64 (a1)] [.gl 0 212 g_e0 36452, .gl 1 212 g_e1 27809, .gl 2 212 g_e2 46794, .gl 3 212 g_e3 59197, .gl 4 212 g_e4 28733, .sl (.came b_a0) n_a0 a0 64] = some (.t [.v (.slice none 0 0), .e 1], .none, true) := by
  have hn : n_a0 ≤ 60 := Nat.le_of_ble_eq_true hg
  refine (impl_seenEvery_ans 1000 a1 g_e0 g_e1 g_e2 g_e3 g_e4 b_a0 n_a0 a0).trans ?_
  rw [every_in]
  have e1 : decide (a1 ≥ 1) = true := by
    unfold spec_l00In_v0 at hc0
    cases h : decide (a1 ≥ 1) with
    | true => rfl
    | false => rw [h] at hc0; cases hc0
  have ne : (a1 != 0) = true := by
    have := of_decide_eq_true e1
    simpa using (show a1 ≠ 0 by omega)
  have hb : Nat.ble ((0 + n_a0) * bytesOf Tryd.prog 64) 140737488355328 = true := Nat.ble_eq_true_of_le (by rw [show bytesOf Tryd.prog 64 = 2 by kernel_rfl]; omega)
  have hz : a0.size = n_a0 * 2 := h_a0.1
  simp only [hc0, hb, Bool.not_true, cond_true, cond_false]
  have h := iter_find (g := impl_seenEvery_g0 Tryd.prog a1 g_e0 g_e1 g_e2 g_e3 g_e4 b_a0 n_a0 a0) (fun k => ((k : Int), folds (putC a1 a0) a0 k)) (latV a0 a1) n_a0 (N := 1000) (by omega) (xd := .inl ((n_a0 : Int), folds (putC a1 a0) a0 n_a0)) (fun _ => .inr (.t [.v (.slice none 0 0), .e 1], .none, true)) (fun k hk hp => by
    have h1 : decide ((k : Int) < (n_a0 : Int)) = true := decide_eq_true (by omega)
    have h0 : decide (0 ≤ (k : Int)) = true := decide_eq_true (by omega)
    have h2 : decide ((k : Int) < (0 : Int) + (n_a0 : Int)) = true := decide_eq_true (by omega)
    have h3 : IntKind.i64.wrap ((k : Int) + 1) = ((k + 1 : Nat) : Int) := by rw [IntWalk.i64_in _ (by omega)]; omega
    have he : IntKind.i64.wrap (num (a0.extract (k * 2) (k * 2 + 2)) 1) = hcF a0 k := (fnd_ext a0 k).2
    have hv : IntKind.i64.wrap ((IntKind.i64.wrap ((IntKind.i64.wrap ((IntKind.i64.wrap (hcF a0 k + a1)) - (1 : Int))).tdiv a1)) * a1) = visF a0 a1 k := rfl
    have hl : decide (visF a0 a1 k > 14) = false := hp
    show impl_seenEvery_g0 Tryd.prog a1 g_e0 g_e1 g_e2 g_e3 g_e4 b_a0 n_a0 a0 ((k : Int), folds (putC a1 a0) a0 k) = some (.more (((k + 1 : Nat) : Int), folds (putC a1 a0) a0 (k + 1)))
    rw [folds_succ]
    generalize folds (putC a1 a0) a0 k = r
    simp only [impl_seenEvery_g0, h0, h1, h2, h3, ne, he, hv, hl, Bool.and_self, Int.toNat_natCast, cond_true, cond_false]
    rfl) (fun k hk hp => by
    have h1 : decide ((k : Int) < (n_a0 : Int)) = true := decide_eq_true (by omega)
    have h0 : decide (0 ≤ (k : Int)) = true := decide_eq_true (by omega)
    have he : IntKind.i64.wrap (num (a0.extract (k * 2) (k * 2 + 2)) 1) = hcF a0 k := (fnd_ext a0 k).2
    have hv : IntKind.i64.wrap ((IntKind.i64.wrap ((IntKind.i64.wrap ((IntKind.i64.wrap (hcF a0 k + a1)) - (1 : Int))).tdiv a1)) * a1) = visF a0 a1 k := rfl
    have hl : decide (visF a0 a1 k > 14) = true := hp
    show impl_seenEvery_g0 Tryd.prog a1 g_e0 g_e1 g_e2 g_e3 g_e4 b_a0 n_a0 a0 ((k : Int), folds (putC a1 a0) a0 k) = _
    generalize folds (putC a1 a0) a0 k = r
    simp only [impl_seenEvery_g0, h0, h1, ne, he, hv, hl, Bool.and_self, Int.toNat_natCast, cond_true]) (by
    have h1 : decide ((n_a0 : Int) < (n_a0 : Int)) = false := decide_eq_false (by omega)
    simp only [impl_seenEvery_g0, h1, cond_false])
  have h' : iterO (impl_seenEvery_g0 Tryd.prog a1 g_e0 g_e1 g_e2 g_e3 g_e4 b_a0 n_a0 a0) 1000 ((0 : Int), (#[] : Array Value) ++ a0) = some (match (List.range n_a0).find? (latV a0 a1) with | some k => .inr (.t [.v (.slice none 0 0), .e 1], .none, true) | none => .inl ((n_a0 : Int), folds (putC a1 a0) a0 n_a0)) := by
    rw [Array.empty_append]
    exact h
  rw [h']
  unfold okV at hc1
  cases hf : (List.range n_a0).find? (latV a0 a1) with
  | none => rw [hf] at hc1; cases hc1
  | some k => rfl
theorem impl_seenEvery_main2 (a1 : Int) (g_e0 : Addr) (g_e1 : Addr) (g_e2 : Addr) (g_e3 : Addr) (g_e4 : Addr) (b_a0 : Option (Option Addr)) (n_a0 : Nat) (a0 : Array Value) (h_a1 : IntKind.i64.min ≤ a1 ∧ a1 ≤ IntKind.i64.max) (h_a0 : a0.size = n_a0 * (lay Tryd.prog 64).length ∧ (∀ k, k < n_a0 → WT Tryd.prog 64 (a0.extract (k * (lay Tryd.prog 64).length) (k * (lay Tryd.prog 64).length + (lay Tryd.prog 64).length))) ∧ n_a0 ≤ 9223372036854775807) (hc0 : (spec_l00In_v0 a1 1 14) = true) (hc1 : (okV a0 a1 n_a0) = true) (hg : (Nat.ble n_a0 60) = true) : ansV Tryd.prog (mkΓ [(57, con impl_isEvery_con)]) 1000 Tryd.f32 [([4000000000, 19], [8])] [.l 5, .i .i64 (a1)] [.gl 0 212 g_e0 36452, .gl 1 212 g_e1 27809, .gl 2 212 g_e2 46794, .gl 3 212 g_e3 59197, .gl 4 212 g_e4 28733, .sl (.came b_a0) n_a0 a0 64] = some (.t [.x, .v (.nilIface)], .newS (some 0) n_a0 (seenC a0 a1 n_a0) 64, true) := by
  have hn : n_a0 ≤ 60 := Nat.le_of_ble_eq_true hg
  refine (impl_seenEvery_ans 1000 a1 g_e0 g_e1 g_e2 g_e3 g_e4 b_a0 n_a0 a0).trans ?_
  rw [every_in]
  have e1 : decide (a1 ≥ 1) = true := by
    unfold spec_l00In_v0 at hc0
    cases h : decide (a1 ≥ 1) with
    | true => rfl
    | false => rw [h] at hc0; cases hc0
  have ne : (a1 != 0) = true := by
    have := of_decide_eq_true e1
    simpa using (show a1 ≠ 0 by omega)
  have hb : Nat.ble ((0 + n_a0) * bytesOf Tryd.prog 64) 140737488355328 = true := Nat.ble_eq_true_of_le (by rw [show bytesOf Tryd.prog 64 = 2 by kernel_rfl]; omega)
  have hz : a0.size = n_a0 * 2 := h_a0.1
  simp only [hc0, hb, Bool.not_true, cond_true, cond_false]
  have h := iter_find (g := impl_seenEvery_g0 Tryd.prog a1 g_e0 g_e1 g_e2 g_e3 g_e4 b_a0 n_a0 a0) (fun k => ((k : Int), folds (putC a1 a0) a0 k)) (latV a0 a1) n_a0 (N := 1000) (by omega) (xd := .inl ((n_a0 : Int), folds (putC a1 a0) a0 n_a0)) (fun _ => .inr (.t [.v (.slice none 0 0), .e 1], .none, true)) (fun k hk hp => by
    have h1 : decide ((k : Int) < (n_a0 : Int)) = true := decide_eq_true (by omega)
    have h0 : decide (0 ≤ (k : Int)) = true := decide_eq_true (by omega)
    have h2 : decide ((k : Int) < (0 : Int) + (n_a0 : Int)) = true := decide_eq_true (by omega)
    have h3 : IntKind.i64.wrap ((k : Int) + 1) = ((k + 1 : Nat) : Int) := by rw [IntWalk.i64_in _ (by omega)]; omega
    have he : IntKind.i64.wrap (num (a0.extract (k * 2) (k * 2 + 2)) 1) = hcF a0 k := (fnd_ext a0 k).2
    have hv : IntKind.i64.wrap ((IntKind.i64.wrap ((IntKind.i64.wrap ((IntKind.i64.wrap (hcF a0 k + a1)) - (1 : Int))).tdiv a1)) * a1) = visF a0 a1 k := rfl
    have hl : decide (visF a0 a1 k > 14) = false := hp
    show impl_seenEvery_g0 Tryd.prog a1 g_e0 g_e1 g_e2 g_e3 g_e4 b_a0 n_a0 a0 ((k : Int), folds (putC a1 a0) a0 k) = some (.more (((k + 1 : Nat) : Int), folds (putC a1 a0) a0 (k + 1)))
    rw [folds_succ]
    generalize folds (putC a1 a0) a0 k = r
    simp only [impl_seenEvery_g0, h0, h1, h2, h3, ne, he, hv, hl, Bool.and_self, Int.toNat_natCast, cond_true, cond_false]
    rfl) (fun k hk hp => by
    have h1 : decide ((k : Int) < (n_a0 : Int)) = true := decide_eq_true (by omega)
    have h0 : decide (0 ≤ (k : Int)) = true := decide_eq_true (by omega)
    have he : IntKind.i64.wrap (num (a0.extract (k * 2) (k * 2 + 2)) 1) = hcF a0 k := (fnd_ext a0 k).2
    have hv : IntKind.i64.wrap ((IntKind.i64.wrap ((IntKind.i64.wrap ((IntKind.i64.wrap (hcF a0 k + a1)) - (1 : Int))).tdiv a1)) * a1) = visF a0 a1 k := rfl
    have hl : decide (visF a0 a1 k > 14) = true := hp
    show impl_seenEvery_g0 Tryd.prog a1 g_e0 g_e1 g_e2 g_e3 g_e4 b_a0 n_a0 a0 ((k : Int), folds (putC a1 a0) a0 k) = _
    generalize folds (putC a1 a0) a0 k = r
    simp only [impl_seenEvery_g0, h0, h1, ne, he, hv, hl, Bool.and_self, Int.toNat_natCast, cond_true]) (by
    have h1 : decide ((n_a0 : Int) < (n_a0 : Int)) = false := decide_eq_false (by omega)
    simp only [impl_seenEvery_g0, h1, cond_false])
  have h' : iterO (impl_seenEvery_g0 Tryd.prog a1 g_e0 g_e1 g_e2 g_e3 g_e4 b_a0 n_a0 a0) 1000 ((0 : Int), (#[] : Array Value) ++ a0) = some (match (List.range n_a0).find? (latV a0 a1) with | some k => .inr (.t [.v (.slice none 0 0), .e 1], .none, true) | none => .inl ((n_a0 : Int), folds (putC a1 a0) a0 n_a0)) := by
    rw [Array.empty_append]
    exact h
  rw [h']
  unfold okV at hc1
  cases hf : (List.range n_a0).find? (latV a0 a1) with
  | some k => rw [hf] at hc1; cases hc1
  | none =>
    show some (SV.t [.x, .v .nilIface], Eff.newS (some 0) (0 + n_a0) (folds (putC a1 a0) a0 n_a0) 64, true) = _
    rw [put_seen hz h_a0.2.1, Nat.zero_add]
noncomputable def impl_seenEvery_scon : SCon := fun args h => match args, h with
  | [.l 5, .i .i64 a1], [.gl 0 212 g_e0 36452, .gl 1 212 g_e1 27809, .gl 2 212 g_e2 46794, .gl 3 212 g_e3 59197, .gl 4 212 g_e4 28733, .sl (.came b_a0) n_a0 a0 64] => .two (spec_l00In_v0 a1 1 14) (.two (okV a0 a1 n_a0) (.one (some (.t [.x, .v (.nilIface)], .newS (some 0) n_a0 (seenC a0 a1 n_a0) 64, Nat.ble n_a0 60))) (.one (some (.t [.x, .e 1], .newS (some 0) 0 (#[] : Array Value) 64, Nat.ble n_a0 60)))) (.one (some (.t [.x, .e 1], .newS (some 0) 0 (#[] : Array Value) 64, Nat.ble n_a0 60)))
  | _, _ => .one none
theorem impl_seenEvery_enter : ∀ args w, (callFunc 32 args).run Tryd.prog w = .ok (.enter 32 args) w := enter_ok (fn := Tryd.f32) (by kernel_rfl) (by kernel_rfl) (by kernel_rfl)
theorem impl_seenEvery_sok : ConOk Tryd.prog 32 (fun args h => wayRes (impl_seenEvery_scon args h)) := by
  intro ρ h w args vals r e hn hr hA hH
  dsimp only at hr
  unfold impl_seenEvery_scon at hr
  split at hr
  · rename_i a1 g_e0 g_e1 g_e2 g_e3 g_e4 b_a0 n_a0 a0
    simp only [wayRes] at hr
    cases hc0 : (spec_l00In_v0 a1 1 14)
    · rw [hc0] at hr
      simp only [wayRes, cond_true, cond_false] at hr
      obtain ⟨rfl, hg⟩ := Prod.mk.inj (Option.some.inj hr)
      obtain ⟨rfl, hg2⟩ := Prod.mk.inj hg
      exact (ConOk.nil (ans_ok (N := 1000) (by kernel_rfl) (mkΓ_cons (con_ok impl_isEvery_ok) impl_isEvery_enter mkΓ_nil) (fn := Tryd.f32) (by kernel_rfl) (by kernel_rfl) [([4000000000, 19], [8])]) 0 64) ρ _ w _ vals _ _ hn (congrArg (nilN 0 64) (impl_seenEvery_main0 a1 g_e0 g_e1 g_e2 g_e3 g_e4 b_a0 n_a0 a0 (hA.rng 1 rfl) (hH.slw 5 rfl) hc0 hg2)) hA hH
    · rw [hc0] at hr
      simp only [wayRes, cond_true, cond_false] at hr
      cases hc1 : (okV a0 a1 n_a0)
      · rw [hc1] at hr
        simp only [wayRes, cond_true, cond_false] at hr
        obtain ⟨rfl, hg⟩ := Prod.mk.inj (Option.some.inj hr)
        obtain ⟨rfl, hg2⟩ := Prod.mk.inj hg
        exact (ConOk.nil (ans_ok (N := 1000) (by kernel_rfl) (mkΓ_cons (con_ok impl_isEvery_ok) impl_isEvery_enter mkΓ_nil) (fn := Tryd.f32) (by kernel_rfl) (by kernel_rfl) [([4000000000, 19], [8])]) 0 64) ρ _ w _ vals _ _ hn (congrArg (nilN 0 64) (impl_seenEvery_main1 a1 g_e0 g_e1 g_e2 g_e3 g_e4 b_a0 n_a0 a0 (hA.rng 1 rfl) (hH.slw 5 rfl) hc0 hc1 hg2)) hA hH
      · rw [hc1] at hr
        simp only [wayRes, cond_true, cond_false] at hr
        obtain ⟨rfl, hg⟩ := Prod.mk.inj (Option.some.inj hr)
        obtain ⟨rfl, hg2⟩ := Prod.mk.inj hg
        exact ((ans_ok (N := 1000) (by kernel_rfl) (mkΓ_cons (con_ok impl_isEvery_ok) impl_isEvery_enter mkΓ_nil) (fn := Tryd.f32) (by kernel_rfl) (by kernel_rfl) [([4000000000, 19], [8])])) ρ _ w _ vals _ _ hn ((impl_seenEvery_main2 a1 g_e0 g_e1 g_e2 g_e3 g_e4 b_a0 n_a0 a0 (hA.rng 1 rfl) (hH.slw 5 rfl) hc0 hc1 hg2)) hA hH
  · simp only [wayRes] at hr
    cases hr


noncomputable def svN (S : Array Value) (n : Nat) (a : Array Value) (e : Int) : Nat := bif vf S n a then (bif spec_l00In_v0 e 1 14 then (bif okV a e n then n else 0) else 0) else 0
noncomputable def svA (S : Array Value) (n : Nat) (a : Array Value) (e : Int) : Array Value := bif vf S n a then (bif spec_l00In_v0 e 1 14 then (bif okV a e n then seenC a e n else #[]) else #[]) else #[]
noncomputable def svE (S : Array Value) (n : Nat) (a : Array Value) (e : Int) : Int := bif vf S n a then (bif spec_l00In_v0 e 1 14 then (bif okV a e n then 0 else 2) else 2) else 1

noncomputable def spec_SeenAtVisits_G : Cons := (mkΓ [(26, con spec_l03Given_con), (27, con spec_l00In_con)])
noncomputable def spec_SeenAtVisits_t0 (a0 : Array Value) (a2 : Int) (b_a1 : Option (Option Addr)) (n_a1 : Nat) (a1 : Array Value) : St := (⟨.a (.g a0 38) :: .a (.l 0) :: .a (.i .i64 (a2)) :: .a (.w 1) :: .a (.u) :: .a (.u) :: .a (.v (.slice none 0 0)) :: .a (.i .i64 (0 : Int)) :: .a (.i .i64 (spec_l03Given_v0 a0 b_a1 n_a1 a1)) :: .a (.l 6) :: .a (.i .i64 (0 : Int)) :: .a (.u) :: .a (.l 0) :: .a (.i .i64 (spec_l03Given_v0 a0 b_a1 n_a1 a1)) :: .a (.i .i64 (spec_l03Given_v0 a0 b_a1 n_a1 a1)) :: .a (.b (((spec_l03Given_v0 a0 b_a1 n_a1 a1) != (0 : Int)))) :: .a (.u) :: .a (.u) :: .a (.i .i64 (a2)) :: .a (.b ((spec_l00In_v0 a2 (1 : Int) (14 : Int)))) :: .a (.b ((!((spec_l00In_v0 a2 (1 : Int) (14 : Int)))))) :: .a (.u) :: .a (.l 4) :: us 34 ([]), [.sl (.came b_a1) n_a1 a1 64, .row a0 38, .no, .no, .sp, .no, .sl .own 0 (#[] : Array Value) 64], [4]⟩ : St)

noncomputable def spec_SeenAtVisits_e0 : Int × Int × Nat × Array Value → LS
  | (y0_7, y0_10, m0_9, y0_9) => ([.a (.i .i64 (y0_7)), .a (.i .i64 (y0_10)), .a (.l 6)], [.sl .own m0_9 y0_9 64])

noncomputable def spec_SeenAtVisits_x0 : Int × Int × Nat × Array Value → Exit × LS
  | t => ((.exit 0), spec_SeenAtVisits_e0 t)

noncomputable def spec_SeenAtVisits_g0 (P : Program) (a0 : Array Value) (a2 : Int) (b_a1 : Option (Option Addr)) (n_a1 : Nat) (a1 : Array Value) : Int × Int × Nat × Array Value → Option (Stp (Int × Int × Nat × Array Value) ((Int × Int × Nat × Array Value) ⊕ (SV × Eff × Bool)))
  | (y0_7, y0_10, m0_9, y0_9) => bif decide (y0_10 < (n_a1 : Int)) then (bif (decide (0 ≤ y0_10) && decide (y0_10 < (n_a1 : Int))) then (bif (a2 != 0) then (bif decide ((IntKind.i64.wrap ((IntKind.i64.wrap (((IntKind.i64.wrap ((IntKind.i64.wrap ((IntKind.i64.wrap (num a1 (((y0_10).toNat * 2) + 1))) + a2)) - (1 : Int)))).tdiv a2)) * a2)) > (14 : Int)) then (some (.done (.inr (.t [.x, .i .i64 (2 : Int)], .newS (some 0) 0 (#[] : Array Value) 64, true))))
          else (bif (decide (0 ≤ y0_10) && decide (y0_10 < (n_a1 : Int))) then (bif (Nat.ble ((m0_9 + 1) * bytesOf Tryd.prog 64) 140737488355328) then (some (.more (y0_7, (IntKind.i64.wrap (y0_10 + (1 : Int))), (m0_9 + 1), (y0_9 ++ (#[.int .i8 (num a1 (((y0_10).toNat * 2) + 0)), .int .i8 (IntKind.i8.wrap (IntKind.i64.wrap ((IntKind.i64.wrap (((IntKind.i64.wrap ((IntKind.i64.wrap ((IntKind.i64.wrap (num a1 (((y0_10).toNat * 2) + 1))) + a2)) - (1 : Int)))).tdiv a2)) * a2)))] : Array Value)))))
              else (none))
            else (none)))
        else (none))
      else (none))
    else (some (.done (.inl (y0_7, y0_10, m0_9, y0_9))))

theorem spec_SeenAtVisits_s0 (N : Nat) (a0 : Array Value) (a2 : Int) (b_a1 : Option (Option Addr)) (n_a1 : Nat) (a1 : Array Value) : ∀ t : Int × Int × Nat × Array Value, stepVGR Tryd.prog spec_SeenAtVisits_G N (cAt (codeOf Tryd.f8) [1, 1, 1, 1, 0, 1, 0, 0]) (pAt (mkPlan (codeOf Tryd.f8) [([4000000000, 7, 10], [1000009, 64])]).1 [1, 1, 1, 1, 0, 1, 0]) [7, 10] [] 9 64 6 (spec_SeenAtVisits_t0 a0 a2 b_a1 n_a1 a1) (kBlock 0 (kSeq (veC Tryd.prog spec_SeenAtVisits_G N (cAt (codeOf Tryd.f8) [1, 1, 1, 1, 1]) (pAt (mkPlan (codeOf Tryd.f8) [([4000000000, 7, 10], [1000009, 64])]).1 [1, 1, 1, 1, 1]) (SV × Eff × Bool)) (finK Tryd.prog [.sl (.came b_a1) n_a1 a1 64] [.tmp 6, .tmp 7]))) (spec_SeenAtVisits_e0 t) = mapS spec_SeenAtVisits_e0 (eR spec_SeenAtVisits_x0) (spec_SeenAtVisits_g0 Tryd.prog a0 a2 b_a1 n_a1 a1 t) := by
  rintro ⟨y0_7, y0_10, m0_9, y0_9⟩
  refine Eq.trans (b := (bif decide (y0_10 < (n_a1 : Int)) then (bif (decide (0 ≤ y0_10) && decide (y0_10 < (n_a1 : Int))) then (bif (a2 != 0) then (bif decide ((IntKind.i64.wrap ((IntKind.i64.wrap (((IntKind.i64.wrap ((IntKind.i64.wrap ((IntKind.i64.wrap (num a1 (((y0_10).toNat * 2) + 1))) + a2)) - (1 : Int)))).tdiv a2)) * a2)) > (14 : Int)) then (some (.done (.inr (.t [.x, .i .i64 (2 : Int)], .newS (some 0) 0 (#[] : Array Value) 64, true))))
          else (bif (decide (0 ≤ y0_10) && decide (y0_10 < (n_a1 : Int))) then (bif (Nat.ble ((m0_9 + 1) * bytesOf Tryd.prog 64) 140737488355328) then (some (.more ([.a (.i .i64 (y0_7)), .a (.i .i64 (IntKind.i64.wrap (y0_10 + (1 : Int)))), .a (.l 6)], [.sl .own (m0_9 + 1) (y0_9 ++ (#[.int .i8 (num a1 (((y0_10).toNat * 2) + 0)), .int .i8 (IntKind.i8.wrap (IntKind.i64.wrap ((IntKind.i64.wrap (((IntKind.i64.wrap ((IntKind.i64.wrap ((IntKind.i64.wrap (num a1 (((y0_10).toNat * 2) + 1))) + a2)) - (1 : Int)))).tdiv a2)) * a2)))] : Array Value)) 64])))
              else (none))
            else (none)))
        else (none))
      else (none))
    else (some (.done (.inl ((.exit 0), ([.a (.i .i64 (y0_7)), .a (.i .i64 (y0_10)), .a (.l 6)], [.sl .own m0_9 y0_9 64]))))))) (by kernel_rfl) ?_
  simp only [spec_SeenAtVisits_g0, mapS_cond, mapS_more, mapS_done, mapS_none, spec_SeenAtVisits_e0, spec_SeenAtVisits_x0, eR]

noncomputable def spec_SeenAtVisits_k0_0 (P : Program) (N : Nat) (a0 : Array Value) (a2 : Int) (b_a1 : Option (Option Addr)) (n_a1 : Nat) (a1 : Array Value) (z0_7 : Int) (z0_10 : Int) (p0_9 : Nat) (z0_9 : Array Value) : Option (SV × Eff × Bool) := some (.t [.x, .i .i64 (0 : Int)], .newS (some 0) p0_9 z0_9 64, true)

theorem spec_SeenAtVisits_k0_0_eq (N : Nat) (a0 : Array Value) (a2 : Int) (b_a1 : Option (Option Addr)) (n_a1 : Nat) (a1 : Array Value) (z0_7 : Int) (z0_10 : Int) (p0_9 : Nat) (z0_9 : Array Value) : (kBlock 0 (kSeq (veC Tryd.prog spec_SeenAtVisits_G N (cAt (codeOf Tryd.f8) [1, 1, 1, 1, 1]) (pAt (mkPlan (codeOf Tryd.f8) [([4000000000, 7, 10], [1000009, 64])]).1 [1, 1, 1, 1, 1]) (SV × Eff × Bool)) (finK Tryd.prog [.sl (.came b_a1) n_a1 a1 64] [.tmp 6, .tmp 7]))) (.exit 0) (left (writes (cAt (codeOf Tryd.f8) [1, 1, 1, 1, 0, 1, 0, 0])) [7, 10, 9] [6] (spec_SeenAtVisits_t0 a0 a2 b_a1 n_a1 a1) ([.a (.i .i64 (z0_7)), .a (.i .i64 (z0_10)), .a (.l 6)], [.sl .own p0_9 z0_9 64])) = spec_SeenAtVisits_k0_0 Tryd.prog N a0 a2 b_a1 n_a1 a1 z0_7 z0_10 p0_9 z0_9 := by
  refine Eq.trans (b := (some (.t [.x, .i .i64 (0 : Int)], .newS (some 0) p0_9 z0_9 64, true))) (by kernel_rfl) ?_
  rfl

theorem spec_SeenAtVisits_n0 (N : Nat) (a0 : Array Value) (a2 : Int) (b_a1 : Option (Option Addr)) (n_a1 : Nat) (a1 : Array Value) : bindR (iterO (stepVGR Tryd.prog spec_SeenAtVisits_G N (cAt (codeOf Tryd.f8) [1, 1, 1, 1, 0, 1, 0, 0]) (pAt (mkPlan (codeOf Tryd.f8) [([4000000000, 7, 10], [1000009, 64])]).1 [1, 1, 1, 1, 0, 1, 0]) [7, 10] [] 9 64 6 (spec_SeenAtVisits_t0 a0 a2 b_a1 n_a1 a1) (kBlock 0 (kSeq (veC Tryd.prog spec_SeenAtVisits_G N (cAt (codeOf Tryd.f8) [1, 1, 1, 1, 1]) (pAt (mkPlan (codeOf Tryd.f8) [([4000000000, 7, 10], [1000009, 64])]).1 [1, 1, 1, 1, 1]) (SV × Eff × Bool)) (finK Tryd.prog [.sl (.came b_a1) n_a1 a1 64] [.tmp 6, .tmp 7])))) N ([.a (.i .i64 (0 : Int)), .a (.i .i64 (0 : Int)), .a (.l 6)], [.sl .own 0 (#[] : Array Value) 64])) (fun e s => (kBlock 0 (kSeq (veC Tryd.prog spec_SeenAtVisits_G N (cAt (codeOf Tryd.f8) [1, 1, 1, 1, 1]) (pAt (mkPlan (codeOf Tryd.f8) [([4000000000, 7, 10], [1000009, 64])]).1 [1, 1, 1, 1, 1]) (SV × Eff × Bool)) (finK Tryd.prog [.sl (.came b_a1) n_a1 a1 64] [.tmp 6, .tmp 7]))) e (left (writes (cAt (codeOf Tryd.f8) [1, 1, 1, 1, 0, 1, 0, 0])) [7, 10, 9] [6] (spec_SeenAtVisits_t0 a0 a2 b_a1 n_a1 a1) s)) = nodeR (iterO (spec_SeenAtVisits_g0 Tryd.prog a0 a2 b_a1 n_a1 a1) N ((0 : Int), (0 : Int), 0, (#[] : Array Value))) (fun x => spec_SeenAtVisits_k0_0 Tryd.prog N a0 a2 b_a1 n_a1 a1 x.1 x.2.1 x.2.2.1 x.2.2.2) := by
  refine loop_nodeR spec_SeenAtVisits_e0 spec_SeenAtVisits_x0 _ _ (spec_SeenAtVisits_s0 N a0 a2 b_a1 n_a1 a1) N ((0 : Int), (0 : Int), 0, (#[] : Array Value)) _ _ ?_
  intro x; exact spec_SeenAtVisits_k0_0_eq N a0 a2 b_a1 n_a1 a1 x.1 x.2.1 x.2.2.1 x.2.2.2

theorem spec_SeenAtVisits_ans (N : Nat) (a0 : Array Value) (a2 : Int) (b_a1 : Option (Option Addr)) (n_a1 : Nat) (a1 : Array Value) : ansV Tryd.prog spec_SeenAtVisits_G N Tryd.f8 [([4000000000, 7, 10], [1000009, 64])] [.g a0 38, .l 0, .i .i64 (a2)] [.sl (.came b_a1) n_a1 a1 64] = (bif ((spec_l03Given_v0 a0 b_a1 n_a1 a1) != (0 : Int)) then (some (.t [.x, .i .i64 (spec_l03Given_v0 a0 b_a1 n_a1 a1)], .newS (some 0) 0 (#[] : Array Value) 64, true))
    else (bif (!((spec_l00In_v0 a2 (1 : Int) (14 : Int)))) then (some (.t [.x, .i .i64 (2 : Int)], .newS (some 0) 0 (#[] : Array Value) 64, true))
      else (nodeR (iterO (spec_SeenAtVisits_g0 Tryd.prog a0 a2 b_a1 n_a1 a1) N ((0 : Int), (0 : Int), 0, (#[] : Array Value))) (fun x => spec_SeenAtVisits_k0_0 Tryd.prog N a0 a2 b_a1 n_a1 a1 x.1 x.2.1 x.2.2.1 x.2.2.2)))) := by
  refine Eq.trans (b := (bif ((spec_l03Given_v0 a0 b_a1 n_a1 a1) != (0 : Int)) then (some (.t [.x, .i .i64 (spec_l03Given_v0 a0 b_a1 n_a1 a1)], .newS (some 0) 0 (#[] : Array Value) 64, true))
    else (bif (!((spec_l00In_v0 a2 (1 : Int) (14 : Int)))) then (some (.t [.x, .i .i64 (2 : Int)], .newS (some 0) 0 (#[] : Array Value) 64, true))
      else (bindR (iterO (stepVGR Tryd.prog spec_SeenAtVisits_G N (cAt (codeOf Tryd.f8) [1, 1, 1, 1, 0, 1, 0, 0]) (pAt (mkPlan (codeOf Tryd.f8) [([4000000000, 7, 10], [1000009, 64])]).1 [1, 1, 1, 1, 0, 1, 0]) [7, 10] [] 9 64 6 (spec_SeenAtVisits_t0 a0 a2 b_a1 n_a1 a1) (kBlock 0 (kSeq (veC Tryd.prog spec_SeenAtVisits_G N (cAt (codeOf Tryd.f8) [1, 1, 1, 1, 1]) (pAt (mkPlan (codeOf Tryd.f8) [([4000000000, 7, 10], [1000009, 64])]).1 [1, 1, 1, 1, 1]) (SV × Eff × Bool)) (finK Tryd.prog [.sl (.came b_a1) n_a1 a1 64] [.tmp 6, .tmp 7])))) N ([.a (.i .i64 (0 : Int)), .a (.i .i64 (0 : Int)), .a (.l 6)], [.sl .own 0 (#[] : Array Value) 64])) (fun e s => (kBlock 0 (kSeq (veC Tryd.prog spec_SeenAtVisits_G N (cAt (codeOf Tryd.f8) [1, 1, 1, 1, 1]) (pAt (mkPlan (codeOf Tryd.f8) [([4000000000, 7, 10], [1000009, 64])]).1 [1, 1, 1, 1, 1]) (SV × Eff × Bool)) (finK Tryd.prog [.sl (.came b_a1) n_a1 a1 64] [.tmp 6, .tmp 7]))) e (left (writes (cAt (codeOf Tryd.f8) [1, 1, 1, 1, 0, 1, 0, 0])) [7, 10, 9] [6] (spec_SeenAtVisits_t0 a0 a2 b_a1 n_a1 a1) s)))))) (by kernel_rfl) ?_
  simp only [spec_SeenAtVisits_n0 N a0 a2 b_a1 n_a1 a1]

theorem spec_SeenAtVisits_main (a0 : Array Value) (a2 : Int) (b_a1 : Option (Option Addr)) (n_a1 : Nat) (a1 : Array Value) (h_a0 : WT Tryd.prog 38 a0) (h_a2 : IntKind.i64.min ≤ a2 ∧ a2 ≤ IntKind.i64.max) (h_a1 : a1.size = n_a1 * (lay Tryd.prog 64).length ∧ (∀ k, k < n_a1 → WT Tryd.prog 64 (a1.extract (k * (lay Tryd.prog 64).length) (k * (lay Tryd.prog 64).length + (lay Tryd.prog 64).length))) ∧ n_a1 ≤ 9223372036854775807) (hg : (true) = true) : ansV Tryd.prog spec_SeenAtVisits_G 1000 Tryd.f8 [([4000000000, 7, 10], [1000009, 64])] [.g a0 38, .l 0, .i .i64 (a2)] [.sl (.came b_a1) n_a1 a1 64] = some (.t [.x, .i .i64 (svE a0 n_a1 a1 a2)], .newS (some 0) (svN a0 n_a1 a1 a2) (svA a0 n_a1 a1 a2) 64, true) := by
  refine (spec_SeenAtVisits_ans 1000 a0 a2 b_a1 n_a1 a1).trans ?_
  have eG : spec_l03Given_v0 a0 b_a1 n_a1 a1 = bif vf a0 n_a1 a1 then 0 else 1 := by
    unfold spec_l03Given_v0 vf
    cases okS a0 <;> cases (fndAll a0 n_a1 a1 && decide ((n_a1 : Int) ≤ 60)) <;> rfl
  rw [eG]
  unfold svN svA svE
  cases hv : vf a0 n_a1 a1 with
  | false => rfl
  | true =>
  cases he : spec_l00In_v0 a2 1 14 with
  | false => rfl
  | true =>
  have hn := vf_n hv
  have e1 : decide (a2 ≥ 1) = true := by
    unfold spec_l00In_v0 at he
    cases h : decide (a2 ≥ 1) with
    | true => rfl
    | false => rw [h] at he; cases he
  have ne : (a2 != 0) = true := by
    have := of_decide_eq_true e1
    simpa using (show a2 ≠ 0 by omega)
  simp only [cond_true, cond_false, Bool.not_true, show ((0 : Int) != 0) = false from rfl]
  have h := iter_find (g := spec_SeenAtVisits_g0 Tryd.prog a0 a2 b_a1 n_a1 a1) (fun k => ((0 : Int), (k : Int), k, seenC a1 a2 k)) (latV a1 a2) n_a1 (N := 1000) (by omega) (xd := .inl ((0 : Int), (n_a1 : Int), n_a1, seenC a1 a2 n_a1)) (fun _ => .inr (.t [.x, .i .i64 (2 : Int)], .newS (some 0) 0 (#[] : Array Value) 64, true)) (fun k hk hp => by
    have h1 : decide ((k : Int) < (n_a1 : Int)) = true := decide_eq_true (by omega)
    have h0 : decide (0 ≤ (k : Int)) = true := decide_eq_true (by omega)
    have h3 : IntKind.i64.wrap ((k : Int) + 1) = ((k + 1 : Nat) : Int) := by rw [IntWalk.i64_in _ (by omega)]; omega
    have hb : Nat.ble ((k + 1) * bytesOf Tryd.prog 64) 140737488355328 = true := Nat.ble_eq_true_of_le (by rw [show bytesOf Tryd.prog 64 = 2 by kernel_rfl]; omega)
    have hc : IntKind.i64.wrap (num a1 (k * 2 + 1)) = hcF a1 k := rfl
    have hw : IntKind.i64.wrap ((IntKind.i64.wrap ((IntKind.i64.wrap ((IntKind.i64.wrap (hcF a1 k + a2)) - (1 : Int))).tdiv a2)) * a2) = visF a1 a2 k := rfl
    have hl : decide (visF a1 a2 k > 14) = false := hp
    show spec_SeenAtVisits_g0 Tryd.prog a0 a2 b_a1 n_a1 a1 ((0 : Int), (k : Int), k, seenC a1 a2 k) = some (.more ((0 : Int), ((k + 1 : Nat) : Int), k + 1, seenC a1 a2 (k + 1)))
    simp only [spec_SeenAtVisits_g0, h0, h1, h3, hb, ne, hc, hw, hl, Bool.and_self, Int.toNat_natCast, cond_true, cond_false, seenC]) (fun k hk hp => by
    have h1 : decide ((k : Int) < (n_a1 : Int)) = true := decide_eq_true (by omega)
    have h0 : decide (0 ≤ (k : Int)) = true := decide_eq_true (by omega)
    have hc : IntKind.i64.wrap (num a1 (k * 2 + 1)) = hcF a1 k := rfl
    have hw : IntKind.i64.wrap ((IntKind.i64.wrap ((IntKind.i64.wrap ((IntKind.i64.wrap (hcF a1 k + a2)) - (1 : Int))).tdiv a2)) * a2) = visF a1 a2 k := rfl
    have hl : decide (visF a1 a2 k > 14) = true := hp
    show spec_SeenAtVisits_g0 Tryd.prog a0 a2 b_a1 n_a1 a1 ((0 : Int), (k : Int), k, seenC a1 a2 k) = _
    simp only [spec_SeenAtVisits_g0, h0, h1, ne, hc, hw, hl, Bool.and_self, Int.toNat_natCast, cond_true]) (by
    have h1 : decide ((n_a1 : Int) < (n_a1 : Int)) = false := decide_eq_false (by omega)
    simp only [spec_SeenAtVisits_g0, h1, cond_false])
  have h' : iterO (spec_SeenAtVisits_g0 Tryd.prog a0 a2 b_a1 n_a1 a1) 1000 ((0 : Int), (0 : Int), 0, (#[] : Array Value)) = some (match (List.range n_a1).find? (latV a1 a2) with | some k => .inr (.t [.x, .i .i64 (2 : Int)], .newS (some 0) 0 (#[] : Array Value) 64, true) | none => .inl ((0 : Int), (n_a1 : Int), n_a1, seenC a1 a2 n_a1)) := h
  rw [h']
  unfold okV
  cases (List.range n_a1).find? (latV a1 a2) <;> rfl
noncomputable def spec_SeenAtVisits_con : Con := fun args h => match args, h with
  | [.g a0 38, .l 0, .i .i64 a2], [.sl (.came b_a1) n_a1 a1 64] => some (.t [.x, .i .i64 (svE a0 n_a1 a1 a2)], .newS (some 0) (svN a0 n_a1 a1 a2) (svA a0 n_a1 a1 a2) 64, true)
  | _, _ => none
theorem spec_SeenAtVisits_enter : ∀ args w, (callFunc 8 args).run Tryd.prog w = .ok (.enter 8 args) w := enter_ok (fn := Tryd.f8) (by kernel_rfl) (by kernel_rfl) (by kernel_rfl)
theorem spec_SeenAtVisits_ok : ConOk Tryd.prog 8 spec_SeenAtVisits_con := (ans_ok (N := 1000) (by kernel_rfl) (mkΓ_cons (con_ok spec_l03Given_ok) spec_l03Given_enter (mkΓ_cons (con_ok spec_l00In_ok) spec_l00In_enter mkΓ_nil)) (fn := Tryd.f8) (by kernel_rfl) (by kernel_rfl) [([4000000000, 7, 10], [1000009, 64])]).of (by
  intro ρ h w args vals r e hA hH hr
  unfold spec_SeenAtVisits_con at hr
  split at hr
  · rename_i a0 a2 b_a1 n_a1 a1
    obtain ⟨rfl, hg⟩ := Prod.mk.inj (Option.some.inj hr)
    obtain ⟨rfl, hg2⟩ := Prod.mk.inj hg
    exact spec_SeenAtVisits_main a0 a2 b_a1 n_a1 a1 (hA.wt 0 rfl) (hA.rng 2 rfl) (hH.slw 0 rfl) hg2
  · cases hr)

noncomputable def impl_SeenAtVisits_G : Cons := (mkΓw [(30, conSG impl_findsError_scon), (32, conSG impl_seenEvery_scon)] [(31, conG impl_codeOf_con)] [] [])
theorem impl_SeenAtVisits_ans (N : Nat) (a0 : Array Value) (a2 : Int) (g_e0 : Addr) (g_e1 : Addr) (g_e2 : Addr) (g_e3 : Addr) (g_e4 : Addr) (b_a1 : Option (Option Addr)) (n_a1 : Nat) (a1 : Array Value) : ansV Tryd.prog impl_SeenAtVisits_G N Tryd.f11 [] [.g a0 38, .l 5, .i .i64 (a2)] [.gl 0 212 g_e0 36452, .gl 1 212 g_e1 27809, .gl 2 212 g_e2 46794, .gl 3 212 g_e3 59197, .gl 4 212 g_e4 28733, .sl (.came b_a1) n_a1 a1 64] = (bif vf a0 n_a1 a1 then (bif spec_l00In_v0 a2 1 14 then (bif okV a1 a2 n_a1 then (bif Nat.ble n_a1 60 then (some (.t [.x, .i .i64 (0 : Int)], .newS (some 0) n_a1 (seenC a1 a2 n_a1) 64, true))
          else (none))
        else (bif Nat.ble n_a1 60 then (some (.t [.x, .i .i64 (2 : Int)], .newS (some 0) 0 (#[] : Array Value) 64, true))
          else (none)))
      else (bif Nat.ble n_a1 60 then (some (.t [.x, .i .i64 (2 : Int)], .newS (some 0) 0 (#[] : Array Value) 64, true))
        else (none)))
    else (some (.t [.v (.slice none 0 0), .i .i64 (1 : Int)], .none, true))) := by kernel_rfl

theorem impl_SeenAtVisits_main0 (a0 : Array Value) (a2 : Int) (g_e0 : Addr) (g_e1 : Addr) (g_e2 : Addr) (g_e3 : Addr) (g_e4 : Addr) (b_a1 : Option (Option Addr)) (n_a1 : Nat) (a1 : Array Value) (h_a0 : WT Tryd.prog 38 a0) (h_a2 : IntKind.i64.min ≤ a2 ∧ a2 ≤ IntKind.i64.max) (h_a1 : a1.size = n_a1 * (lay Tryd.prog 64).length ∧ (∀ k, k < n_a1 → WT Tryd.prog 64 (a1.extract (k * (lay Tryd.prog 64).length) (k * (lay Tryd.prog 64).length + (lay Tryd.prog 64).length))) ∧ n_a1 ≤ 9223372036854775807) (hc0 : (vf a0 n_a1 a1) = false) (hg : (true) = true) : ansV Tryd.prog impl_SeenAtVisits_G 1000 Tryd.f11 [] [.g a0 38, .l 5, .i .i64 (a2)] [.gl 0 212 g_e0 36452, .gl 1 212 g_e1 27809, .gl 2 212 g_e2 46794, .gl 3 212 g_e3 59197, .gl 4 212 g_e4 28733, .sl (.came b_a1) n_a1 a1 64] = some (.t [.v (.slice none 0 0), .i .i64 (1 : Int)], .none, true) := by
  refine (impl_SeenAtVisits_ans 1000 a0 a2 g_e0 g_e1 g_e2 g_e3 g_e4 b_a1 n_a1 a1).trans ?_
  simp only [hc0, cond_true, cond_false, Bool.not_true, Bool.not_false]
theorem impl_SeenAtVisits_main1 (a0 : Array Value) (a2 : Int) (g_e0 : Addr) (g_e1 : Addr) (g_e2 : Addr) (g_e3 : Addr) (g_e4 : Addr) (b_a1 : Option (Option Addr)) (n_a1 : Nat) (a1 : Array Value) (h_a0 : WT Tryd.prog 38 a0) (h_a2 : IntKind.i64.min ≤ a2 ∧ a2 ≤ IntKind.i64.max) (h_a1 : a1.size = n_a1 * (lay Tryd.prog 64).length ∧ (∀ k, k < n_a1 → WT Tryd.prog 64 (a1.extract (k * (lay Tryd.prog 64).length) (k * (lay Tryd.prog 64).length + (lay Tryd.prog 64).length))) ∧ n_a1 ≤ 9223372036854775807) (hc0 : (vf a0 n_a1 a1) = true) (hc1 : (spec_l00In_v0 a2 1 14) = false) (hg : (true) = true) : ansV Tryd.prog impl_SeenAtVisits_G 1000 Tryd.f11 [] [.g a0 38, .l 5, .i .i64 (a2)] [.gl 0 212 g_e0 36452, .gl 1 212 g_e1 27809, .gl 2 212 g_e2 46794, .gl 3 212 g_e3 59197, .gl 4 212 g_e4 28733, .sl (.came b_a1) n_a1 a1 64] = some (.t [.x, .i .i64 (2 : Int)], .newS (some 0) 0 (#[] : Array Value) 64, true) := by
  refine (impl_SeenAtVisits_ans 1000 a0 a2 g_e0 g_e1 g_e2 g_e3 g_e4 b_a1 n_a1 a1).trans ?_
  have hn : Nat.ble n_a1 60 = true := Nat.ble_eq_true_of_le (vf_n hc0)
  simp only [hc0, hc1, hn, cond_true, cond_false, Bool.not_true, Bool.not_false]
theorem impl_SeenAtVisits_main2 (a0 : Array Value) (a2 : Int) (g_e0 : Addr) (g_e1 : Addr) (g_e2 : Addr) (g_e3 : Addr) (g_e4 : Addr) (b_a1 : Option (Option Addr)) (n_a1 : Nat) (a1 : Array Value) (h_a0 : WT Tryd.prog 38 a0) (h_a2 : IntKind.i64.min ≤ a2 ∧ a2 ≤ IntKind.i64.max) (h_a1 : a1.size = n_a1 * (lay Tryd.prog 64).length ∧ (∀ k, k < n_a1 → WT Tryd.prog 64 (a1.extract (k * (lay Tryd.prog 64).length) (k * (lay Tryd.prog 64).length + (lay Tryd.prog 64).length))) ∧ n_a1 ≤ 9223372036854775807) (hc0 : (vf a0 n_a1 a1) = true) (hc1 : (spec_l00In_v0 a2 1 14) = true) (hc2 : (okV a1 a2 n_a1) = false) (hg : (true) = true) : ansV Tryd.prog impl_SeenAtVisits_G 1000 Tryd.f11 [] [.g a0 38, .l 5, .i .i64 (a2)] [.gl 0 212 g_e0 36452, .gl 1 212 g_e1 27809, .gl 2 212 g_e2 46794, .gl 3 212 g_e3 59197, .gl 4 212 g_e4 28733, .sl (.came b_a1) n_a1 a1 64] = some (.t [.x, .i .i64 (2 : Int)], .newS (some 0) 0 (#[] : Array Value) 64, true) := by
  refine (impl_SeenAtVisits_ans 1000 a0 a2 g_e0 g_e1 g_e2 g_e3 g_e4 b_a1 n_a1 a1).trans ?_
  have hn : Nat.ble n_a1 60 = true := Nat.ble_eq_true_of_le (vf_n hc0)
  simp only [hc0, hc1, hc2, hn, cond_true, cond_false, Bool.not_true, Bool.not_false]
theorem impl_SeenAtVisits_main3 (a0 : Array Value) (a2 : Int) (g_e0 : Addr) (g_e1 : Addr) (g_e2 : Addr) (g_e3 : Addr) (g_e4 : Addr) (b_a1 : Option (Option Addr)) (n_a1 : Nat) (a1 : Array Value) (h_a0 : WT Tryd.prog 38 a0) (h_a2 : IntKind.i64.min ≤ a2 ∧ a2 ≤ IntKind.i64.max) (h_a1 : a1.size = n_a1 * (lay Tryd.prog 64).length ∧ (∀ k, k < n_a1 → WT Tryd.prog 64 (a1.extract (k * (lay Tryd.prog 64).length) (k * (lay Tryd.prog 64).length + (lay Tryd.prog 64).length))) ∧ n_a1 ≤ 9223372036854775807) (hc0 : (vf a0 n_a1 a1) = true) (hc1 : (spec_l00In_v0 a2 1 14) = true) (hc2 : (okV a1 a2 n_a1) = true) (hg : (true) = true) : ansV Tryd.prog impl_SeenAtVisits_G 1000 Tryd.f11 [] [.g a0 38, .l 5, .i .i64 (a2)] [.gl 0 212 g_e0 36452, .gl 1 212 g_e1 27809, .gl 2 212 g_e2 46794, .gl 3 212 g_e3 59197, .gl 4 212 g_e4 28733, .sl (.came b_a1) n_a1 a1 64] = some (.t [.x, .i .i64 (0 : Int)], .newS (some 0) n_a1 (seenC a1 a2 n_a1) 64, true) := by
  refine (impl_SeenAtVisits_ans 1000 a0 a2 g_e0 g_e1 g_e2 g_e3 g_e4 b_a1 n_a1 a1).trans ?_
  have hn : Nat.ble n_a1 60 = true := Nat.ble_eq_true_of_le (vf_n hc0)
  simp only [hc0, hc1, hc2, hn, cond_true, cond_false, Bool.not_true, Bool.not_false]
noncomputable def impl_SeenAtVisits_scon : SCon := fun args h => match args, h with
  | [.g a0 38, .l 5, .i .i64 a2], [.gl 0 212 g_e0 36452, .gl 1 212 g_e1 27809, .gl 2 212 g_e2 46794, .gl 3 212 g_e3 59197, .gl 4 212 g_e4 28733, .sl (.came b_a1) n_a1 a1 64] => .two (vf a0 n_a1 a1) (.two (spec_l00In_v0 a2 1 14) (.two (okV a1 a2 n_a1) (.one (some (.t [.x, .i .i64 (0 : Int)], .newS (some 0) n_a1 (seenC a1 a2 n_a1) 64, true))) (.one (some (.t [.x, .i .i64 (2 : Int)], .newS (some 0) 0 (#[] : Array Value) 64, true)))) (.one (some (.t [.x, .i .i64 (2 : Int)], .newS (some 0) 0 (#[] : Array Value) 64, true)))) (.one (some (.t [.x, .i .i64 (1 : Int)], .newS (some 0) 0 (#[] : Array Value) 64, true)))
  | _, _ => .one none
theorem impl_SeenAtVisits_enter : ∀ args w, (callFunc 11 args).run Tryd.prog w = .ok (.enter 11 args) w := enter_ok (fn := Tryd.f11) (by kernel_rfl) (by kernel_rfl) (by kernel_rfl)
theorem impl_SeenAtVisits_sok : ConOk Tryd.prog 11 (fun args h => wayRes (impl_SeenAtVisits_scon args h)) := by
  intro ρ h w args vals r e hn hr hA hH
  dsimp only at hr
  unfold impl_SeenAtVisits_scon at hr
  split at hr
  · rename_i a0 a2 g_e0 g_e1 g_e2 g_e3 g_e4 b_a1 n_a1 a1
    simp only [wayRes] at hr
    cases hc0 : (vf a0 n_a1 a1)
    · rw [hc0] at hr
      simp only [wayRes, cond_true, cond_false] at hr
      obtain ⟨rfl, hg⟩ := Prod.mk.inj (Option.some.inj hr)
      obtain ⟨rfl, hg2⟩ := Prod.mk.inj hg
      exact (ConOk.nil (ans_ok (N := 1000) (by kernel_rfl) (mkΓw_s (conSG_ok impl_findsError_sok) impl_findsError_enter (mkΓw_s (conSG_ok impl_seenEvery_sok) impl_seenEvery_enter (mkΓw_c (conG_ok impl_codeOf_ok) impl_codeOf_enter mkΓx_nil))) (fn := Tryd.f11) (by kernel_rfl) (by kernel_rfl) []) 0 64) ρ _ w _ vals _ _ hn (congrArg (nilN 0 64) (impl_SeenAtVisits_main0 a0 a2 g_e0 g_e1 g_e2 g_e3 g_e4 b_a1 n_a1 a1 (hA.wt 0 rfl) (hA.rng 2 rfl) (hH.slw 5 rfl) hc0 hg2)) hA hH
    · rw [hc0] at hr
      simp only [wayRes, cond_true, cond_false] at hr
      cases hc1 : (spec_l00In_v0 a2 1 14)
      · rw [hc1] at hr
        simp only [wayRes, cond_true, cond_false] at hr
        obtain ⟨rfl, hg⟩ := Prod.mk.inj (Option.some.inj hr)
        obtain ⟨rfl, hg2⟩ := Prod.mk.inj hg
        exact ((ans_ok (N := 1000) (by kernel_rfl) (mkΓw_s (conSG_ok impl_findsError_sok) impl_findsError_enter (mkΓw_s (conSG_ok impl_seenEvery_sok) impl_seenEvery_enter (mkΓw_c (conG_ok impl_codeOf_ok) impl_codeOf_enter mkΓx_nil))) (fn := Tryd.f11) (by kernel_rfl) (by kernel_rfl) [])) ρ _ w _ vals _ _ hn ((impl_SeenAtVisits_main1 a0 a2 g_e0 g_e1 g_e2 g_e3 g_e4 b_a1 n_a1 a1 (hA.wt 0 rfl) (hA.rng 2 rfl) (hH.slw 5 rfl) hc0 hc1 hg2)) hA hH
      · rw [hc1] at hr
        simp only [wayRes, cond_true, cond_false] at hr
        cases hc2 : (okV a1 a2 n_a1)
        · rw [hc2] at hr
          simp only [wayRes, cond_true, cond_false] at hr
          obtain ⟨rfl, hg⟩ := Prod.mk.inj (Option.some.inj hr)
          obtain ⟨rfl, hg2⟩ := Prod.mk.inj hg
          exact ((ans_ok (N := 1000) (by kernel_rfl) (mkΓw_s (conSG_ok impl_findsError_sok) impl_findsError_enter (mkΓw_s (conSG_ok impl_seenEvery_sok) impl_seenEvery_enter (mkΓw_c (conG_ok impl_codeOf_ok) impl_codeOf_enter mkΓx_nil))) (fn := Tryd.f11) (by kernel_rfl) (by kernel_rfl) [])) ρ _ w _ vals _ _ hn ((impl_SeenAtVisits_main2 a0 a2 g_e0 g_e1 g_e2 g_e3 g_e4 b_a1 n_a1 a1 (hA.wt 0 rfl) (hA.rng 2 rfl) (hH.slw 5 rfl) hc0 hc1 hc2 hg2)) hA hH
        · rw [hc2] at hr
          simp only [wayRes, cond_true, cond_false] at hr
          obtain ⟨rfl, hg⟩ := Prod.mk.inj (Option.some.inj hr)
          obtain ⟨rfl, hg2⟩ := Prod.mk.inj hg
          exact ((ans_ok (N := 1000) (by kernel_rfl) (mkΓw_s (conSG_ok impl_findsError_sok) impl_findsError_enter (mkΓw_s (conSG_ok impl_seenEvery_sok) impl_seenEvery_enter (mkΓw_c (conG_ok impl_codeOf_ok) impl_codeOf_enter mkΓx_nil))) (fn := Tryd.f11) (by kernel_rfl) (by kernel_rfl) [])) ρ _ w _ vals _ _ hn ((impl_SeenAtVisits_main3 a0 a2 g_e0 g_e1 g_e2 g_e3 g_e4 b_a1 n_a1 a1 (hA.wt 0 rfl) (hA.rng 2 rfl) (hH.slw 5 rfl) hc0 hc1 hc2 hg2)) hA hH
  · simp only [wayRes] at hr
    cases hr

noncomputable def impl_SeenAtVisits_con : Con := fun args h => match args, h with
  | [.g a0 38, .l 5, .i .i64 a2], [.gl 0 212 g_e0 36452, .gl 1 212 g_e1 27809, .gl 2 212 g_e2 46794, .gl 3 212 g_e3 59197, .gl 4 212 g_e4 28733, .sl (.came b_a1) n_a1 a1 64] => some (.t [.x, .i .i64 (svE a0 n_a1 a1 a2)], .newS (some 0) (svN a0 n_a1 a1 a2) (svA a0 n_a1 a1 a2) 64, true)
  | _, _ => none
theorem impl_SeenAtVisits_ok : ConOk Tryd.prog 11 impl_SeenAtVisits_con := ConOk.of impl_SeenAtVisits_sok (by
  intro ρ h w args vals r e hA hH hr
  unfold impl_SeenAtVisits_con at hr
  split at hr
  · rename_i a0 a2 g_e0 g_e1 g_e2 g_e3 g_e4 b_a1 n_a1 a1
    obtain ⟨rfl, hg⟩ := Prod.mk.inj (Option.some.inj hr)
    obtain ⟨rfl, hg2⟩ := Prod.mk.inj hg
    show wayRes (impl_SeenAtVisits_scon _ _) = _
    unfold impl_SeenAtVisits_scon
    simp only [wayRes]
    unfold svN svA svE
    cases (vf a0 n_a1 a1) <;> cases (spec_l00In_v0 a2 1 14) <;> cases (okV a1 a2 n_a1) <;> rfl
  · cases hr)

end
end Go.Proofs.YthpcidnfbceliaaDoor
