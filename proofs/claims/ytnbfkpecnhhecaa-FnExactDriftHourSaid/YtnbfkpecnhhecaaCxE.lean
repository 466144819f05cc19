/- Spec and program hold the same spreads valid, in company. -/
import Derived.Test.YtnbfkpecnhhecaaProg
import Derived.Test.YtnbfkpecnhhecaaCxD
namespace Go.Proofs.Ytnbfkpecnhhecaa
open Go.ChangeShapes Go.WideShapes Go.ChangeAt Go.RowKit Ve Vc
set_option linter.unusedVariables false
set_option linter.unusedSimpArgs false
set_option maxRecDepth 100000
noncomputable section
variable {mn : Md}
noncomputable def sumC (D : Array Value) : Nat → Int
  | 0 => 0
  | k + 1 => sumC D k + num D (3 + k * 1)
theorem left_run {X : Int} {D : Array Value} (hX : 0 ≤ X ∧ X ≤ 9223372036854775807) : ∀ k, (∀ i, i < k → 0 ≤ num D (3 + i * 1) ∧ num D (3 + i * 1) ≤ leftW X D i) → leftW X D k = X - sumC D k ∧ 0 ≤ X - sumC D k ∧ 0 ≤ sumC D k
  | 0, _ => ⟨by show X = X - 0; omega, by show 0 ≤ X - 0; omega, Int.le_refl _⟩
  | k + 1, h => by
    obtain ⟨h1, h2, h3⟩ := left_run hX k (fun i hi => h i (by omega))
    have hk := h k (by omega)
    rw [h1] at hk
    have e : leftW X D (k + 1) = X - sumC D (k + 1) := by
      show IntKind.i64.wrap (leftW X D k - num D (3 + k * 1)) = X - (sumC D k + num D (3 + k * 1))
      rw [h1, IntWalk.i64_in _ (by omega)]; omega
    exact ⟨e, by show 0 ≤ X - (sumC D k + num D (3 + k * 1)); omega, by show 0 ≤ sumC D k + num D (3 + k * 1); omega⟩
theorem left_of_sum {X : Int} {D : Array Value} (hX : 0 ≤ X ∧ X ≤ 9223372036854775807) : ∀ k, (∀ i, i < k → 0 ≤ num D (3 + i * 1)) → 0 ≤ X - sumC D k → leftW X D k = X - sumC D k ∧ 0 ≤ sumC D k ∧ ∀ i, i < k → num D (3 + i * 1) ≤ leftW X D i
  | 0, _, _ => ⟨by show X = X - 0; omega, Int.le_refl _, fun i hi => by omega⟩
  | k + 1, h, hs => by
    have hk := h k (by omega)
    have hs' : 0 ≤ X - (sumC D k + num D (3 + k * 1)) := hs
    obtain ⟨h1, h2, h3⟩ := left_of_sum hX k (fun i hi => h i (by omega)) (by omega)
    refine ⟨?_, by show 0 ≤ sumC D k + num D (3 + k * 1); omega, fun i hi => ?_⟩
    · show IntKind.i64.wrap (leftW X D k - num D (3 + k * 1)) = X - (sumC D k + num D (3 + k * 1))
      rw [h1, IntWalk.i64_in _ (by omega)]; omega
    · by_cases e : i = k
      · subst e; rw [h1]; omega
      · exact h3 i (by omega)
theorem pS_iff {S D : Array Value} {X : Int} {k : Nat} : pS S D X k = true ↔ (0 ≤ num D (3 + k * 1) ∧ num D (3 + k * 1) ≤ leftW X D k) ∧ (num D (3 + k * 1) = 0 ∨ spec_l01Is_v0 (k : Int) S = true) := by
  unfold pS
  rw [Bool.and_eq_true, Bool.or_eq_true]
  refine and_congr ⟨in_range, in_of⟩ (or_congr ?_ Iff.rfl)
  simp
theorem pI_iff {S D : Array Value} {X : Int} {k : Nat} : pI S D X k = true ↔ (0 ≤ num D (3 + k * 1) ∧ num D (3 + k * 1) ≤ leftW X D k) ∧ (num D (3 + k * 1) ≤ 0 ∨ spec_l01Is_v0 (k : Int) S = true) := by
  unfold pI
  rw [cell_is]
  simp only [Bool.and_eq_true, Bool.or_eq_true, Bool.not_eq_true', decide_eq_false_iff_not]
  constructor
  · rintro ⟨h1, h2, h3⟩
    exact ⟨⟨by omega, by omega⟩, h3.imp (fun h => by omega) (fun h => h)⟩
  · rintro ⟨⟨h1, h2⟩, h3⟩
    exact ⟨by omega, by omega, h3.imp (fun h => by omega) (fun h => h)⟩
theorem sums_eq (S D : Array Value) (A L : Int) (hA : 0 ≤ A ∧ A ≤ 9223372036854775807) :
    (bif (!(spec_l00In_v0 L 0 A)) then false else (allB (pS S D (IntKind.i64.wrap (A - L))) && (leftW (IntKind.i64.wrap (A - L)) D 36 == 0))) = (allB (pI S D A) && (L == leftW A D 36)) := by
  rw [Bool.eq_iff_iff]
  constructor
  · intro h
    cases hi : spec_l00In_v0 L 0 A with
    | false => rw [hi] at h; exact nomatch h
    | true =>
      have hl := in_range hi
      rw [hi] at h
      have hw : IntKind.i64.wrap (A - L) = A - L := by rw [IntWalk.i64_in _ (by omega)]
      rw [hw] at h
      simp only [Bool.not_true, cond_false, Bool.and_eq_true, beq_iff_eq] at h
      have hp := fun k hk => pS_iff.1 ((allB_iff _).1 h.1 k hk)
      obtain ⟨e1, e2, e3⟩ := left_run (X := A - L) (D := D) (by omega) 36 (fun i hi => (hp i hi).1)
      rw [h.2] at e1
      obtain ⟨f1, f2, f3⟩ := left_of_sum (X := A) (D := D) hA 36 (fun i hi => (hp i hi).1.1) (by omega)
      rw [Bool.and_eq_true, beq_iff_eq]
      refine ⟨(allB_iff _).2 fun k hk => pI_iff.2 ⟨⟨(hp k hk).1.1, f3 k hk⟩, (hp k hk).2.imp (fun h => by omega) (fun h => h)⟩, by omega⟩
  · intro h
    rw [Bool.and_eq_true, beq_iff_eq] at h
    have hp := fun k hk => pI_iff.1 ((allB_iff _).1 h.1 k hk)
    obtain ⟨e1, e2, e3⟩ := left_run (X := A) (D := D) hA 36 (fun i hi => (hp i hi).1)
    have hl : 0 ≤ L ∧ L ≤ A := by omega
    have hw : IntKind.i64.wrap (A - L) = A - L := by rw [IntWalk.i64_in _ (by omega)]
    obtain ⟨f1, f2, f3⟩ := left_of_sum (X := A - L) (D := D) (by omega) 36 (fun i hi => (hp i hi).1.1) (by omega)
    rw [in_of hl, hw]
    simp only [Bool.not_true, cond_false, Bool.and_eq_true, beq_iff_eq]
    exact ⟨(allB_iff _).2 fun k hk => pS_iff.2 ⟨⟨(hp k hk).1.1, f3 k hk⟩, (hp k hk).2.imp (fun h => by have := (hp k hk).1.1; omega) (fun h => h)⟩, by omega⟩
theorem pow12 : ∀ m, m < 15 → 1 ≤ (12 : Int) ^ m ∧ (12 : Int) ^ m ≤ 1283918464548864 := by decide
theorem allW_in {D : Array Value} (h1 : spec_l00In_v0 (IntKind.i64.wrap (num D 1)) 0 14 = true) (h2 : spec_l00In_v0 (num D 2) 1 1000 = true) : 0 ≤ allW D ∧ allW D ≤ 9223372036854775807 := by
  have r1 := in_range h1
  have r2 := in_range h2
  unfold allW
  have hp := pow12 (IntKind.i64.wrap (num D 1)).toNat (by omega)
  generalize (12 : Int) ^ (IntKind.i64.wrap (num D 1)).toNat = q at hp
  have b1 : 0 ≤ num D 2 * q := Int.mul_nonneg (by omega) (by omega)
  have b2 : num D 2 * q ≤ 1000 * q := Int.mul_le_mul_of_nonneg_right r2.2 (by omega)
  rw [IntWalk.i64_in _ (by omega)]
  omega
noncomputable def spec_ValidSpread_v0 (S D : Array Value) : Bool := bif okS S then specSp S D else false
theorem impl_ValidSpread_ans (N : Nat) (a0 : Array Value) (a1 : Array Value) : ansV Try.prog (mkΓ [(20, con impl_hasHours_con), (38, con impl_ValidSea_con), (39, con impl_hasTide_con), (40, con impl_hasBottles_con), (41, con impl_sumsToAll_con)]) N Try.f27 [] [.g a0 39, .g a1 32] [] = (bif (!((okS a0))) then (some (.a (.b (false)), .none, true))
    else (bif (!((impl_hasTide_v0 (IntKind.i64.wrap (num a1 0))))) then (some (.a (.b (false)), .none, true))
      else (bif (!((impl_hasHours_v0 (IntKind.i64.wrap (num a1 1))))) then (some (.a (.b (false)), .none, true))
        else (bif (!((impl_hasBottles_v0 (num a1 2) (1000 : Int)))) then (some (.a (.b (false)), .none, true))
          else (bif (impl_allOf_gd a1) then (some (.a (.b ((implSp a0 a1))), .none, true))
            else (none)))))) := by kernel_rfl
noncomputable def impl_ValidSpread_v0 (a0 : Array Value) (a1 : Array Value) : Bool := (bif (!((okS a0))) then false else (bif (!((impl_hasTide_v0 (IntKind.i64.wrap (num a1 0))))) then false else (bif (!((impl_hasHours_v0 (IntKind.i64.wrap (num a1 1))))) then false else (bif (!((impl_hasBottles_v0 (num a1 2) (1000 : Int)))) then false else (implSp a0 a1)))))
noncomputable def impl_ValidSpread_gd (a0 : Array Value) (a1 : Array Value) : Bool := (bif (!((okS a0))) then true else (bif (!((impl_hasTide_v0 (IntKind.i64.wrap (num a1 0))))) then true else (bif (!((impl_hasHours_v0 (IntKind.i64.wrap (num a1 1))))) then true else (bif (!((impl_hasBottles_v0 (num a1 2) (1000 : Int)))) then true else (impl_allOf_gd a1)))))
theorem impl_ValidSpread_main (a0 : Array Value) (a1 : Array Value) (h_a0 : WT Try.prog 39 a0) (h_a1 : WT Try.prog 32 a1) (hg : ((impl_ValidSpread_gd a0 a1)) = true) : ansV Try.prog (mkΓ [(20, con impl_hasHours_con), (38, con impl_ValidSea_con), (39, con impl_hasTide_con), (40, con impl_hasBottles_con), (41, con impl_sumsToAll_con)]) 1000 Try.f27 [] [.g a0 39, .g a1 32] [] = some (.a (.b ((impl_ValidSpread_v0 a0 a1))), .none, true) := by
  refine (impl_ValidSpread_ans 1000 a0 a1).trans ?_
  unfold impl_ValidSpread_gd at hg
  unfold impl_ValidSpread_v0
  revert hg
  generalize ((!((okS a0)))) = b2
  intro hg
  cases b2
  · skip
    revert hg
    generalize ((!((impl_hasTide_v0 (IntKind.i64.wrap (num a1 0)))))) = b4
    intro hg
    cases b4
    · skip
      revert hg
      generalize ((!((impl_hasHours_v0 (IntKind.i64.wrap (num a1 1)))))) = b6
      intro hg
      cases b6
      · skip
        revert hg
        generalize ((!((impl_hasBottles_v0 (num a1 2) (1000 : Int))))) = b8
        intro hg
        cases b8
        · skip
          revert hg
          generalize ((impl_allOf_gd a1)) = b10
          intro hg
          cases b10
          · skip
            first | exact (nomatch (hg : false = true)) | (simp only [cond_true, cond_false, Bool.and_true, Bool.true_and, Bool.and_false, Bool.false_and]; done) | rfl
          · skip
            first | (simp only [cond_true, cond_false, Bool.and_true, Bool.true_and, Bool.and_false, Bool.false_and]; done) | rfl | exact (nomatch (hg : false = true))
        · skip
          first | (simp only [cond_true, cond_false, Bool.and_true, Bool.true_and, Bool.and_false, Bool.false_and]; done) | rfl | exact (nomatch (hg : false = true))
      · skip
        first | (simp only [cond_true, cond_false, Bool.and_true, Bool.true_and, Bool.and_false, Bool.false_and]; done) | rfl | exact (nomatch (hg : false = true))
    · skip
      first | (simp only [cond_true, cond_false, Bool.and_true, Bool.true_and, Bool.and_false, Bool.false_and]; done) | rfl | exact (nomatch (hg : false = true))
  · skip
    first | (simp only [cond_true, cond_false, Bool.and_true, Bool.true_and, Bool.and_false, Bool.false_and]; done) | rfl | exact (nomatch (hg : false = true))
noncomputable def impl_ValidSpread_con : Con := fun args h => match args, h with
  | [.g a0 39, .g a1 32], [] => some (.a (.b ((impl_ValidSpread_v0 a0 a1))), .none, (impl_ValidSpread_gd a0 a1))
  | _, _ => none
theorem impl_ValidSpread_enter : EntX Try.prog 27 := entX_ok (fn := Try.f27) (by kernel_rfl) (by kernel_rfl) (by kernel_rfl)
theorem impl_ValidSpread_ok : ConOkX mn Try.prog 27 impl_ValidSpread_con := (ansX_ok (N := 1000) (by kernel_rfl) (mkΓ_consX (con_okX impl_hasHours_ok) impl_hasHours_enter (mkΓ_consX (con_okX impl_ValidSea_ok) impl_ValidSea_enter (mkΓ_consX (con_okX impl_hasTide_ok) impl_hasTide_enter (mkΓ_consX (con_okX impl_hasBottles_ok) impl_hasBottles_enter (mkΓ_consX (con_okX impl_sumsToAll_ok) impl_sumsToAll_enter mkΓ_nilX))))) (fn := Try.f27) (by kernel_rfl) (by kernel_rfl) []).of (by
  intro ρ h w args vals r e hA hH hr
  unfold impl_ValidSpread_con at hr
  split at hr
  · rename_i a0 a1
    obtain ⟨rfl, hg⟩ := Prod.mk.inj (Option.some.inj hr)
    obtain ⟨rfl, hg2⟩ := Prod.mk.inj hg
    exact impl_ValidSpread_main a0 a1 (hA.wt 0 rfl) (hA.wt 1 rfl) hg2
  · cases hr)
theorem valid_spread (S D : Array Value) : impl_ValidSpread_v0 S D = spec_ValidSpread_v0 S D ∧ impl_ValidSpread_gd S D = true := by
  have hh : ∀ x, impl_hasHours_v0 x = spec_l00In_v0 x 0 14 := fun _ => rfl
  unfold impl_ValidSpread_v0 spec_ValidSpread_v0 impl_ValidSpread_gd specSp
  rw [tide_eq, hh, bottles_eq]
  cases okS S
  · exact ⟨rfl, rfl⟩
  cases spec_l00In_v0 (IntKind.i64.wrap (num D 0)) 0 1
  · exact ⟨rfl, rfl⟩
  cases h1 : spec_l00In_v0 (IntKind.i64.wrap (num D 1)) 0 14
  · exact ⟨rfl, rfl⟩
  cases h2 : spec_l00In_v0 (num D 2) 1 1000
  · exact ⟨rfl, rfl⟩
  have r1 := in_range h1
  simp only [Bool.not_true, cond_true, cond_false]
  refine ⟨(sums_eq S D (allW D) (num D 39) (allW_in h1 h2)).symm, ?_⟩
  unfold impl_allOf_gd
  rw [decide_eq_true r1.1, decide_eq_true r1.2]; rfl
theorem spec_l02Asked_ans (N : Nat) (a0 : Array Value) (a1 : Array Value) : ansV Try.prog (mkΓ [(22, con spec_l01Ok_con), (23, con spec_l02Ok_con)]) N Try.f12 [] [.w 0, .w 1] [.row a0 39, .row a1 32] = (bif (!((okS a0))) then (some (.a (.i .i64 (1 : Int)), .none, true))
    else (bif (!((specSp a0 a1))) then (some (.a (.i .i64 (1 : Int)), .none, true))
      else (some (.a (.i .i64 (0 : Int)), .none, true)))) := by kernel_rfl
noncomputable def spec_l02Asked_v0 (a0 : Array Value) (a1 : Array Value) : Int := (bif (!((okS a0))) then (1 : Int) else (bif (!((specSp a0 a1))) then (1 : Int) else (0 : Int)))
theorem spec_l02Asked_main (a0 : Array Value) (a1 : Array Value) (h_a0 : WT Try.prog 39 a0) (h_a1 : WT Try.prog 32 a1) (hg : (true) = true) : ansV Try.prog (mkΓ [(22, con spec_l01Ok_con), (23, con spec_l02Ok_con)]) 1000 Try.f12 [] [.w 0, .w 1] [.row a0 39, .row a1 32] = some (.a (.i .i64 (spec_l02Asked_v0 a0 a1)), .none, true) := by
  refine (spec_l02Asked_ans 1000 a0 a1).trans ?_
  unfold spec_l02Asked_v0
  revert hg
  generalize ((!((okS a0)))) = b2
  intro hg
  cases b2
  · skip
    revert hg
    generalize ((!((specSp a0 a1)))) = b4
    intro hg
    cases b4
    · skip
      first | (simp only [cond_true, cond_false, Bool.and_true, Bool.true_and, Bool.and_false, Bool.false_and]; done) | rfl | exact (nomatch (hg : false = true))
    · skip
      first | (simp only [cond_true, cond_false, Bool.and_true, Bool.true_and, Bool.and_false, Bool.false_and]; done) | rfl | exact (nomatch (hg : false = true))
  · skip
    first | (simp only [cond_true, cond_false, Bool.and_true, Bool.true_and, Bool.and_false, Bool.false_and]; done) | rfl | exact (nomatch (hg : false = true))
noncomputable def spec_l02Asked_con : Con := fun args h => match args, h with
  | [.w 0, .w 1], [.row a0 39, .row a1 32] => some (.a (.i .i64 (spec_l02Asked_v0 a0 a1)), .none, true)
  | _, _ => none
theorem spec_l02Asked_enter : EntX Try.prog 12 := entX_ok (fn := Try.f12) (by kernel_rfl) (by kernel_rfl) (by kernel_rfl)
theorem spec_l02Asked_ok : ConOkX mn Try.prog 12 spec_l02Asked_con := (ansX_ok (N := 1000) (by kernel_rfl) (mkΓ_consX (con_okX spec_l01Ok_ok) spec_l01Ok_enter (mkΓ_consX (con_okX spec_l02Ok_ok) spec_l02Ok_enter mkΓ_nilX)) (fn := Try.f12) (by kernel_rfl) (by kernel_rfl) []).of (by
  intro ρ h w args vals r e hA hH hr
  unfold spec_l02Asked_con at hr
  split at hr
  · rename_i a0 a1
    obtain ⟨rfl, hg⟩ := Prod.mk.inj (Option.some.inj hr)
    obtain ⟨rfl, hg2⟩ := Prod.mk.inj hg
    exact spec_l02Asked_main a0 a1 (hH.wt 0 rfl) (hH.wt 1 rfl) hg2
  · cases hr)
theorem impl_spreadCode_ans (N : Nat) (a0 : Array Value) (a1 : Array Value) : ansV Try.prog (mkΓ [(27, con impl_ValidSpread_con)]) N Try.f19 [] [.g a0 39, .g a1 32] [] = (bif (impl_ValidSpread_gd a0 a1) then (bif (!((impl_ValidSpread_v0 a0 a1))) then (some (.a (.i .i64 (1 : Int)), .none, true))
      else (some (.a (.i .i64 (0 : Int)), .none, true)))
    else (none)) := by kernel_rfl
noncomputable def impl_spreadCode_v0 (a0 : Array Value) (a1 : Array Value) : Int := (bif (!((impl_ValidSpread_v0 a0 a1))) then (1 : Int) else (0 : Int))
theorem impl_spreadCode_main (a0 : Array Value) (a1 : Array Value) (h_a0 : WT Try.prog 39 a0) (h_a1 : WT Try.prog 32 a1) (hg : ((impl_ValidSpread_gd a0 a1)) = true) : ansV Try.prog (mkΓ [(27, con impl_ValidSpread_con)]) 1000 Try.f19 [] [.g a0 39, .g a1 32] [] = some (.a (.i .i64 (impl_spreadCode_v0 a0 a1)), .none, true) := by
  refine (impl_spreadCode_ans 1000 a0 a1).trans ?_
  unfold impl_spreadCode_v0
  revert hg
  generalize ((impl_ValidSpread_gd a0 a1)) = b2
  intro hg
  cases b2
  · skip
    first | exact (nomatch (hg : false = true)) | (simp only [cond_true, cond_false, Bool.and_true, Bool.true_and, Bool.and_false, Bool.false_and]; done) | rfl
  · skip
    revert hg
    generalize ((!((impl_ValidSpread_v0 a0 a1)))) = b4
    intro hg
    cases b4
    · skip
      first | (simp only [cond_true, cond_false, Bool.and_true, Bool.true_and, Bool.and_false, Bool.false_and]; done) | rfl | exact (nomatch (hg : false = true))
    · skip
      first | (simp only [cond_true, cond_false, Bool.and_true, Bool.true_and, Bool.and_false, Bool.false_and]; done) | rfl | exact (nomatch (hg : false = true))
noncomputable def impl_spreadCode_con : Con := fun args h => match args, h with
  | [.g a0 39, .g a1 32], [] => some (.a (.i .i64 (impl_spreadCode_v0 a0 a1)), .none, (impl_ValidSpread_gd a0 a1))
  | _, _ => none
theorem impl_spreadCode_enter : EntX Try.prog 19 := entX_ok (fn := Try.f19) (by kernel_rfl) (by kernel_rfl) (by kernel_rfl)
theorem impl_spreadCode_ok : ConOkX mn Try.prog 19 impl_spreadCode_con := (ansX_ok (N := 1000) (by kernel_rfl) (mkΓ_consX (con_okX impl_ValidSpread_ok) impl_ValidSpread_enter mkΓ_nilX) (fn := Try.f19) (by kernel_rfl) (by kernel_rfl) []).of (by
  intro ρ h w args vals r e hA hH hr
  unfold impl_spreadCode_con at hr
  split at hr
  · rename_i a0 a1
    obtain ⟨rfl, hg⟩ := Prod.mk.inj (Option.some.inj hr)
    obtain ⟨rfl, hg2⟩ := Prod.mk.inj hg
    exact impl_spreadCode_main a0 a1 (hA.wt 0 rfl) (hA.wt 1 rfl) hg2
  · cases hr)
theorem asked_eq (S D : Array Value) : impl_spreadCode_v0 S D = spec_l02Asked_v0 S D := by
  unfold impl_spreadCode_v0 spec_l02Asked_v0
  rw [(valid_spread S D).1]
  unfold spec_ValidSpread_v0
  cases okS S <;> cases specSp S D <;> rfl
end
end Go.Proofs.Ytnbfkpecnhhecaa
