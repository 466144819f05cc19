/- The law of hours on, in company. -/
import Derived.Test.YtnbfkpecnhhecaaRows
import Derived.Test.YtnbfkpecnhhecaaChecked
import Derived.Test.YtnbfkpecnhhecaaCxL
import Derived.Test.YtnbfkpecnhhecaaVcG
namespace Go.Proofs.Ytnbfkpecnhhecaa
open Go.ChangeShapes Go.WideShapes Go.ChangeAt Go.RowKit Ve Vc
set_option linter.unusedVariables false
set_option linter.unusedSimpArgs false
set_option maxRecDepth 100000
noncomputable section
variable {F : Vc.Fd}
theorem law_sea : lay Try.prog 28 = lay Try.prog 39 := by kernel_rfl
theorem law_spread : lay Try.prog 31 = lay Try.prog 32 := by kernel_rfl
theorem law_wt {T T' : TypeId} {C : Array Value} (e : lay Try.prog T = lay Try.prog T') (h : WT Try.prog T C) : WT Try.prog T' C := ⟨h.1.trans e, h.2⟩
theorem hour_one {S D : Array Value} (hS : WT Try.prog 39 S) (hD : WT Try.prog 32 D) : spec_DriftHours_v0 Try.prog S D 1 = spec_DriftHour_v0 Try.prog S D ∧ spec_DriftHours_v1 S D 1 = spec_DriftHour_v1 S D ∧ spec_DriftHour_gd S D = true := by
  unfold spec_DriftHours_v0 spec_DriftHour_v0 spec_DriftHours_v1 spec_DriftHour_v1 spec_DriftHour_gd
  cases ha : (spec_l02Asked_v0 S D != (0 : Int)) with
  | true => exact ⟨rfl, rfl, rfl⟩
  | false =>
    have hi : spec_l00In_v0 1 0 14 = true := rfl
    obtain ⟨hok, h0, h1, _⟩ := hours_in hS hD ha hi
    have e : decide (IntKind.i64.wrap (IntKind.i64.wrap (num D 1) + 1) > (14 : Int)) = (num D 1 == (14 : Int)) := by
      rw [w64 (n := num D 1) (by omega), w64 (by omega)]
      by_cases h : num D 1 = 14
      · rw [h]; rfl
      · rw [decide_eq_false (by omega), beq_eq_false_iff_ne.2 h]
    have ed : driftV Try.prog S D (1 : Int).toNat = hourV Try.prog S D := by show driftV Try.prog S D 1 = _; rw [driftV, driftV]
    have ht : tdS D = (num D 0 + num D 1) % 2 := by
      unfold tdS
      rw [IntWalk.i8_in _ (by omega), Int.tmod_eq_emod_of_nonneg (by omega)]
    rw [e, hi, ed, ht, hok]
    simp only [cond_false, Bool.not_true, true_and, Bool.true_and]
    cases (num D 1 == (14 : Int)) with
    | true => rfl
    | false => exact dec2 (by omega) (by omega)
theorem laws_FnExactDriftHour_ans (N : Nat) (a0 : Array Value) (a1 : Array Value) : ansV Try.prog (mkΓ [(5, con spec_DriftHour_con), (6, con laws_toSea_con), (7, con laws_toSpread_con), (8, con impl_DriftHour_con), (9, con laws_eqSpread_con)]) N Try.f3 [] [.g a0 28, .g a1 31] [] = (bif (spec_DriftHour_gd a0 a1) then (bif (!(sameB (spec_DriftHours_v0 Try.prog a0 a1 (1 : Int)) (spec_DriftHour_v0 Try.prog a0 a1))) then (some (.a (.b (false)), .none, true))
      else (bif ((spec_DriftHours_v1 a0 a1 (1 : Int)) != (spec_DriftHour_v1 a0 a1)) then (some (.a (.b (false)), .none, true))
        else (some (.a (.b (true)), .none, true))))
    else (none)) := by kernel_rfl
noncomputable def laws_FnExactDriftHour_v0 (P : Program) (a0 : Array Value) (a1 : Array Value) : Bool := (bif (!(sameB (spec_DriftHours_v0 P a0 a1 (1 : Int)) (spec_DriftHour_v0 P a0 a1))) then false else (bif ((spec_DriftHours_v1 a0 a1 (1 : Int)) != (spec_DriftHour_v1 a0 a1)) then false else true))
theorem laws_FnExactDriftHour_main (a0 : Array Value) (a1 : Array Value) (h_a0 : WT Try.prog 28 a0) (h_a1 : WT Try.prog 31 a1) (hg : ((spec_DriftHour_gd a0 a1)) = true) : ansV Try.prog (mkΓ [(5, con spec_DriftHour_con), (6, con laws_toSea_con), (7, con laws_toSpread_con), (8, con impl_DriftHour_con), (9, con laws_eqSpread_con)]) 1000 Try.f3 [] [.g a0 28, .g a1 31] [] = some (.a (.b ((laws_FnExactDriftHour_v0 Try.prog a0 a1))), .none, true) := by
  refine (laws_FnExactDriftHour_ans 1000 a0 a1).trans ?_
  unfold laws_FnExactDriftHour_v0
  revert hg
  generalize ((spec_DriftHour_gd a0 a1)) = b2
  intro hg
  cases b2
  · skip
    first | exact (nomatch (hg : false = true)) | (simp only [cond_true, cond_false, Bool.and_true, Bool.true_and, Bool.and_false, Bool.false_and]; done) | rfl
  · skip
    revert hg
    generalize ((!(sameB (spec_DriftHours_v0 Try.prog a0 a1 (1 : Int)) (spec_DriftHour_v0 Try.prog a0 a1)))) = b4
    intro hg
    cases b4
    · skip
      revert hg
      generalize (((spec_DriftHours_v1 a0 a1 (1 : Int)) != (spec_DriftHour_v1 a0 a1))) = b6
      intro hg
      cases b6
      · skip
        first | (simp only [cond_true, cond_false, Bool.and_true, Bool.true_and, Bool.and_false, Bool.false_and]; done) | rfl | exact (nomatch (hg : false = true))
      · skip
        first | (simp only [cond_true, cond_false, Bool.and_true, Bool.true_and, Bool.and_false, Bool.false_and]; done) | rfl | exact (nomatch (hg : false = true))
    · skip
      first | (simp only [cond_true, cond_false, Bool.and_true, Bool.true_and, Bool.and_false, Bool.false_and]; done) | rfl | exact (nomatch (hg : false = true))
noncomputable def laws_FnExactDriftHour_con : Con := fun args h => match args, h with
  | [.g a0 28, .g a1 31], [] => some (.a (.b ((laws_FnExactDriftHour_v0 Try.prog a0 a1))), .none, (spec_DriftHour_gd a0 a1))
  | _, _ => none
theorem laws_FnExactDriftHour_ok : ConOkX (md F) Try.prog 3 laws_FnExactDriftHour_con := (ansX_ok (N := 1000) (by kernel_rfl) (mkΓ_consX (con_okX spec_DriftHour_ok) spec_DriftHour_enter (mkΓ_consX (con_okX laws_toSea_ok) laws_toSea_enter (mkΓ_consX (con_okX laws_toSpread_ok) laws_toSpread_enter (mkΓ_consX (con_okX impl_DriftHour_ok) impl_DriftHour_enter (mkΓ_consX (con_okX laws_eqSpread_ok) laws_eqSpread_enter mkΓ_nilX))))) (fn := Try.f3) (by kernel_rfl) (by kernel_rfl) []).of (by
  intro ρ h w args vals r e hA hH hr
  unfold laws_FnExactDriftHour_con at hr
  split at hr
  · rename_i a0 a1
    obtain ⟨rfl, hg⟩ := Prod.mk.inj (Option.some.inj hr)
    obtain ⟨rfl, hg2⟩ := Prod.mk.inj hg
    exact laws_FnExactDriftHour_main a0 a1 (hA.wt 0 rfl) (hA.wt 1 rfl) hg2
  · cases hr)
theorem laws_FnExactDriftHour_true (a0 : Array Value) (a1 : Array Value) (h_a0 : WT Try.prog 28 a0) (h_a1 : WT Try.prog 31 a1) : ((spec_DriftHour_gd a0 a1)) = true ∧ ((laws_FnExactDriftHour_v0 Try.prog a0 a1)) = true := by
  have wS := law_wt law_sea h_a0
  have wX := law_wt law_spread h_a1
  obtain ⟨e1, e2, e3⟩ := hour_one wS wX
  refine ⟨e3, ?_⟩
  unfold laws_FnExactDriftHour_v0
  rw [e1, e2]
  generalize spec_DriftHour_v0 _ a0 a1 = u
  generalize spec_DriftHour_v1 a0 a1 = v
  rw [sameB_iff.2 (rfl : u = u)]
  simp
namespace lawFnExactDriftHour
theorem lifted (os : Os) (started : os.Started) (H : Type) (enc : TypeId × Value → H) :
    ReturnsInLeavingWide {} Try.checked os 3 .any (Rows.fnExactDriftHourSpec.pre6 enc Try.prog Try.f3 Rows.fnExactDriftHourRow.domain false) (Rows.fnExactDriftHourSpec.post enc Try.prog Try.f3 false true false false) := by
  refine law_leaving (C := Try.checked) (tb := 4) (by kernel_rfl) (by kernel_rfl) Try.func3 (by kernel_rfl) Try.underlying4 (of_decide_eq_true (by kernel_rfl)) rfl ?_ os started H enc
    (ChangeSpec.witness6 (enc := enc) (C := Try.checked) false ⟨#[], #[.agg (zc Try.prog 28), .agg (zc Try.prog 31)], []⟩ 8 (by kernel_rfl) (by kernel_rfl) (by kernel_rfl) (by kernel_rfl)) ?_
  · intro H ds hds
    rw [show Try.f3.params.toList.length = 2 by kernel_rfl] at hds
    match ds, hds with
    | [_, _], _ => rfl
  · intro W base args ds ps hval hA
    rw [Try.params3] at hA hval
    obtain ⟨v0, v1, d0, d1, p0, p1, hargs, rfl, rfl, h0, h1⟩ := trodAll_two hA
    obtain ⟨a0, e0, w0⟩ := open_data (t := 28) 8 (by kernel_rfl) (by kernel_rfl) (hval 0 28 v0 rfl (by rw [hargs]; rfl)) h0
    obtain ⟨a1, e1, w1⟩ := open_data (t := 31) 8 (by kernel_rfl) (by kernel_rfl) (hval 1 31 v1 rfl (by rw [hargs]; rfl)) h1
    obtain rfl : args = #[.agg a0, .agg a1] := by rw [hargs, e0, e1]
    obtain ⟨hg, hv⟩ := laws_FnExactDriftHour_true a0 a1 w0 w1
    have hr : laws_FnExactDriftHour_con [.g a0 28, .g a1 31] [] = some (.a (.b true), .none, true) := by
      show (some (SV.a (SA.b ((laws_FnExactDriftHour_v0 Try.prog a0 a1))), Eff.none, (spec_DriftHour_gd a0 a1)) : Option (SV × Eff × Bool)) = _
      rw [hg, hv]
    exact ends_con (by kernel_rfl) laws_FnExactDriftHour_ok hr W (vals := [.agg a0, .agg a1]) (allCons ⟨rfl, w0⟩ (allCons ⟨rfl, w1⟩ allNil))
theorem over : Rows.fnExactDriftHourRow.holds Try.pinned (OpenSpec.ofChange Rows.fnExactDriftHourSpec) :=
  OpenClaim.holds_of_wide_leaving 3 Try.f3 rfl rfl rfl rfl rfl rfl rfl ⟨rfl, rfl, rfl, rfl, rfl⟩ rfl rfl rfl rfl rfl (by kernel_rfl) Try.func3 (by kernel_rfl)
    (of_decide_eq_true (by kernel_rfl)) (by unfold Func.isWrapper; first | (rw [if_pos (by decide +kernel)]; kernel_rfl) | (rw [if_neg (by decide +kernel)]; exact ⟨rfl, rfl⟩))
    (fun os started H enc _ => lifted os started H enc)
theorem proved : Rows.FnExactDriftHourSaid := over
#print axioms proved
end lawFnExactDriftHour
end
end Go.Proofs.Ytnbfkpecnhhecaa
