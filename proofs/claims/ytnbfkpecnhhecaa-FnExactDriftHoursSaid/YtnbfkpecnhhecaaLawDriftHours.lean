/- The law of hours on, in company. -/
import Derived.Test.YtnbfkpecnhhecaaRows
import Derived.Test.YtnbfkpecnhhecaaChecked
import Derived.Test.YtnbfkpecnhhecaaCxL
import Derived.Test.YtnbfkpecnhhecaaVcG
namespace Go.Proofs.Ytnbfkpecnhhecaa
open Go.ChangeShapes Go.WideShapes Go.ChangeAt Go.RowKit Ve Vc
set_option linter.unusedVariables false
set_option linter.unusedSimpArgs false
set_option maxRecDepth 100000
noncomputable section
variable {F : Vc.Fd}
theorem law_sea : lay Try.prog 28 = lay Try.prog 39 := by kernel_rfl
theorem law_spread : lay Try.prog 31 = lay Try.prog 32 := by kernel_rfl
theorem law_wt {T T' : TypeId} {C : Array Value} (e : lay Try.prog T = lay Try.prog T') (h : WT Try.prog T C) : WT Try.prog T' C := ⟨h.1.trans e, h.2⟩
theorem laws_FnExactDriftHours_ans (N : Nat) (a0 : Array Value) (a1 : Array Value) (a2 : Int) : ansV Try.prog (mkΓ [(6, con laws_toSea_con), (7, con laws_toSpread_con), (9, con laws_eqSpread_con), (10, con spec_DriftHours_con), (11, con impl_DriftHours_con)]) N Try.f4 [] [.g a0 28, .g a1 31, .i .i64 (a2)] [] = (bif (spec_DriftHours_gd a0 a1 a2) then (bif (!(sameB (spec_DriftHours_v0 Try.prog a0 a1 a2) (spec_DriftHours_v0 Try.prog a0 a1 a2))) then (some (.a (.b (false)), .none, true))
      else (bif ((spec_DriftHours_v1 a0 a1 a2) != (spec_DriftHours_v1 a0 a1 a2)) then (some (.a (.b (false)), .none, true))
        else (some (.a (.b (true)), .none, true))))
    else (none)) := by kernel_rfl
noncomputable def laws_FnExactDriftHours_v0 (P : Program) (a0 : Array Value) (a1 : Array Value) (a2 : Int) : Bool := (bif (!(sameB (spec_DriftHours_v0 P a0 a1 a2) (spec_DriftHours_v0 P a0 a1 a2))) then false else (bif ((spec_DriftHours_v1 a0 a1 a2) != (spec_DriftHours_v1 a0 a1 a2)) then false else true))
theorem laws_FnExactDriftHours_main (a0 : Array Value) (a1 : Array Value) (a2 : Int) (h_a0 : WT Try.prog 28 a0) (h_a1 : WT Try.prog 31 a1) (h_a2 : IntKind.i64.min ≤ a2 ∧ a2 ≤ IntKind.i64.max) (hg : ((spec_DriftHours_gd a0 a1 a2)) = true) : ansV Try.prog (mkΓ [(6, con laws_toSea_con), (7, con laws_toSpread_con), (9, con laws_eqSpread_con), (10, con spec_DriftHours_con), (11, con impl_DriftHours_con)]) 1000 Try.f4 [] [.g a0 28, .g a1 31, .i .i64 (a2)] [] = some (.a (.b ((laws_FnExactDriftHours_v0 Try.prog a0 a1 a2))), .none, true) := by
  refine (laws_FnExactDriftHours_ans 1000 a0 a1 a2).trans ?_
  unfold laws_FnExactDriftHours_v0
  revert hg
  generalize ((spec_DriftHours_gd a0 a1 a2)) = b2
  intro hg
  cases b2
  · skip
    first | exact (nomatch (hg : false = true)) | (simp only [cond_true, cond_false, Bool.and_true, Bool.true_and, Bool.and_false, Bool.false_and]; done) | rfl
  · skip
    revert hg
    generalize ((!(sameB (spec_DriftHours_v0 Try.prog a0 a1 a2) (spec_DriftHours_v0 Try.prog a0 a1 a2)))) = b4
    intro hg
    cases b4
    · skip
      revert hg
      generalize (((spec_DriftHours_v1 a0 a1 a2) != (spec_DriftHours_v1 a0 a1 a2))) = b6
      intro hg
      cases b6
      · skip
        first | (simp only [cond_true, cond_false, Bool.and_true, Bool.true_and, Bool.and_false, Bool.false_and]; done) | rfl | exact (nomatch (hg : false = true))
      · skip
        first | (simp only [cond_true, cond_false, Bool.and_true, Bool.true_and, Bool.and_false, Bool.false_and]; done) | rfl | exact (nomatch (hg : false = true))
    · skip
      first | (simp only [cond_true, cond_false, Bool.and_true, Bool.true_and, Bool.and_false, Bool.false_and]; done) | rfl | exact (nomatch (hg : false = true))
noncomputable def laws_FnExactDriftHours_con : Con := fun args h => match args, h with
  | [.g a0 28, .g a1 31, .i .i64 a2], [] => some (.a (.b ((laws_FnExactDriftHours_v0 Try.prog a0 a1 a2))), .none, (spec_DriftHours_gd a0 a1 a2))
  | _, _ => none
theorem laws_FnExactDriftHours_ok : ConOkX (md F) Try.prog 4 laws_FnExactDriftHours_con := (ansX_ok (N := 1000) (by kernel_rfl) (mkΓ_consX (con_okX laws_toSea_ok) laws_toSea_enter (mkΓ_consX (con_okX laws_toSpread_ok) laws_toSpread_enter (mkΓ_consX (con_okX laws_eqSpread_ok) laws_eqSpread_enter (mkΓ_consX (con_okX spec_DriftHours_ok) spec_DriftHours_enter (mkΓ_consX (con_okX impl_DriftHours_ok) impl_DriftHours_enter mkΓ_nilX))))) (fn := Try.f4) (by kernel_rfl) (by kernel_rfl) []).of (by
  intro ρ h w args vals r e hA hH hr
  unfold laws_FnExactDriftHours_con at hr
  split at hr
  · rename_i a0 a1 a2
    obtain ⟨rfl, hg⟩ := Prod.mk.inj (Option.some.inj hr)
    obtain ⟨rfl, hg2⟩ := Prod.mk.inj hg
    exact laws_FnExactDriftHours_main a0 a1 a2 (hA.wt 0 rfl) (hA.wt 1 rfl) (hA.rng 2 rfl) hg2
  · cases hr)
theorem laws_FnExactDriftHours_true (a0 : Array Value) (a1 : Array Value) (a2 : Int) (h_a0 : WT Try.prog 28 a0) (h_a1 : WT Try.prog 31 a1) (h_a2 : IntKind.i64.min ≤ a2 ∧ a2 ≤ IntKind.i64.max) : ((spec_DriftHours_gd a0 a1 a2)) = true ∧ ((laws_FnExactDriftHours_v0 Try.prog a0 a1 a2)) = true := by
  have wS := law_wt law_sea h_a0
  have wX := law_wt law_spread h_a1
  refine ⟨spec_DriftHours_free wS wX a2, ?_⟩
  unfold laws_FnExactDriftHours_v0
  generalize spec_DriftHours_v0 _ a0 a1 a2 = u
  generalize spec_DriftHours_v1 a0 a1 a2 = v
  rw [sameB_iff.2 (rfl : u = u)]
  simp
namespace lawFnExactDriftHours
theorem lifted (os : Os) (started : os.Started) (H : Type) (enc : TypeId × Value → H) :
    ReturnsInLeavingWide {} Try.checked os 4 .any (Rows.fnExactDriftHoursSpec.pre6 enc Try.prog Try.f4 Rows.fnExactDriftHoursRow.domain false) (Rows.fnExactDriftHoursSpec.post enc Try.prog Try.f4 false true false false) := by
  refine law_leaving (C := Try.checked) (tb := 4) (by kernel_rfl) (by kernel_rfl) Try.func4 (by kernel_rfl) Try.underlying4 (of_decide_eq_true (by kernel_rfl)) rfl ?_ os started H enc
    (ChangeSpec.witness6 (enc := enc) (C := Try.checked) false ⟨#[], #[.agg (zc Try.prog 28), .agg (zc Try.prog 31), .int .i64 0], []⟩ 8 (by kernel_rfl) (by kernel_rfl) (by kernel_rfl) (by kernel_rfl)) ?_
  · intro H ds hds
    rw [show Try.f4.params.toList.length = 3 by kernel_rfl] at hds
    match ds, hds with
    | [_, _, _], _ => rfl
  · intro W base args ds ps hval hA
    rw [Try.params4] at hA hval
    obtain ⟨v0, v1, v2, d0, d1, d2, p0, p1, p2, hargs, rfl, rfl, h0, h1, h2⟩ := trodAll_three hA
    obtain ⟨a0, e0, w0⟩ := open_data (t := 28) 8 (by kernel_rfl) (by kernel_rfl) (hval 0 28 v0 rfl (by rw [hargs]; rfl)) h0
    obtain ⟨a1, e1, w1⟩ := open_data (t := 31) 8 (by kernel_rfl) (by kernel_rfl) (hval 1 31 v1 rfl (by rw [hargs]; rfl)) h1
    obtain ⟨a2, e2, _, _, w2⟩ := open_int Try.underlying2 (hval 2 2 v2 rfl (by rw [hargs]; rfl)) h2
    obtain rfl : args = #[.agg a0, .agg a1, .int .i64 a2] := by rw [hargs, e0, e1, e2]
    obtain ⟨hg, hv⟩ := laws_FnExactDriftHours_true a0 a1 a2 w0 w1 (wfb w2)
    have hr : laws_FnExactDriftHours_con [.g a0 28, .g a1 31, .i .i64 a2] [] = some (.a (.b true), .none, true) := by
      show (some (SV.a (SA.b ((laws_FnExactDriftHours_v0 Try.prog a0 a1 a2))), Eff.none, (spec_DriftHours_gd a0 a1 a2)) : Option (SV × Eff × Bool)) = _
      rw [hg, hv]
    exact ends_con (by kernel_rfl) laws_FnExactDriftHours_ok hr W (vals := [.agg a0, .agg a1, .int .i64 a2]) (allCons ⟨rfl, w0⟩ (allCons ⟨rfl, w1⟩ (allCons ⟨rfl, wfb w2⟩ allNil)))
theorem over : Rows.fnExactDriftHoursRow.holds Try.pinned (OpenSpec.ofChange Rows.fnExactDriftHoursSpec) :=
  OpenClaim.holds_of_wide_leaving 4 Try.f4 rfl rfl rfl rfl rfl rfl rfl ⟨rfl, rfl, rfl, rfl, rfl⟩ rfl rfl rfl rfl rfl (by kernel_rfl) Try.func4 (by kernel_rfl)
    (of_decide_eq_true (by kernel_rfl)) (by unfold Func.isWrapper; first | (rw [if_pos (by decide +kernel)]; kernel_rfl) | (rw [if_neg (by decide +kernel)]; exact ⟨rfl, rfl⟩))
    (fun os started H enc _ => lifted os started H enc)
theorem proved : Rows.FnExactDriftHoursSaid := over
#print axioms proved
end lawFnExactDriftHours
end
end Go.Proofs.Ytnbfkpecnhhecaa
