/- For every sea and all numbers spec and program count the same paths. -/
import Derived.Test.YtmkkckhfghomfaaRows
import Derived.Test.YtmkkckhfghomfaaChecked
import Derived.Test.YtmkkckhfghomfaaBase
import Derived.Test.YtmkkckhfghomfaaVeCp
namespace Go.Proofs.Ytmkkckhfghomfaa
open Go.ChangeShapes Go.WideShapes Go.ChangeAt Go.RowKit Ve
set_option linter.unusedVariables false
set_option linter.unusedSimpArgs false
set_option maxRecDepth 100000
noncomputable section
theorem laws_FnExactCountPaths_ans (N : Nat) (a0 : Array Value) (a1 : Int) (a2 : Int) (a3 : Int) (a4 : Int) : ansV Try.prog (mkΓ [(12, con laws_toSea_con), (16, con spec_CountPaths_con), (17, con impl_CountPaths_con)]) N Try.f4 [] [.g a0 28, .i .i64 (a1), .i .i64 (a2), .i .i64 (a3), .i .i64 (a4)] [] = (bif ((bif (spec_l04Asked_v0 a1 a4 a2 a3 a0 == 0) then num (rowR Try.prog cntL a0 (impl_onlyAt_v0 Try.prog a4) a2 a3 a3.toNat) (a1.toNat * 1) else 0) != (bif (spec_l04Asked_v0 a1 a4 a2 a3 a0 == 0) then num (rowR Try.prog cntL a0 (impl_onlyAt_v0 Try.prog a4) a2 a3 a3.toNat) (a1.toNat * 1) else 0)) then (some (.a (.b (false)), .none, true))
    else (bif ((spec_l04Asked_v0 a1 a4 a2 a3 a0) != (spec_l04Asked_v0 a1 a4 a2 a3 a0)) then (some (.a (.b (false)), .none, true))
      else (some (.a (.b (true)), .none, true)))) := by kernel_rfl

noncomputable def laws_FnExactCountPaths_v0 (P : Program) (a0 : Array Value) (a1 : Int) (a2 : Int) (a3 : Int) (a4 : Int) : Bool := (bif ((bif (spec_l04Asked_v0 a1 a4 a2 a3 a0 == 0) then num (rowR P cntL a0 (impl_onlyAt_v0 P a4) a2 a3 a3.toNat) (a1.toNat * 1) else 0) != (bif (spec_l04Asked_v0 a1 a4 a2 a3 a0 == 0) then num (rowR P cntL a0 (impl_onlyAt_v0 P a4) a2 a3 a3.toNat) (a1.toNat * 1) else 0)) then false else (bif ((spec_l04Asked_v0 a1 a4 a2 a3 a0) != (spec_l04Asked_v0 a1 a4 a2 a3 a0)) then false else true))

theorem laws_FnExactCountPaths_main (a0 : Array Value) (a1 : Int) (a2 : Int) (a3 : Int) (a4 : Int) (h_a0 : WT Try.prog 28 a0) (h_a1 : IntKind.i64.min ≤ a1 ∧ a1 ≤ IntKind.i64.max) (h_a2 : IntKind.i64.min ≤ a2 ∧ a2 ≤ IntKind.i64.max) (h_a3 : IntKind.i64.min ≤ a3 ∧ a3 ≤ IntKind.i64.max) (h_a4 : IntKind.i64.min ≤ a4 ∧ a4 ≤ IntKind.i64.max) (hg : (true) = true) : ansV Try.prog (mkΓ [(12, con laws_toSea_con), (16, con spec_CountPaths_con), (17, con impl_CountPaths_con)]) 1000 Try.f4 [] [.g a0 28, .i .i64 (a1), .i .i64 (a2), .i .i64 (a3), .i .i64 (a4)] [] = some (.a (.b ((laws_FnExactCountPaths_v0 Try.prog a0 a1 a2 a3 a4))), .none, true) := by
  refine (laws_FnExactCountPaths_ans 1000 a0 a1 a2 a3 a4).trans ?_
  unfold laws_FnExactCountPaths_v0
  revert hg
  generalize (((bif (spec_l04Asked_v0 a1 a4 a2 a3 a0 == 0) then num (rowR Try.prog cntL a0 (impl_onlyAt_v0 Try.prog a4) a2 a3 a3.toNat) (a1.toNat * 1) else 0) != (bif (spec_l04Asked_v0 a1 a4 a2 a3 a0 == 0) then num (rowR Try.prog cntL a0 (impl_onlyAt_v0 Try.prog a4) a2 a3 a3.toNat) (a1.toNat * 1) else 0))) = b2
  intro hg
  cases b2
  · skip
    revert hg
    generalize (((spec_l04Asked_v0 a1 a4 a2 a3 a0) != (spec_l04Asked_v0 a1 a4 a2 a3 a0))) = b4
    intro hg
    cases b4
    · skip
      first | (simp only [cond_true, cond_false, Bool.and_true, Bool.true_and, Bool.and_false, Bool.false_and]; done) | rfl | exact (nomatch (hg : false = true))
    · skip
      first | (simp only [cond_true, cond_false, Bool.and_true, Bool.true_and, Bool.and_false, Bool.false_and]; done) | rfl | exact (nomatch (hg : false = true))
  · skip
    first | (simp only [cond_true, cond_false, Bool.and_true, Bool.true_and, Bool.and_false, Bool.false_and]; done) | rfl | exact (nomatch (hg : false = true))
noncomputable def laws_FnExactCountPaths_con : Con := fun args h => match args, h with
  | [.g a0 28, .i .i64 a1, .i .i64 a2, .i .i64 a3, .i .i64 a4], [] => some (.a (.b ((laws_FnExactCountPaths_v0 Try.prog a0 a1 a2 a3 a4))), .none, true)
  | _, _ => none
theorem laws_FnExactCountPaths_enter : ∀ args w, (callFunc 4 args).run Try.prog w = .ok (.enter 4 args) w := enter_ok (fn := Try.f4) (by kernel_rfl) (by kernel_rfl) (by kernel_rfl)
theorem laws_FnExactCountPaths_ok : ConOk Try.prog 4 laws_FnExactCountPaths_con := (ans_ok (N := 1000) (by kernel_rfl) (mkΓ_cons (con_ok laws_toSea_ok) laws_toSea_enter (mkΓ_cons (con_ok spec_CountPaths_ok) spec_CountPaths_enter (mkΓ_cons (con_ok impl_CountPaths_ok) impl_CountPaths_enter mkΓ_nil))) (fn := Try.f4) (by kernel_rfl) (by kernel_rfl) []).of (by
  intro ρ h w args vals r e hA hH hr
  unfold laws_FnExactCountPaths_con at hr
  split at hr
  · rename_i a0 a1 a2 a3 a4
    obtain ⟨rfl, hg⟩ := Prod.mk.inj (Option.some.inj hr)
    obtain ⟨rfl, hg2⟩ := Prod.mk.inj hg
    exact laws_FnExactCountPaths_main a0 a1 a2 a3 a4 (hA.wt 0 rfl) (hA.rng 1 rfl) (hA.rng 2 rfl) (hA.rng 3 rfl) (hA.rng 4 rfl) hg2
  · cases hr)

theorem laws_FnExactCountPaths_true (a0 : Array Value) (a1 : Int) (a2 : Int) (a3 : Int) (a4 : Int) (h_a0 : WT Try.prog 28 a0) (h_a1 : IntKind.i64.min ≤ a1 ∧ a1 ≤ IntKind.i64.max) (h_a2 : IntKind.i64.min ≤ a2 ∧ a2 ≤ IntKind.i64.max) (h_a3 : IntKind.i64.min ≤ a3 ∧ a3 ≤ IntKind.i64.max) (h_a4 : IntKind.i64.min ≤ a4 ∧ a4 ≤ IntKind.i64.max) : (true) = true ∧ ((laws_FnExactCountPaths_v0 Try.prog a0 a1 a2 a3 a4)) = true := by
  unfold laws_FnExactCountPaths_v0
  simp only [bne_self_eq_false, cond_false]
  exact ⟨trivial, trivial⟩

namespace lawFnExactCountPaths
theorem lifted (os : Os) (started : os.Started) (H : Type) (enc : TypeId × Value → H) :
    ReturnsInHanded {} Try.checked os 4 .any (Rows.fnExactCountPathsSpec.pre6 enc Try.prog Try.f4 Rows.fnExactCountPathsRow.domain false) (Rows.fnExactCountPathsSpec.post enc Try.prog Try.f4 false true false false) := by
  refine law_lifted (C := Try.checked) (tb := 4) (by kernel_rfl) (by kernel_rfl) (by kernel_rfl) Try.func4 (by kernel_rfl) Try.underlying4 (of_decide_eq_true (by kernel_rfl)) rfl ?_ os started H enc
    (ChangeSpec.witness6 (enc := enc) (C := Try.checked) false ⟨#[], #[.agg (zc Try.prog 28), .int .i64 0, .int .i64 0, .int .i64 0, .int .i64 0], []⟩ 8 (by kernel_rfl) (by kernel_rfl) (by kernel_rfl) (by kernel_rfl)) ?_
  · intro H ds hds
    rw [show Try.f4.params.toList.length = 5 by kernel_rfl] at hds
    match ds, hds with
    | [_, _, _, _, _], _ => rfl
  · intro W base args ds ps hval hA
    rw [Try.params4] at hA hval
    obtain ⟨v0, vs0, d0, ds0, p0, q0, ha0, rfl, rfl, h0, r0⟩ := trodAll_cons hA
    obtain ⟨v1, vs1, d1, ds1, p1, q1, rfl, rfl, rfl, h1, r1⟩ := trodAll_cons r0
    obtain ⟨v2, vs2, d2, ds2, p2, q2, rfl, rfl, rfl, h2, r2⟩ := trodAll_cons r1
    obtain ⟨v3, vs3, d3, ds3, p3, q3, rfl, rfl, rfl, h3, r3⟩ := trodAll_cons r2
    obtain ⟨v4, vs4, d4, ds4, p4, q4, rfl, rfl, rfl, h4, r4⟩ := trodAll_cons r3
    obtain ⟨rfl, rfl, rfl⟩ := trodAll_nil r4
    have hargs : args = #[v0, v1, v2, v3, v4] := by cases args; simp_all
    obtain ⟨a0, e0, w0⟩ := open_data (t := 28) 8 (by kernel_rfl) (by kernel_rfl) (hval 0 28 v0 rfl (by rw [hargs]; rfl)) h0
    obtain ⟨a1, e1, _, _, w1⟩ := open_int Try.underlying2 (hval 1 2 v1 rfl (by rw [hargs]; rfl)) h1
    obtain ⟨a2, e2, _, _, w2⟩ := open_int Try.underlying2 (hval 2 2 v2 rfl (by rw [hargs]; rfl)) h2
    obtain ⟨a3, e3, _, _, w3⟩ := open_int Try.underlying2 (hval 3 2 v3 rfl (by rw [hargs]; rfl)) h3
    obtain ⟨a4, e4, _, _, w4⟩ := open_int Try.underlying2 (hval 4 2 v4 rfl (by rw [hargs]; rfl)) h4
    obtain rfl : args = #[.agg a0, .int .i64 a1, .int .i64 a2, .int .i64 a3, .int .i64 a4] := by rw [hargs, e0, e1, e2, e3, e4]
    obtain ⟨hg, hv⟩ := laws_FnExactCountPaths_true a0 a1 a2 a3 a4 w0 (wfb w1) (wfb w2) (wfb w3) (wfb w4)
    have hr : laws_FnExactCountPaths_con [.g a0 28, .i .i64 a1, .i .i64 a2, .i .i64 a3, .i .i64 a4] [] = some (.a (.b true), .none, true) := by
      show (some (SV.a (SA.b ((laws_FnExactCountPaths_v0 Try.prog a0 a1 a2 a3 a4))), Eff.none, true) : Option (SV × Eff × Bool)) = _
      rw [hg, hv]
    exact calls_con laws_FnExactCountPaths_ok hr W (vals := [.agg a0, .int .i64 a1, .int .i64 a2, .int .i64 a3, .int .i64 a4]) (allCons ⟨rfl, w0⟩ (allCons ⟨rfl, wfb w1⟩ (allCons ⟨rfl, wfb w2⟩ (allCons ⟨rfl, wfb w3⟩ (allCons ⟨rfl, wfb w4⟩ allNil)))))

theorem over : Rows.fnExactCountPathsRow.holds Try.pinned (OpenSpec.ofChange Rows.fnExactCountPathsSpec) :=
  OpenClaim.holds_of_wide 4 Try.f4 rfl rfl rfl rfl rfl rfl rfl ⟨rfl, rfl, rfl, rfl, rfl⟩ rfl rfl rfl rfl rfl (by kernel_rfl) Try.func4 (by kernel_rfl)
    (of_decide_eq_true (by kernel_rfl)) (by unfold Func.isWrapper; first | (rw [if_pos (by decide +kernel)]; kernel_rfl) | (rw [if_neg (by decide +kernel)]; exact ⟨rfl, rfl⟩))
    (fun os started H enc _ => lifted os started H enc)

theorem proved : Rows.FnExactCountPathsSaid := over
#print axioms proved
end lawFnExactCountPaths

end
end Go.Proofs.Ytmkkckhfghomfaa
