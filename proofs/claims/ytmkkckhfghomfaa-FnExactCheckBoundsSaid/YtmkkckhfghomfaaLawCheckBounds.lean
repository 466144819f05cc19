/- For every sea and all bounds spec and program answer alike whether these are a proof. -/
import Derived.Test.YtmkkckhfghomfaaRows
import Derived.Test.YtmkkckhfghomfaaChecked
import Derived.Test.YtmkkckhfghomfaaBase
import Derived.Test.YtmkkckhfghomfaaVeBnD
namespace Go.Proofs.Ytmkkckhfghomfaa
open Go.ChangeShapes Go.WideShapes Go.ChangeAt Go.RowKit Ve
set_option linter.unusedVariables false
set_option linter.unusedSimpArgs false
set_option maxRecDepth 100000
noncomputable section
theorem laws_FnExactCheckBounds_ans (N : Nat) (a0 : Array Value) (a1 : Int) (a2 : Int) (b_a3 : Option (Option Addr)) (n_a3 : Nat) (a3 : Array Value) : ansV Try.prog (mkΓ [(12, con laws_toSea_con), (20, con laws_eqBounds_con), (23, con laws_szBounds_con), (24, con spec_CheckBounds_con), (25, con laws_toBounds_con), (26, con impl_CheckBounds_con)]) N Try.f6 [] [.g a0 28, .i .i64 (a1), .i .i64 (a2), .l 0] [.sl (.came b_a3) n_a3 a3 61] = (bif decide ((laws_szBounds_v0 (1048576 : Int) b_a3 n_a3 a3) < (0 : Int)) then (some (.a (.b (true)), .none, true))
    else (bif decide (n_a3 ≤ 1048576) then (bif decide (n_a3 ≤ 1048576) then (bif (((bif (spec_l04Asked_v0 a1 a1 a2 0 a0 == 0) then prB Try.prog a0 a1 a2 n_a3 a3 else false)) != ((bif (spec_l04Asked_v0 a1 a1 a2 0 a0 == 0) then prB Try.prog a0 a1 a2 n_a3 a3 else false))) then (some (.a (.b (false)), .none, true))
          else (bif ((spec_l04Asked_v0 a1 a1 a2 0 a0) != (spec_l04Asked_v0 a1 a1 a2 0 a0)) then (some (.a (.b (false)), .none, true))
            else (bif decide (n_a3 ≤ 1048576) then (bif (!((decide (n_a3 = n_a3) && sameB a3 a3))) then (some (.a (.b (false)), .none, true))
                else (some (.a (.b (true)), .none, true)))
              else (none))))
        else (none))
      else (none))) := by kernel_rfl

noncomputable def laws_FnExactCheckBounds_v0 (P : Program) (a0 : Array Value) (a1 : Int) (a2 : Int) (b_a3 : Option (Option Addr)) (n_a3 : Nat) (a3 : Array Value) : Bool := (bif decide ((laws_szBounds_v0 (1048576 : Int) b_a3 n_a3 a3) < (0 : Int)) then true else (bif (((bif (spec_l04Asked_v0 a1 a1 a2 0 a0 == 0) then prB P a0 a1 a2 n_a3 a3 else false)) != ((bif (spec_l04Asked_v0 a1 a1 a2 0 a0 == 0) then prB P a0 a1 a2 n_a3 a3 else false))) then false else (bif ((spec_l04Asked_v0 a1 a1 a2 0 a0) != (spec_l04Asked_v0 a1 a1 a2 0 a0)) then false else (bif (!((decide (n_a3 = n_a3) && sameB a3 a3))) then false else true))))
noncomputable def laws_FnExactCheckBounds_gd (a0 : Array Value) (a1 : Int) (a2 : Int) (b_a3 : Option (Option Addr)) (n_a3 : Nat) (a3 : Array Value) : Bool := (bif decide ((laws_szBounds_v0 (1048576 : Int) b_a3 n_a3 a3) < (0 : Int)) then true else (bif decide (n_a3 ≤ 1048576) then (bif decide (n_a3 ≤ 1048576) then (bif (((bif (spec_l04Asked_v0 a1 a1 a2 0 a0 == 0) then prB Try.prog a0 a1 a2 n_a3 a3 else false)) != ((bif (spec_l04Asked_v0 a1 a1 a2 0 a0 == 0) then prB Try.prog a0 a1 a2 n_a3 a3 else false))) then true else (bif ((spec_l04Asked_v0 a1 a1 a2 0 a0) != (spec_l04Asked_v0 a1 a1 a2 0 a0)) then true else decide (n_a3 ≤ 1048576))) else false) else false))

theorem laws_FnExactCheckBounds_main (a0 : Array Value) (a1 : Int) (a2 : Int) (b_a3 : Option (Option Addr)) (n_a3 : Nat) (a3 : Array Value) (h_a0 : WT Try.prog 28 a0) (h_a1 : IntKind.i64.min ≤ a1 ∧ a1 ≤ IntKind.i64.max) (h_a2 : IntKind.i64.min ≤ a2 ∧ a2 ≤ IntKind.i64.max) (h_a3 : a3.size = n_a3 * (lay Try.prog 61).length ∧ (∀ k, k < n_a3 → WT Try.prog 61 (a3.extract (k * (lay Try.prog 61).length) (k * (lay Try.prog 61).length + (lay Try.prog 61).length))) ∧ n_a3 ≤ 9223372036854775807) (hg : ((laws_FnExactCheckBounds_gd a0 a1 a2 b_a3 n_a3 a3)) = true) : ansV Try.prog (mkΓ [(12, con laws_toSea_con), (20, con laws_eqBounds_con), (23, con laws_szBounds_con), (24, con spec_CheckBounds_con), (25, con laws_toBounds_con), (26, con impl_CheckBounds_con)]) 1000 Try.f6 [] [.g a0 28, .i .i64 (a1), .i .i64 (a2), .l 0] [.sl (.came b_a3) n_a3 a3 61] = some (.a (.b ((laws_FnExactCheckBounds_v0 Try.prog a0 a1 a2 b_a3 n_a3 a3))), .none, true) := by
  refine (laws_FnExactCheckBounds_ans 1000 a0 a1 a2 b_a3 n_a3 a3).trans ?_
  unfold laws_FnExactCheckBounds_gd at hg
  unfold laws_FnExactCheckBounds_v0
  revert hg
  generalize (decide ((laws_szBounds_v0 (1048576 : Int) b_a3 n_a3 a3) < (0 : Int))) = b2
  intro hg
  cases b2
  · skip
    revert hg
    generalize (decide (n_a3 ≤ 1048576)) = b4
    intro hg
    cases b4
    · skip
      first | exact (nomatch (hg : false = true)) | (simp only [cond_true, cond_false, Bool.and_true, Bool.true_and, Bool.and_false, Bool.false_and]; done) | rfl
    · skip
      revert hg
      generalize ((((bif (spec_l04Asked_v0 a1 a1 a2 0 a0 == 0) then prB Try.prog a0 a1 a2 n_a3 a3 else false)) != ((bif (spec_l04Asked_v0 a1 a1 a2 0 a0 == 0) then prB Try.prog a0 a1 a2 n_a3 a3 else false)))) = b6
      intro hg
      cases b6
      · skip
        revert hg
        generalize (((spec_l04Asked_v0 a1 a1 a2 0 a0) != (spec_l04Asked_v0 a1 a1 a2 0 a0))) = b8
        intro hg
        cases b8
        · skip
          revert hg
          generalize ((!((decide (n_a3 = n_a3) && sameB a3 a3)))) = b10
          intro hg
          cases b10
          · skip
            first | (simp only [cond_true, cond_false, Bool.and_true, Bool.true_and, Bool.and_false, Bool.false_and]; done) | rfl | exact (nomatch (hg : false = true))
          · skip
            first | (simp only [cond_true, cond_false, Bool.and_true, Bool.true_and, Bool.and_false, Bool.false_and]; done) | rfl | exact (nomatch (hg : false = true))
        · skip
          first | (simp only [cond_true, cond_false, Bool.and_true, Bool.true_and, Bool.and_false, Bool.false_and]; done) | rfl | exact (nomatch (hg : false = true))
      · skip
        first | (simp only [cond_true, cond_false, Bool.and_true, Bool.true_and, Bool.and_false, Bool.false_and]; done) | rfl | exact (nomatch (hg : false = true))
  · skip
    first | (simp only [cond_true, cond_false, Bool.and_true, Bool.true_and, Bool.and_false, Bool.false_and]; done) | rfl | exact (nomatch (hg : false = true))
noncomputable def laws_FnExactCheckBounds_con : Con := fun args h => match args, h with
  | [.g a0 28, .i .i64 a1, .i .i64 a2, .l 0], [.sl (.came b_a3) n_a3 a3 61] => some (.a (.b ((laws_FnExactCheckBounds_v0 Try.prog a0 a1 a2 b_a3 n_a3 a3))), .none, (laws_FnExactCheckBounds_gd a0 a1 a2 b_a3 n_a3 a3))
  | _, _ => none
theorem laws_FnExactCheckBounds_enter : ∀ args w, (callFunc 6 args).run Try.prog w = .ok (.enter 6 args) w := enter_ok (fn := Try.f6) (by kernel_rfl) (by kernel_rfl) (by kernel_rfl)
theorem laws_FnExactCheckBounds_ok : ConOk Try.prog 6 laws_FnExactCheckBounds_con := (ans_ok (N := 1000) (by kernel_rfl) (mkΓ_cons (con_ok laws_toSea_ok) laws_toSea_enter (mkΓ_cons (con_ok laws_eqBounds_ok) laws_eqBounds_enter (mkΓ_cons (con_ok laws_szBounds_ok) laws_szBounds_enter (mkΓ_cons (con_ok spec_CheckBounds_ok) spec_CheckBounds_enter (mkΓ_cons (con_ok laws_toBounds_ok) laws_toBounds_enter (mkΓ_cons (con_ok impl_CheckBounds_ok) impl_CheckBounds_enter mkΓ_nil)))))) (fn := Try.f6) (by kernel_rfl) (by kernel_rfl) []).of (by
  intro ρ h w args vals r e hA hH hr
  unfold laws_FnExactCheckBounds_con at hr
  split at hr
  · rename_i a0 a1 a2 b_a3 n_a3 a3
    obtain ⟨rfl, hg⟩ := Prod.mk.inj (Option.some.inj hr)
    obtain ⟨rfl, hg2⟩ := Prod.mk.inj hg
    exact laws_FnExactCheckBounds_main a0 a1 a2 b_a3 n_a3 a3 (hA.wt 0 rfl) (hA.rng 1 rfl) (hA.rng 2 rfl) (hH.slw 0 rfl) hg2
  · cases hr)

theorem laws_FnExactCheckBounds_true (a0 : Array Value) (a1 : Int) (a2 : Int) (b_a3 : Option (Option Addr)) (n_a3 : Nat) (a3 : Array Value) (h_a0 : WT Try.prog 28 a0) (h_a1 : IntKind.i64.min ≤ a1 ∧ a1 ≤ IntKind.i64.max) (h_a2 : IntKind.i64.min ≤ a2 ∧ a2 ≤ IntKind.i64.max) (h_a3 : n_a3 ≤ 9223372036854775807) : ((laws_FnExactCheckBounds_gd a0 a1 a2 b_a3 n_a3 a3)) = true ∧ ((laws_FnExactCheckBounds_v0 Try.prog a0 a1 a2 b_a3 n_a3 a3)) = true := by
  have z : laws_szBounds_v0 1048576 b_a3 n_a3 a3 = if (1048576 : Int) - (n_a3 : Int) < 0 then -1 else 1048576 - (n_a3 : Int) := by
    unfold laws_szBounds_v0
    rw [IntWalk.i64_in (1048576 - (n_a3 : Int)) (by omega)]
    by_cases h : (1048576 : Int) - (n_a3 : Int) < 0
    · rw [if_pos h, decide_eq_true h]; rfl
    · rw [if_neg h, decide_eq_false h]; rfl
  unfold laws_FnExactCheckBounds_gd laws_FnExactCheckBounds_v0
  rw [z]
  by_cases c0 : (1048576 : Int) - (n_a3 : Int) < 0
  · rw [if_pos c0]; exact ⟨rfl, rfl⟩
  · rw [if_neg c0, decide_eq_false c0, decide_eq_true (show n_a3 ≤ 1048576 by omega)]
    simp only [sameB_self, bne_self_eq_false, cond_false, cond_true, decide_true, Bool.and_self, Bool.not_true]
    exact ⟨trivial, trivial⟩

namespace lawFnExactCheckBounds
theorem lifted (os : Os) (started : os.Started) (H : Type) (enc : TypeId × Value → H) :
    ReturnsInHanded {} Try.checked os 6 .any (Rows.fnExactCheckBoundsSpec.pre6 enc Try.prog Try.f6 Rows.fnExactCheckBoundsRow.domain false) (Rows.fnExactCheckBoundsSpec.post enc Try.prog Try.f6 false true false false) := by
  refine law_lifted (C := Try.checked) (tb := 4) (by kernel_rfl) (by kernel_rfl) (by kernel_rfl) Try.func6 (by kernel_rfl) Try.underlying4 (of_decide_eq_true (by kernel_rfl)) rfl ?_ os started H enc
    (ChangeSpec.witness6 (enc := enc) (C := Try.checked) false ⟨#[], #[.agg (zc Try.prog 28), .int .i64 0, .int .i64 0, .slice none 0 0], []⟩ 8 (by kernel_rfl) (by kernel_rfl) (by kernel_rfl) (by kernel_rfl)) ?_
  · intro H ds hds
    rw [show Try.f6.params.toList.length = 4 by kernel_rfl] at hds
    match ds, hds with
    | [_, _, _, _], _ => rfl
  · intro W base args ds ps hval hA
    rw [Try.params6] at hA hval
    obtain ⟨v0, v1, v2, v3, d0, d1, d2, d3, p0, p1, p2, p3, hargs, rfl, rfl, h0, h1, h2, h3⟩ := trodAll_four hA
    obtain ⟨a0, e0, w0⟩ := open_data (t := 28) 8 (by kernel_rfl) (by kernel_rfl) (hval 0 28 v0 rfl (by rw [hargs]; rfl)) h0
    obtain ⟨a1, e1, _, _, w1⟩ := open_int Try.underlying2 (hval 1 2 v1 rfl (by rw [hargs]; rfl)) h1
    obtain ⟨a2, e2, _, _, w2⟩ := open_int Try.underlying2 (hval 2 2 v2 rfl (by rw [hargs]; rfl)) h2
    obtain ⟨x_a3, n_a3, c_a3, a3, e3, w3⟩ := open_sl (P := Try.prog) (t := 43) (e := 61) 8 Try.underlying43 (by kernel_rfl) (by kernel_rfl) (Nat.lt_of_lt_of_eq (by decide : 0 < 36) (by kernel_rfl)) (okWide_slice Try.underlying43 (hval 3 43 v3 rfl (by rw [hargs]; rfl))) h3
    obtain rfl : args = #[.agg a0, .int .i64 a1, .int .i64 a2, .slice x_a3 n_a3 c_a3] := by rw [hargs, e0, e1, e2, e3]
    obtain ⟨hg, hv⟩ := laws_FnExactCheckBounds_true a0 a1 a2 (some x_a3) n_a3 a3 w0 (wfb w1) (wfb w2) w3.2.2.1
    have hr : laws_FnExactCheckBounds_con [.g a0 28, .i .i64 a1, .i .i64 a2, .l 0] [.sl (.came (some x_a3)) n_a3 a3 61] = some (.a (.b true), .none, true) := by
      show (some (SV.a (SA.b ((laws_FnExactCheckBounds_v0 Try.prog a0 a1 a2 (some x_a3) n_a3 a3))), Eff.none, (laws_FnExactCheckBounds_gd a0 a1 a2 (some x_a3) n_a3 a3)) : Option (SV × Eff × Bool)) = _
      rw [hg, hv]
    exact calls_con2 laws_FnExactCheckBounds_ok hr W (vals := [.agg a0, .int .i64 a1, .int .i64 a2, .slice x_a3 n_a3 c_a3]) (SlL.no (P := Try.prog) (W := W) (.cons w3 .nil)) (SlL.his (P := Try.prog) (.cons w3 .nil)) (allCons2 ⟨rfl, w0⟩ (allCons2 ⟨rfl, wfb w1⟩ (allCons2 ⟨rfl, wfb w2⟩ (allCons2 (is_came rfl) (allNil2 _)))))

theorem over : Rows.fnExactCheckBoundsRow.holds Try.pinned (OpenSpec.ofChange Rows.fnExactCheckBoundsSpec) :=
  OpenClaim.holds_of_wide 6 Try.f6 rfl rfl rfl rfl rfl rfl rfl ⟨rfl, rfl, rfl, rfl, rfl⟩ rfl rfl rfl rfl rfl (by kernel_rfl) Try.func6 (by kernel_rfl)
    (of_decide_eq_true (by kernel_rfl)) (by unfold Func.isWrapper; first | (rw [if_pos (by decide +kernel)]; kernel_rfl) | (rw [if_neg (by decide +kernel)]; exact ⟨rfl, rfl⟩))
    (fun os started H enc _ => lifted os started H enc)

theorem proved : Rows.FnExactCheckBoundsSaid := over
#print axioms proved
end lawFnExactCheckBounds

end
end Go.Proofs.Ytmkkckhfghomfaa
