/- For every sea and all bounds spec and program answer the same bound that these prove. -/
import Derived.Test.YtmkkckhfghomfaaRows
import Derived.Test.YtmkkckhfghomfaaChecked
import Derived.Test.YtmkkckhfghomfaaBase
import Derived.Test.YtmkkckhfghomfaaVeBnD
namespace Go.Proofs.Ytmkkckhfghomfaa
open Go.ChangeShapes Go.WideShapes Go.ChangeAt Go.RowKit Ve
set_option linter.unusedVariables false
set_option linter.unusedSimpArgs false
set_option maxRecDepth 100000
noncomputable section
theorem laws_FnExactProvedBound_ans (N : Nat) (a0 : Array Value) (a1 : Int) (a2 : Int) (a3 : Int) (b_a4 : Option (Option Addr)) (n_a4 : Nat) (a4 : Array Value) : ansV Try.prog (mkΓ [(12, con laws_toSea_con), (20, con laws_eqBounds_con), (23, con laws_szBounds_con), (25, con laws_toBounds_con), (27, con spec_ProvedBound_con), (28, con impl_ProvedBound_con)]) N Try.f7 [] [.g a0 28, .i .i64 (a1), .i .i64 (a2), .i .i64 (a3), .l 0] [.sl (.came b_a4) n_a4 a4 61] = (bif decide ((laws_szBounds_v0 (1048576 : Int) b_a4 n_a4 a4) < (0 : Int)) then (some (.a (.b (true)), .none, true))
    else (bif decide (n_a4 ≤ 1048576) then (bif decide (n_a4 ≤ 1048576) then (bif ((pbVal Try.prog a0 a1 a2 a3 n_a4 a4) != (pbVal Try.prog a0 a1 a2 a3 n_a4 a4)) then (some (.a (.b (false)), .none, true))
          else (bif ((pbCode Try.prog a0 a1 a2 a3 n_a4 a4) != (pbCode Try.prog a0 a1 a2 a3 n_a4 a4)) then (some (.a (.b (false)), .none, true))
            else (bif decide (n_a4 ≤ 1048576) then (bif (!((decide (n_a4 = n_a4) && sameB a4 a4))) then (some (.a (.b (false)), .none, true))
                else (some (.a (.b (true)), .none, true)))
              else (none))))
        else (none))
      else (none))) := by kernel_rfl

noncomputable def laws_FnExactProvedBound_v0 (P : Program) (a0 : Array Value) (a1 : Int) (a2 : Int) (a3 : Int) (b_a4 : Option (Option Addr)) (n_a4 : Nat) (a4 : Array Value) : Bool := (bif decide ((laws_szBounds_v0 (1048576 : Int) b_a4 n_a4 a4) < (0 : Int)) then true else (bif ((pbVal P a0 a1 a2 a3 n_a4 a4) != (pbVal P a0 a1 a2 a3 n_a4 a4)) then false else (bif ((pbCode P a0 a1 a2 a3 n_a4 a4) != (pbCode P a0 a1 a2 a3 n_a4 a4)) then false else (bif (!((decide (n_a4 = n_a4) && sameB a4 a4))) then false else true))))
noncomputable def laws_FnExactProvedBound_gd (a0 : Array Value) (a1 : Int) (a2 : Int) (a3 : Int) (b_a4 : Option (Option Addr)) (n_a4 : Nat) (a4 : Array Value) : Bool := (bif decide ((laws_szBounds_v0 (1048576 : Int) b_a4 n_a4 a4) < (0 : Int)) then true else (bif decide (n_a4 ≤ 1048576) then (bif decide (n_a4 ≤ 1048576) then (bif ((pbVal Try.prog a0 a1 a2 a3 n_a4 a4) != (pbVal Try.prog a0 a1 a2 a3 n_a4 a4)) then true else (bif ((pbCode Try.prog a0 a1 a2 a3 n_a4 a4) != (pbCode Try.prog a0 a1 a2 a3 n_a4 a4)) then true else decide (n_a4 ≤ 1048576))) else false) else false))

theorem laws_FnExactProvedBound_main (a0 : Array Value) (a1 : Int) (a2 : Int) (a3 : Int) (b_a4 : Option (Option Addr)) (n_a4 : Nat) (a4 : Array Value) (h_a0 : WT Try.prog 28 a0) (h_a1 : IntKind.i64.min ≤ a1 ∧ a1 ≤ IntKind.i64.max) (h_a2 : IntKind.i64.min ≤ a2 ∧ a2 ≤ IntKind.i64.max) (h_a3 : IntKind.i64.min ≤ a3 ∧ a3 ≤ IntKind.i64.max) (h_a4 : a4.size = n_a4 * (lay Try.prog 61).length ∧ (∀ k, k < n_a4 → WT Try.prog 61 (a4.extract (k * (lay Try.prog 61).length) (k * (lay Try.prog 61).length + (lay Try.prog 61).length))) ∧ n_a4 ≤ 9223372036854775807) (hg : ((laws_FnExactProvedBound_gd a0 a1 a2 a3 b_a4 n_a4 a4)) = true) : ansV Try.prog (mkΓ [(12, con laws_toSea_con), (20, con laws_eqBounds_con), (23, con laws_szBounds_con), (25, con laws_toBounds_con), (27, con spec_ProvedBound_con), (28, con impl_ProvedBound_con)]) 1000 Try.f7 [] [.g a0 28, .i .i64 (a1), .i .i64 (a2), .i .i64 (a3), .l 0] [.sl (.came b_a4) n_a4 a4 61] = some (.a (.b ((laws_FnExactProvedBound_v0 Try.prog a0 a1 a2 a3 b_a4 n_a4 a4))), .none, true) := by
  refine (laws_FnExactProvedBound_ans 1000 a0 a1 a2 a3 b_a4 n_a4 a4).trans ?_
  unfold laws_FnExactProvedBound_gd at hg
  unfold laws_FnExactProvedBound_v0
  revert hg
  generalize (decide ((laws_szBounds_v0 (1048576 : Int) b_a4 n_a4 a4) < (0 : Int))) = b2
  intro hg
  cases b2
  · skip
    revert hg
    generalize (decide (n_a4 ≤ 1048576)) = b4
    intro hg
    cases b4
    · skip
      first | exact (nomatch (hg : false = true)) | (simp only [cond_true, cond_false, Bool.and_true, Bool.true_and, Bool.and_false, Bool.false_and]; done) | rfl
    · skip
      revert hg
      generalize (((pbVal Try.prog a0 a1 a2 a3 n_a4 a4) != (pbVal Try.prog a0 a1 a2 a3 n_a4 a4))) = b6
      intro hg
      cases b6
      · skip
        revert hg
        generalize (((pbCode Try.prog a0 a1 a2 a3 n_a4 a4) != (pbCode Try.prog a0 a1 a2 a3 n_a4 a4))) = b8
        intro hg
        cases b8
        · skip
          revert hg
          generalize ((!((decide (n_a4 = n_a4) && sameB a4 a4)))) = b10
          intro hg
          cases b10
          · skip
            first | (simp only [cond_true, cond_false, Bool.and_true, Bool.true_and, Bool.and_false, Bool.false_and]; done) | rfl | exact (nomatch (hg : false = true))
          · skip
            first | (simp only [cond_true, cond_false, Bool.and_true, Bool.true_and, Bool.and_false, Bool.false_and]; done) | rfl | exact (nomatch (hg : false = true))
        · skip
          first | (simp only [cond_true, cond_false, Bool.and_true, Bool.true_and, Bool.and_false, Bool.false_and]; done) | rfl | exact (nomatch (hg : false = true))
      · skip
        first | (simp only [cond_true, cond_false, Bool.and_true, Bool.true_and, Bool.and_false, Bool.false_and]; done) | rfl | exact (nomatch (hg : false = true))
  · skip
    first | (simp only [cond_true, cond_false, Bool.and_true, Bool.true_and, Bool.and_false, Bool.false_and]; done) | rfl | exact (nomatch (hg : false = true))
noncomputable def laws_FnExactProvedBound_con : Con := fun args h => match args, h with
  | [.g a0 28, .i .i64 a1, .i .i64 a2, .i .i64 a3, .l 0], [.sl (.came b_a4) n_a4 a4 61] => some (.a (.b ((laws_FnExactProvedBound_v0 Try.prog a0 a1 a2 a3 b_a4 n_a4 a4))), .none, (laws_FnExactProvedBound_gd a0 a1 a2 a3 b_a4 n_a4 a4))
  | _, _ => none
theorem laws_FnExactProvedBound_enter : ∀ args w, (callFunc 7 args).run Try.prog w = .ok (.enter 7 args) w := enter_ok (fn := Try.f7) (by kernel_rfl) (by kernel_rfl) (by kernel_rfl)
theorem laws_FnExactProvedBound_ok : ConOk Try.prog 7 laws_FnExactProvedBound_con := (ans_ok (N := 1000) (by kernel_rfl) (mkΓ_cons (con_ok laws_toSea_ok) laws_toSea_enter (mkΓ_cons (con_ok laws_eqBounds_ok) laws_eqBounds_enter (mkΓ_cons (con_ok laws_szBounds_ok) laws_szBounds_enter (mkΓ_cons (con_ok laws_toBounds_ok) laws_toBounds_enter (mkΓ_cons (con_ok spec_ProvedBound_ok) spec_ProvedBound_enter (mkΓ_cons (con_ok impl_ProvedBound_ok) impl_ProvedBound_enter mkΓ_nil)))))) (fn := Try.f7) (by kernel_rfl) (by kernel_rfl) []).of (by
  intro ρ h w args vals r e hA hH hr
  unfold laws_FnExactProvedBound_con at hr
  split at hr
  · rename_i a0 a1 a2 a3 b_a4 n_a4 a4
    obtain ⟨rfl, hg⟩ := Prod.mk.inj (Option.some.inj hr)
    obtain ⟨rfl, hg2⟩ := Prod.mk.inj hg
    exact laws_FnExactProvedBound_main a0 a1 a2 a3 b_a4 n_a4 a4 (hA.wt 0 rfl) (hA.rng 1 rfl) (hA.rng 2 rfl) (hA.rng 3 rfl) (hH.slw 0 rfl) hg2
  · cases hr)

theorem laws_FnExactProvedBound_true (a0 : Array Value) (a1 : Int) (a2 : Int) (a3 : Int) (b_a4 : Option (Option Addr)) (n_a4 : Nat) (a4 : Array Value) (h_a0 : WT Try.prog 28 a0) (h_a1 : IntKind.i64.min ≤ a1 ∧ a1 ≤ IntKind.i64.max) (h_a2 : IntKind.i64.min ≤ a2 ∧ a2 ≤ IntKind.i64.max) (h_a3 : IntKind.i64.min ≤ a3 ∧ a3 ≤ IntKind.i64.max) (h_a4 : n_a4 ≤ 9223372036854775807) : ((laws_FnExactProvedBound_gd a0 a1 a2 a3 b_a4 n_a4 a4)) = true ∧ ((laws_FnExactProvedBound_v0 Try.prog a0 a1 a2 a3 b_a4 n_a4 a4)) = true := by
  have z : laws_szBounds_v0 1048576 b_a4 n_a4 a4 = if (1048576 : Int) - (n_a4 : Int) < 0 then -1 else 1048576 - (n_a4 : Int) := by
    unfold laws_szBounds_v0
    rw [IntWalk.i64_in (1048576 - (n_a4 : Int)) (by omega)]
    by_cases h : (1048576 : Int) - (n_a4 : Int) < 0
    · rw [if_pos h, decide_eq_true h]; rfl
    · rw [if_neg h, decide_eq_false h]; rfl
  unfold laws_FnExactProvedBound_gd laws_FnExactProvedBound_v0
  rw [z]
  by_cases c0 : (1048576 : Int) - (n_a4 : Int) < 0
  · rw [if_pos c0]; exact ⟨rfl, rfl⟩
  · rw [if_neg c0, decide_eq_false c0, decide_eq_true (show n_a4 ≤ 1048576 by omega)]
    simp only [sameB_self, bne_self_eq_false, cond_false, cond_true, decide_true, Bool.and_self, Bool.not_true]
    exact ⟨trivial, trivial⟩

namespace lawFnExactProvedBound
theorem lifted (os : Os) (started : os.Started) (H : Type) (enc : TypeId × Value → H) :
    ReturnsInHanded {} Try.checked os 7 .any (Rows.fnExactProvedBoundSpec.pre6 enc Try.prog Try.f7 Rows.fnExactProvedBoundRow.domain false) (Rows.fnExactProvedBoundSpec.post enc Try.prog Try.f7 false true false false) := by
  refine law_lifted (C := Try.checked) (tb := 4) (by kernel_rfl) (by kernel_rfl) (by kernel_rfl) Try.func7 (by kernel_rfl) Try.underlying4 (of_decide_eq_true (by kernel_rfl)) rfl ?_ os started H enc
    (ChangeSpec.witness6 (enc := enc) (C := Try.checked) false ⟨#[], #[.agg (zc Try.prog 28), .int .i64 0, .int .i64 0, .int .i64 0, .slice none 0 0], []⟩ 8 (by kernel_rfl) (by kernel_rfl) (by kernel_rfl) (by kernel_rfl)) ?_
  · intro H ds hds
    rw [show Try.f7.params.toList.length = 5 by kernel_rfl] at hds
    match ds, hds with
    | [_, _, _, _, _], _ => rfl
  · intro W base args ds ps hval hA
    rw [Try.params7] at hA hval
    obtain ⟨v0, vs0, d0, ds0, p0, q0, ha0, rfl, rfl, h0, r0⟩ := trodAll_cons hA
    obtain ⟨v1, vs1, d1, ds1, p1, q1, rfl, rfl, rfl, h1, r1⟩ := trodAll_cons r0
    obtain ⟨v2, vs2, d2, ds2, p2, q2, rfl, rfl, rfl, h2, r2⟩ := trodAll_cons r1
    obtain ⟨v3, vs3, d3, ds3, p3, q3, rfl, rfl, rfl, h3, r3⟩ := trodAll_cons r2
    obtain ⟨v4, vs4, d4, ds4, p4, q4, rfl, rfl, rfl, h4, r4⟩ := trodAll_cons r3
    obtain ⟨rfl, rfl, rfl⟩ := trodAll_nil r4
    have hargs : args = #[v0, v1, v2, v3, v4] := by cases args; simp_all
    obtain ⟨a0, e0, w0⟩ := open_data (t := 28) 8 (by kernel_rfl) (by kernel_rfl) (hval 0 28 v0 rfl (by rw [hargs]; rfl)) h0
    obtain ⟨a1, e1, _, _, w1⟩ := open_int Try.underlying2 (hval 1 2 v1 rfl (by rw [hargs]; rfl)) h1
    obtain ⟨a2, e2, _, _, w2⟩ := open_int Try.underlying2 (hval 2 2 v2 rfl (by rw [hargs]; rfl)) h2
    obtain ⟨a3, e3, _, _, w3⟩ := open_int Try.underlying2 (hval 3 2 v3 rfl (by rw [hargs]; rfl)) h3
    obtain ⟨x_a4, n_a4, c_a4, a4, e4, w4⟩ := open_sl (P := Try.prog) (t := 43) (e := 61) 8 Try.underlying43 (by kernel_rfl) (by kernel_rfl) (Nat.lt_of_lt_of_eq (by decide : 0 < 36) (by kernel_rfl)) (okWide_slice Try.underlying43 (hval 4 43 v4 rfl (by rw [hargs]; rfl))) h4
    obtain rfl : args = #[.agg a0, .int .i64 a1, .int .i64 a2, .int .i64 a3, .slice x_a4 n_a4 c_a4] := by rw [hargs, e0, e1, e2, e3, e4]
    obtain ⟨hg, hv⟩ := laws_FnExactProvedBound_true a0 a1 a2 a3 (some x_a4) n_a4 a4 w0 (wfb w1) (wfb w2) (wfb w3) w4.2.2.1
    have hr : laws_FnExactProvedBound_con [.g a0 28, .i .i64 a1, .i .i64 a2, .i .i64 a3, .l 0] [.sl (.came (some x_a4)) n_a4 a4 61] = some (.a (.b true), .none, true) := by
      show (some (SV.a (SA.b ((laws_FnExactProvedBound_v0 Try.prog a0 a1 a2 a3 (some x_a4) n_a4 a4))), Eff.none, (laws_FnExactProvedBound_gd a0 a1 a2 a3 (some x_a4) n_a4 a4)) : Option (SV × Eff × Bool)) = _
      rw [hg, hv]
    exact calls_con2 laws_FnExactProvedBound_ok hr W (vals := [.agg a0, .int .i64 a1, .int .i64 a2, .int .i64 a3, .slice x_a4 n_a4 c_a4]) (SlL.no (P := Try.prog) (W := W) (.cons w4 .nil)) (SlL.his (P := Try.prog) (.cons w4 .nil)) (allCons2 ⟨rfl, w0⟩ (allCons2 ⟨rfl, wfb w1⟩ (allCons2 ⟨rfl, wfb w2⟩ (allCons2 ⟨rfl, wfb w3⟩ (allCons2 (is_came rfl) (allNil2 _))))))

theorem over : Rows.fnExactProvedBoundRow.holds Try.pinned (OpenSpec.ofChange Rows.fnExactProvedBoundSpec) :=
  OpenClaim.holds_of_wide 7 Try.f7 rfl rfl rfl rfl rfl rfl rfl ⟨rfl, rfl, rfl, rfl, rfl⟩ rfl rfl rfl rfl rfl (by kernel_rfl) Try.func7 (by kernel_rfl)
    (of_decide_eq_true (by kernel_rfl)) (by unfold Func.isWrapper; first | (rw [if_pos (by decide +kernel)]; kernel_rfl) | (rw [if_neg (by decide +kernel)]; exact ⟨rfl, rfl⟩))
    (fun os started H enc _ => lifted os started H enc)

theorem proved : Rows.FnExactProvedBoundSaid := over
#print axioms proved
end lawFnExactProvedBound

end
end Go.Proofs.Ytmkkckhfghomfaa
