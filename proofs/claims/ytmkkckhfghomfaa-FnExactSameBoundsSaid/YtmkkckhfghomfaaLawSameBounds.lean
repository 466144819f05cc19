/- For all lists of bounds spec and program answer alike whether they are the same. -/
import Derived.Test.YtmkkckhfghomfaaRows
import Derived.Test.YtmkkckhfghomfaaChecked
import Derived.Test.YtmkkckhfghomfaaBase
import Derived.Test.YtmkkckhfghomfaaVeSb
namespace Go.Proofs.Ytmkkckhfghomfaa
open Go.ChangeShapes Go.WideShapes Go.ChangeAt Go.RowKit Ve
set_option linter.unusedVariables false
set_option linter.unusedSimpArgs false
set_option maxRecDepth 100000
noncomputable section
theorem laws_FnExactSameBounds_ans (N : Nat) (b_a0 : Option (Option Addr)) (n_a0 : Nat) (a0 : Array Value) (b_a1 : Option (Option Addr)) (n_a1 : Nat) (a1 : Array Value) : ansV Try.prog (mkΓ [(20, con laws_eqBounds_con), (23, con laws_szBounds_con), (25, con laws_toBounds_con), (33, con spec_SameBounds_con), (34, con impl_SameBounds_con)]) N Try.f9 [] [.l 0, .l 1] [.sl (.came b_a0) n_a0 a0 61, .sl (.came b_a1) n_a1 a1 61] = (bif decide ((laws_szBounds_v0 (1048576 : Int) b_a0 n_a0 a0) < (0 : Int)) then (some (.a (.b (true)), .none, true))
    else (bif decide ((laws_szBounds_v0 (laws_szBounds_v0 (1048576 : Int) b_a0 n_a0 a0) b_a1 n_a1 a1) < (0 : Int)) then (some (.a (.b (true)), .none, true))
      else (bif decide (n_a0 ≤ 1048576) then (bif decide (n_a1 ≤ 1048576) then (bif decide (n_a0 ≤ 1048576) then (bif decide (n_a1 ≤ 1048576) then (bif (((decide (n_a0 = n_a1) && sameB a0 a1)) != ((decide (n_a0 = n_a1) && sameB a0 a1))) then (some (.a (.b (false)), .none, true))
                else (bif decide (n_a0 ≤ 1048576) then (bif (!((decide (n_a0 = n_a0) && sameB a0 a0))) then (some (.a (.b (false)), .none, true))
                    else (bif decide (n_a1 ≤ 1048576) then (bif (!((decide (n_a1 = n_a1) && sameB a1 a1))) then (some (.a (.b (false)), .none, true))
                        else (some (.a (.b (true)), .none, true)))
                      else (none)))
                  else (none)))
              else (none))
            else (none))
          else (none))
        else (none)))) := by kernel_rfl

noncomputable def laws_FnExactSameBounds_v0 (b_a0 : Option (Option Addr)) (n_a0 : Nat) (a0 : Array Value) (b_a1 : Option (Option Addr)) (n_a1 : Nat) (a1 : Array Value) : Bool := (bif decide ((laws_szBounds_v0 (1048576 : Int) b_a0 n_a0 a0) < (0 : Int)) then true else (bif decide ((laws_szBounds_v0 (laws_szBounds_v0 (1048576 : Int) b_a0 n_a0 a0) b_a1 n_a1 a1) < (0 : Int)) then true else (bif (((decide (n_a0 = n_a1) && sameB a0 a1)) != ((decide (n_a0 = n_a1) && sameB a0 a1))) then false else (bif (!((decide (n_a0 = n_a0) && sameB a0 a0))) then false else (bif (!((decide (n_a1 = n_a1) && sameB a1 a1))) then false else true)))))
noncomputable def laws_FnExactSameBounds_gd (b_a0 : Option (Option Addr)) (n_a0 : Nat) (a0 : Array Value) (b_a1 : Option (Option Addr)) (n_a1 : Nat) (a1 : Array Value) : Bool := (bif decide ((laws_szBounds_v0 (1048576 : Int) b_a0 n_a0 a0) < (0 : Int)) then true else (bif decide ((laws_szBounds_v0 (laws_szBounds_v0 (1048576 : Int) b_a0 n_a0 a0) b_a1 n_a1 a1) < (0 : Int)) then true else (bif decide (n_a0 ≤ 1048576) then (bif decide (n_a1 ≤ 1048576) then (bif decide (n_a0 ≤ 1048576) then (bif decide (n_a1 ≤ 1048576) then (bif (((decide (n_a0 = n_a1) && sameB a0 a1)) != ((decide (n_a0 = n_a1) && sameB a0 a1))) then true else (bif decide (n_a0 ≤ 1048576) then (bif (!((decide (n_a0 = n_a0) && sameB a0 a0))) then true else decide (n_a1 ≤ 1048576)) else false)) else false) else false) else false) else false)))

theorem laws_FnExactSameBounds_main (b_a0 : Option (Option Addr)) (n_a0 : Nat) (a0 : Array Value) (b_a1 : Option (Option Addr)) (n_a1 : Nat) (a1 : Array Value) (h_a0 : a0.size = n_a0 * (lay Try.prog 61).length ∧ (∀ k, k < n_a0 → WT Try.prog 61 (a0.extract (k * (lay Try.prog 61).length) (k * (lay Try.prog 61).length + (lay Try.prog 61).length))) ∧ n_a0 ≤ 9223372036854775807) (h_a1 : a1.size = n_a1 * (lay Try.prog 61).length ∧ (∀ k, k < n_a1 → WT Try.prog 61 (a1.extract (k * (lay Try.prog 61).length) (k * (lay Try.prog 61).length + (lay Try.prog 61).length))) ∧ n_a1 ≤ 9223372036854775807) (hg : ((laws_FnExactSameBounds_gd b_a0 n_a0 a0 b_a1 n_a1 a1)) = true) : ansV Try.prog (mkΓ [(20, con laws_eqBounds_con), (23, con laws_szBounds_con), (25, con laws_toBounds_con), (33, con spec_SameBounds_con), (34, con impl_SameBounds_con)]) 1000 Try.f9 [] [.l 0, .l 1] [.sl (.came b_a0) n_a0 a0 61, .sl (.came b_a1) n_a1 a1 61] = some (.a (.b ((laws_FnExactSameBounds_v0 b_a0 n_a0 a0 b_a1 n_a1 a1))), .none, true) := by
  refine (laws_FnExactSameBounds_ans 1000 b_a0 n_a0 a0 b_a1 n_a1 a1).trans ?_
  unfold laws_FnExactSameBounds_gd at hg
  unfold laws_FnExactSameBounds_v0
  revert hg
  generalize (decide ((laws_szBounds_v0 (1048576 : Int) b_a0 n_a0 a0) < (0 : Int))) = b2
  intro hg
  cases b2
  · skip
    revert hg
    generalize (decide ((laws_szBounds_v0 (laws_szBounds_v0 (1048576 : Int) b_a0 n_a0 a0) b_a1 n_a1 a1) < (0 : Int))) = b4
    intro hg
    cases b4
    · skip
      revert hg
      generalize (decide (n_a0 ≤ 1048576)) = b6
      intro hg
      cases b6
      · skip
        first | exact (nomatch (hg : false = true)) | (simp only [cond_true, cond_false, Bool.and_true, Bool.true_and, Bool.and_false, Bool.false_and]; done) | rfl
      · skip
        revert hg
        generalize (decide (n_a1 ≤ 1048576)) = b8
        intro hg
        cases b8
        · skip
          first | exact (nomatch (hg : false = true)) | (simp only [cond_true, cond_false, Bool.and_true, Bool.true_and, Bool.and_false, Bool.false_and]; done) | rfl
        · skip
          revert hg
          generalize ((((decide (n_a0 = n_a1) && sameB a0 a1)) != ((decide (n_a0 = n_a1) && sameB a0 a1)))) = b10
          intro hg
          cases b10
          · skip
            revert hg
            generalize ((!((decide (n_a0 = n_a0) && sameB a0 a0)))) = b12
            intro hg
            cases b12
            · skip
              revert hg
              generalize ((!((decide (n_a1 = n_a1) && sameB a1 a1)))) = b14
              intro hg
              cases b14
              · skip
                first | (simp only [cond_true, cond_false, Bool.and_true, Bool.true_and, Bool.and_false, Bool.false_and]; done) | rfl | exact (nomatch (hg : false = true))
              · skip
                first | (simp only [cond_true, cond_false, Bool.and_true, Bool.true_and, Bool.and_false, Bool.false_and]; done) | rfl | exact (nomatch (hg : false = true))
            · skip
              first | (simp only [cond_true, cond_false, Bool.and_true, Bool.true_and, Bool.and_false, Bool.false_and]; done) | rfl | exact (nomatch (hg : false = true))
          · skip
            first | (simp only [cond_true, cond_false, Bool.and_true, Bool.true_and, Bool.and_false, Bool.false_and]; done) | rfl | exact (nomatch (hg : false = true))
    · skip
      first | (simp only [cond_true, cond_false, Bool.and_true, Bool.true_and, Bool.and_false, Bool.false_and]; done) | rfl | exact (nomatch (hg : false = true))
  · skip
    first | (simp only [cond_true, cond_false, Bool.and_true, Bool.true_and, Bool.and_false, Bool.false_and]; done) | rfl | exact (nomatch (hg : false = true))
noncomputable def laws_FnExactSameBounds_con : Con := fun args h => match args, h with
  | [.l 0, .l 1], [.sl (.came b_a0) n_a0 a0 61, .sl (.came b_a1) n_a1 a1 61] => some (.a (.b ((laws_FnExactSameBounds_v0 b_a0 n_a0 a0 b_a1 n_a1 a1))), .none, (laws_FnExactSameBounds_gd b_a0 n_a0 a0 b_a1 n_a1 a1))
  | _, _ => none
theorem laws_FnExactSameBounds_enter : ∀ args w, (callFunc 9 args).run Try.prog w = .ok (.enter 9 args) w := enter_ok (fn := Try.f9) (by kernel_rfl) (by kernel_rfl) (by kernel_rfl)
theorem laws_FnExactSameBounds_ok : ConOk Try.prog 9 laws_FnExactSameBounds_con := (ans_ok (N := 1000) (by kernel_rfl) (mkΓ_cons (con_ok laws_eqBounds_ok) laws_eqBounds_enter (mkΓ_cons (con_ok laws_szBounds_ok) laws_szBounds_enter (mkΓ_cons (con_ok laws_toBounds_ok) laws_toBounds_enter (mkΓ_cons (con_ok spec_SameBounds_ok) spec_SameBounds_enter (mkΓ_cons (con_ok impl_SameBounds_ok) impl_SameBounds_enter mkΓ_nil))))) (fn := Try.f9) (by kernel_rfl) (by kernel_rfl) []).of (by
  intro ρ h w args vals r e hA hH hr
  unfold laws_FnExactSameBounds_con at hr
  split at hr
  · rename_i b_a0 n_a0 a0 b_a1 n_a1 a1
    obtain ⟨rfl, hg⟩ := Prod.mk.inj (Option.some.inj hr)
    obtain ⟨rfl, hg2⟩ := Prod.mk.inj hg
    exact laws_FnExactSameBounds_main b_a0 n_a0 a0 b_a1 n_a1 a1 (hH.slw 0 rfl) (hH.slw 1 rfl) hg2
  · cases hr)

theorem laws_FnExactSameBounds_true (b_a0 : Option (Option Addr)) (n_a0 : Nat) (a0 : Array Value) (b_a1 : Option (Option Addr)) (n_a1 : Nat) (a1 : Array Value) (h_a0 : n_a0 ≤ 9223372036854775807) (h_a1 : n_a1 ≤ 9223372036854775807) : ((laws_FnExactSameBounds_gd b_a0 n_a0 a0 b_a1 n_a1 a1)) = true ∧ ((laws_FnExactSameBounds_v0 b_a0 n_a0 a0 b_a1 n_a1 a1)) = true := by
  have z : ∀ (b : Int) (bb : Option (Option Addr)) (n : Nat) (A : Array Value), -1 ≤ b → b ≤ 1048576 → n ≤ 9223372036854775807 → laws_szBounds_v0 b bb n A = if b - (n : Int) < 0 then -1 else b - (n : Int) := by
    intro b bb n A h1 h2 h3
    unfold laws_szBounds_v0
    rw [IntWalk.i64_in (b - (n : Int)) (by omega)]
    by_cases h : b - (n : Int) < 0
    · rw [if_pos h, decide_eq_true h]; rfl
    · rw [if_neg h, decide_eq_false h]; rfl
  unfold laws_FnExactSameBounds_gd laws_FnExactSameBounds_v0
  rw [z 1048576 b_a0 n_a0 a0 (by omega) (by omega) h_a0]
  by_cases c0 : (1048576 : Int) - (n_a0 : Int) < 0
  · rw [if_pos c0]; exact ⟨rfl, rfl⟩
  · rw [if_neg c0, z _ b_a1 n_a1 a1 (by omega) (by omega) h_a1, decide_eq_false c0]
    by_cases c1 : (1048576 : Int) - (n_a0 : Int) - (n_a1 : Int) < 0
    · rw [if_pos c1]; exact ⟨rfl, rfl⟩
    · rw [if_neg c1, decide_eq_false c1, decide_eq_true (show n_a0 ≤ 1048576 by omega), decide_eq_true (show n_a1 ≤ 1048576 by omega)]
      simp only [sameB_self, bne_self_eq_false, cond_false, cond_true, decide_true, Bool.and_self, Bool.not_true]
      exact ⟨trivial, trivial⟩

namespace lawFnExactSameBounds
theorem lifted (os : Os) (started : os.Started) (H : Type) (enc : TypeId × Value → H) :
    ReturnsInHanded {} Try.checked os 9 .any (Rows.fnExactSameBoundsSpec.pre6 enc Try.prog Try.f9 Rows.fnExactSameBoundsRow.domain false) (Rows.fnExactSameBoundsSpec.post enc Try.prog Try.f9 false true false false) := by
  refine law_lifted (C := Try.checked) (tb := 4) (by kernel_rfl) (by kernel_rfl) (by kernel_rfl) Try.func9 (by kernel_rfl) Try.underlying4 (of_decide_eq_true (by kernel_rfl)) rfl ?_ os started H enc
    (ChangeSpec.witness6 (enc := enc) (C := Try.checked) false ⟨#[], #[.slice none 0 0, .slice none 0 0], []⟩ 8 (by kernel_rfl) (by kernel_rfl) (by kernel_rfl) (by kernel_rfl)) ?_
  · intro H ds hds
    rw [show Try.f9.params.toList.length = 2 by kernel_rfl] at hds
    match ds, hds with
    | [_, _], _ => rfl
  · intro W base args ds ps hval hA
    rw [Try.params9] at hA hval
    obtain ⟨v0, v1, d0, d1, p0, p1, hargs, rfl, rfl, h0, h1⟩ := trodAll_two hA
    obtain ⟨x_a0, n_a0, c_a0, a0, e0, w0⟩ := open_sl (P := Try.prog) (t := 43) (e := 61) 8 Try.underlying43 (by kernel_rfl) (by kernel_rfl) (Nat.lt_of_lt_of_eq (by decide : 0 < 36) (by kernel_rfl)) (okWide_slice Try.underlying43 (hval 0 43 v0 rfl (by rw [hargs]; rfl))) h0
    obtain ⟨x_a1, n_a1, c_a1, a1, e1, w1⟩ := open_sl (P := Try.prog) (t := 43) (e := 61) 8 Try.underlying43 (by kernel_rfl) (by kernel_rfl) (Nat.lt_of_lt_of_eq (by decide : 0 < 36) (by kernel_rfl)) (okWide_slice Try.underlying43 (hval 1 43 v1 rfl (by rw [hargs]; rfl))) h1
    obtain rfl : args = #[.slice x_a0 n_a0 c_a0, .slice x_a1 n_a1 c_a1] := by rw [hargs, e0, e1]
    obtain ⟨hg, hv⟩ := laws_FnExactSameBounds_true (some x_a0) n_a0 a0 (some x_a1) n_a1 a1 w0.2.2.1 w1.2.2.1
    have hr : laws_FnExactSameBounds_con [.l 0, .l 1] [.sl (.came (some x_a0)) n_a0 a0 61, .sl (.came (some x_a1)) n_a1 a1 61] = some (.a (.b true), .none, true) := by
      show (some (SV.a (SA.b ((laws_FnExactSameBounds_v0 (some x_a0) n_a0 a0 (some x_a1) n_a1 a1))), Eff.none, (laws_FnExactSameBounds_gd (some x_a0) n_a0 a0 (some x_a1) n_a1 a1)) : Option (SV × Eff × Bool)) = _
      rw [hg, hv]
    exact calls_con2 laws_FnExactSameBounds_ok hr W (vals := [.slice x_a0 n_a0 c_a0, .slice x_a1 n_a1 c_a1]) (SlL.no (P := Try.prog) (W := W) (.cons w0 (.cons w1 .nil))) (SlL.his (P := Try.prog) (.cons w0 (.cons w1 .nil))) (allCons2 (is_came rfl) (allCons2 (is_came rfl) (allNil2 _)))

theorem over : Rows.fnExactSameBoundsRow.holds Try.pinned (OpenSpec.ofChange Rows.fnExactSameBoundsSpec) :=
  OpenClaim.holds_of_wide 9 Try.f9 rfl rfl rfl rfl rfl rfl rfl ⟨rfl, rfl, rfl, rfl, rfl⟩ rfl rfl rfl rfl rfl (by kernel_rfl) Try.func9 (by kernel_rfl)
    (of_decide_eq_true (by kernel_rfl)) (by unfold Func.isWrapper; first | (rw [if_pos (by decide +kernel)]; kernel_rfl) | (rw [if_neg (by decide +kernel)]; exact ⟨rfl, rfl⟩))
    (fun os started H enc _ => lifted os started H enc)

theorem proved : Rows.FnExactSameBoundsSaid := over
#print axioms proved
end lawFnExactSameBounds

end
end Go.Proofs.Ytmkkckhfghomfaa
