/- For every sea and list spec and program answer alike whether the finds are valid. -/
import Derived.Test.YtafmhcdelokmbaaRows
import Derived.Test.YtafmhcdelokmbaaChecked
import Derived.Test.YtafmhcdelokmbaaBase
import Derived.Test.YtafmhcdelokmbaaVeFinds
namespace Go.Proofs.Ytafmhcdelokmbaa
open Go.ChangeShapes Go.WideShapes Go.ChangeAt Go.RowKit Ve
set_option linter.unusedVariables false
set_option linter.unusedSimpArgs false
set_option maxRecDepth 100000
noncomputable section
theorem laws_FnExactValidFinds_ans (N : Nat) (a0 : Array Value) (b_a1 : Option (Option Addr)) (n_a1 : Nat) (a1 : Array Value) : ansV Try.prog (mkΓ [(19, con laws_toSea_con), (47, con laws_szFindS_con), (48, con spec_ValidFinds_con), (49, con laws_toFindS_con), (50, con impl_ValidFinds_con), (51, con laws_eqFindS_con)]) N Try.f14 [] [.g a0 37, .l 0] [.sl b_a1 n_a1 a1 136] = (bif decide ((laws_szFindS_v0 (1048576 : Int) b_a1 n_a1 a1) < (0 : Int)) then (some (.a (.b (true)), .none, true))
    else (bif decide (n_a1 ≤ 1048576) then (bif decide (n_a1 ≤ 1048576) then (bif (((okS a0 && (fndAll a0 n_a1 a1 && decide ((n_a1 : Int) ≤ 60)))) != ((spec_ValidFinds_v0 a0 none n_a1 a1))) then (some (.a (.b (false)), .none, true))
          else (bif decide (n_a1 ≤ 1048576) then (bif (!((decide (n_a1 = n_a1) && sameB a1 a1))) then (some (.a (.b (false)), .none, true))
              else (some (.a (.b (true)), .none, true)))
            else (none)))
        else (none))
      else (none))) := by kernel_rfl

noncomputable def laws_FnExactValidFinds_v0 (a0 : Array Value) (b_a1 : Option (Option Addr)) (n_a1 : Nat) (a1 : Array Value) : Bool := (bif decide ((laws_szFindS_v0 (1048576 : Int) b_a1 n_a1 a1) < (0 : Int)) then true else (bif (((okS a0 && (fndAll a0 n_a1 a1 && decide ((n_a1 : Int) ≤ 60)))) != ((spec_ValidFinds_v0 a0 none n_a1 a1))) then false else (bif (!((decide (n_a1 = n_a1) && sameB a1 a1))) then false else true)))
noncomputable def laws_FnExactValidFinds_gd (a0 : Array Value) (b_a1 : Option (Option Addr)) (n_a1 : Nat) (a1 : Array Value) : Bool := (bif decide ((laws_szFindS_v0 (1048576 : Int) b_a1 n_a1 a1) < (0 : Int)) then true else (bif decide (n_a1 ≤ 1048576) then (bif decide (n_a1 ≤ 1048576) then (bif (((okS a0 && (fndAll a0 n_a1 a1 && decide ((n_a1 : Int) ≤ 60)))) != ((spec_ValidFinds_v0 a0 none n_a1 a1))) then true else decide (n_a1 ≤ 1048576)) else false) else false))

theorem laws_FnExactValidFinds_main (a0 : Array Value) (b_a1 : Option (Option Addr)) (n_a1 : Nat) (a1 : Array Value) (h_a0 : WT Try.prog 37 a0) (h_a1 : a1.size = n_a1 * (lay Try.prog 136).length ∧ (∀ k, k < n_a1 → WT Try.prog 136 (a1.extract (k * (lay Try.prog 136).length) (k * (lay Try.prog 136).length + (lay Try.prog 136).length))) ∧ n_a1 ≤ 9223372036854775807) (hg : ((laws_FnExactValidFinds_gd a0 b_a1 n_a1 a1)) = true) : ansV Try.prog (mkΓ [(19, con laws_toSea_con), (47, con laws_szFindS_con), (48, con spec_ValidFinds_con), (49, con laws_toFindS_con), (50, con impl_ValidFinds_con), (51, con laws_eqFindS_con)]) 1000 Try.f14 [] [.g a0 37, .l 0] [.sl b_a1 n_a1 a1 136] = some (.a (.b ((laws_FnExactValidFinds_v0 a0 b_a1 n_a1 a1))), .none, true) := by
  refine (laws_FnExactValidFinds_ans 1000 a0 b_a1 n_a1 a1).trans ?_
  unfold laws_FnExactValidFinds_gd at hg
  unfold laws_FnExactValidFinds_v0
  revert hg
  generalize (decide ((laws_szFindS_v0 (1048576 : Int) b_a1 n_a1 a1) < (0 : Int))) = b2
  intro hg
  cases b2
  · skip
    revert hg
    generalize (decide (n_a1 ≤ 1048576)) = b4
    intro hg
    cases b4
    · skip
      first | exact (nomatch (hg : false = true)) | (simp only [cond_true, cond_false, Bool.and_true, Bool.true_and, Bool.and_false, Bool.false_and]; done) | rfl
    · skip
      revert hg
      generalize ((((okS a0 && (fndAll a0 n_a1 a1 && decide ((n_a1 : Int) ≤ 60)))) != ((spec_ValidFinds_v0 a0 none n_a1 a1)))) = b6
      intro hg
      cases b6
      · skip
        revert hg
        generalize ((!((decide (n_a1 = n_a1) && sameB a1 a1)))) = b8
        intro hg
        cases b8
        · skip
          first | (simp only [cond_true, cond_false, Bool.and_true, Bool.true_and, Bool.and_false, Bool.false_and]; done) | rfl | exact (nomatch (hg : false = true))
        · skip
          first | (simp only [cond_true, cond_false, Bool.and_true, Bool.true_and, Bool.and_false, Bool.false_and]; done) | rfl | exact (nomatch (hg : false = true))
      · skip
        first | (simp only [cond_true, cond_false, Bool.and_true, Bool.true_and, Bool.and_false, Bool.false_and]; done) | rfl | exact (nomatch (hg : false = true))
  · skip
    first | (simp only [cond_true, cond_false, Bool.and_true, Bool.true_and, Bool.and_false, Bool.false_and]; done) | rfl | exact (nomatch (hg : false = true))
noncomputable def laws_FnExactValidFinds_con : Con := fun args h => match args, h with
  | [.g a0 37, .l 0], [.sl b_a1 n_a1 a1 136] => some (.a (.b ((laws_FnExactValidFinds_v0 a0 b_a1 n_a1 a1))), .none, (laws_FnExactValidFinds_gd a0 b_a1 n_a1 a1))
  | _, _ => none
theorem laws_FnExactValidFinds_enter : ∀ args w, (callFunc 14 args).run Try.prog w = .ok (.enter 14 args) w := enter_ok (fn := Try.f14) (by kernel_rfl) (by kernel_rfl) (by kernel_rfl)
theorem laws_FnExactValidFinds_ok : ConOk Try.prog 14 laws_FnExactValidFinds_con := (ans_ok (N := 1000) (by kernel_rfl) (mkΓ_cons (con_ok laws_toSea_ok) laws_toSea_enter (mkΓ_cons (con_ok laws_szFindS_ok) laws_szFindS_enter (mkΓ_cons (con_ok spec_ValidFinds_ok) spec_ValidFinds_enter (mkΓ_cons (con_ok laws_toFindS_ok) laws_toFindS_enter (mkΓ_cons (con_ok impl_ValidFinds_ok) impl_ValidFinds_enter (mkΓ_cons (con_ok laws_eqFindS_ok) laws_eqFindS_enter mkΓ_nil)))))) (fn := Try.f14) (by kernel_rfl) (by kernel_rfl) []).of (by
  intro ρ h w args vals r e hA hH hr
  unfold laws_FnExactValidFinds_con at hr
  split at hr
  · rename_i a0 b_a1 n_a1 a1
    obtain ⟨rfl, hg⟩ := Prod.mk.inj (Option.some.inj hr)
    obtain ⟨rfl, hg2⟩ := Prod.mk.inj hg
    exact laws_FnExactValidFinds_main a0 b_a1 n_a1 a1 (hA.wt 0 rfl) (hH.slw 0 rfl) hg2
  · cases hr)

theorem laws_FnExactValidFinds_true (a0 : Array Value) (b_a1 : Option (Option Addr)) (n_a1 : Nat) (a1 : Array Value) (h_a0 : WT Try.prog 37 a0) (h_a1 : n_a1 ≤ 9223372036854775807) : ((laws_FnExactValidFinds_gd a0 b_a1 n_a1 a1)) = true ∧ ((laws_FnExactValidFinds_v0 a0 b_a1 n_a1 a1)) = true := by
  have e1 : spec_ValidFinds_v0 a0 none n_a1 a1 = (okS a0 && (fndAll a0 n_a1 a1 && decide ((n_a1 : Int) ≤ 60))) := by
    unfold spec_ValidFinds_v0
    cases okS a0 <;> rfl
  unfold laws_FnExactValidFinds_gd laws_FnExactValidFinds_v0 laws_szFindS_v0
  rw [e1, IntWalk.i64_in (1048576 - (n_a1 : Int)) (by omega)]
  simp only [sameB_self, bne_self_eq_false, cond_false, decide_true, Bool.and_self, Bool.not_true]
  by_cases h : n_a1 ≤ 1048576
  · rw [decide_eq_false (show ¬ ((1048576 : Int) - (n_a1 : Int) < 0) by omega), decide_eq_true h]
    simp only [cond_false, decide_eq_false (show ¬ ((1048576 : Int) - (n_a1 : Int) < 0) by omega)]
    refine ⟨?_, ?_⟩ <;> first | trivial | rfl
  · rw [decide_eq_true (show ((1048576 : Int) - (n_a1 : Int) < 0) by omega)]
    exact ⟨rfl, rfl⟩

namespace lawFnExactValidFinds
theorem lifted (os : Os) (started : os.Started) (H : Type) (enc : TypeId × Value → H) :
    ReturnsInHanded {} Try.checked os 14 .any (Rows.fnExactValidFindsSpec.pre6 enc Try.prog Try.f14 Rows.fnExactValidFindsRow.domain false) (Rows.fnExactValidFindsSpec.post enc Try.prog Try.f14 false true false false) := by
  refine law_lifted (C := Try.checked) (tb := 4) (by kernel_rfl) (by kernel_rfl) (by kernel_rfl) Try.func14 (by kernel_rfl) Try.underlying4 (of_decide_eq_true (by kernel_rfl)) rfl ?_ os started H enc
    (ChangeSpec.witness6 (enc := enc) (C := Try.checked) false ⟨#[], #[.agg (zc Try.prog 37), .slice none 0 0], []⟩ 8 (by kernel_rfl) (by kernel_rfl) (by kernel_rfl) (by kernel_rfl)) ?_
  · intro H ds hds
    rw [show Try.f14.params.toList.length = 2 by kernel_rfl] at hds
    match ds, hds with
    | [_, _], _ => rfl
  · intro W base args ds ps hval hA
    rw [Try.params14] at hA hval
    obtain ⟨v0, v1, d0, d1, p0, p1, hargs, rfl, rfl, h0, h1⟩ := trodAll_two hA
    obtain ⟨a0, e0, w0⟩ := open_data (t := 37) 8 (by kernel_rfl) (by kernel_rfl) (hval 0 37 v0 rfl (by rw [hargs]; rfl)) h0
    obtain ⟨x_a1, n_a1, c_a1, a1, e1, w1⟩ := open_sl (P := Try.prog) (t := 79) (e := 136) 8 Try.underlying79 (by kernel_rfl) (by kernel_rfl) (Nat.lt_of_lt_of_eq (by decide : 0 < 2) (by kernel_rfl)) (okWide_slice Try.underlying79 (hval 1 79 v1 rfl (by rw [hargs]; rfl))) h1
    obtain rfl : args = #[.agg a0, .slice x_a1 n_a1 c_a1] := by rw [hargs, e0, e1]
    obtain ⟨hg, hv⟩ := laws_FnExactValidFinds_true a0 (some x_a1) n_a1 a1 w0 w1.2.2.1
    have hr : laws_FnExactValidFinds_con [.g a0 37, .l 0] [.sl (some x_a1) n_a1 a1 136] = some (.a (.b true), .none, true) := by
      show (some (SV.a (SA.b ((laws_FnExactValidFinds_v0 a0 (some x_a1) n_a1 a1))), Eff.none, (laws_FnExactValidFinds_gd a0 (some x_a1) n_a1 a1)) : Option (SV × Eff × Bool)) = _
      rw [hg, hv]
    exact calls_con2 laws_FnExactValidFinds_ok hr W (vals := [.agg a0, .slice x_a1 n_a1 c_a1]) (SlL.his (P := Try.prog) (.cons w1 .nil)) (allCons2 ⟨rfl, w0⟩ (allCons2 ⟨_, _, _, _, _, rfl, rfl⟩ (allNil2 _)))

theorem over : Rows.fnExactValidFindsRow.holds Try.pinned (OpenSpec.ofChange Rows.fnExactValidFindsSpec) :=
  OpenClaim.holds_of_wide 14 Try.f14 rfl rfl rfl rfl rfl rfl rfl ⟨rfl, rfl, rfl, rfl, rfl⟩ rfl rfl rfl rfl rfl (by kernel_rfl) Try.func14 (by kernel_rfl)
    (of_decide_eq_true (by kernel_rfl)) (by unfold Func.isWrapper; first | (rw [if_pos (by decide +kernel)]; kernel_rfl) | (rw [if_neg (by decide +kernel)]; exact ⟨rfl, rfl⟩))
    (fun os started H enc _ => lifted os started H enc)

theorem proved : Rows.FnExactValidFindsSaid := over
#print axioms proved
end lawFnExactValidFinds

end
end Go.Proofs.Ytafmhcdelokmbaa
