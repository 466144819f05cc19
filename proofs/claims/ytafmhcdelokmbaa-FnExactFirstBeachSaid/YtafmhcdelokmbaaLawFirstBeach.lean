/- For every sea and path spec and program find the same first beach. -/
import Derived.Test.YtafmhcdelokmbaaRows
import Derived.Test.YtafmhcdelokmbaaChecked
import Derived.Test.YtafmhcdelokmbaaBase
import Derived.Test.YtafmhcdelokmbaaVeFb
namespace Go.Proofs.Ytafmhcdelokmbaa
open Go.ChangeShapes Go.WideShapes Go.ChangeAt Go.RowKit Ve
set_option linter.unusedVariables false
set_option linter.unusedSimpArgs false
set_option maxRecDepth 100000
noncomputable section
theorem laws_FnExactFirstBeach_ans (N : Nat) (a0 : Array Value) (b_a1 : Option (Option Addr)) (n_a1 : Nat) (a1 : Array Value) : ansV Try.prog (mkΓ [(19, con laws_toSea_con), (38, con laws_eqInt64S_con), (44, con spec_FirstBeach_con), (45, con laws_toInt64S_con), (46, con impl_FirstBeach_con)]) N Try.f13 [] [.g a0 37, .l 0] [.sl b_a1 n_a1 a1 2] = (bif decide ((n_a1 : Int) > (1048576 : Int)) then (some (.a (.b (true)), .none, true))
    else (bif decide (n_a1 ≤ 1048576) then (bif decide (n_a1 ≤ 1048576) then (bif ((fbC a0 n_a1 a1) != (fbC a0 n_a1 a1)) then (some (.a (.b (false)), .none, true))
          else (bif ((fbI a0 n_a1 a1) != (fbI a0 n_a1 a1)) then (some (.a (.b (false)), .none, true))
            else (bif ((fbCode a0 n_a1 a1) != (fbCode a0 n_a1 a1)) then (some (.a (.b (false)), .none, true))
              else (bif decide (n_a1 ≤ 1048576) then (bif (!((decide (n_a1 = n_a1) && sameB a1 a1))) then (some (.a (.b (false)), .none, true))
                  else (some (.a (.b (true)), .none, true)))
                else (none)))))
        else (none))
      else (none))) := by kernel_rfl

noncomputable def laws_FnExactFirstBeach_v0 (a0 : Array Value) (b_a1 : Option (Option Addr)) (n_a1 : Nat) (a1 : Array Value) : Bool := (bif decide ((n_a1 : Int) > (1048576 : Int)) then true else (bif ((fbC a0 n_a1 a1) != (fbC a0 n_a1 a1)) then false else (bif ((fbI a0 n_a1 a1) != (fbI a0 n_a1 a1)) then false else (bif ((fbCode a0 n_a1 a1) != (fbCode a0 n_a1 a1)) then false else (bif (!((decide (n_a1 = n_a1) && sameB a1 a1))) then false else true)))))
noncomputable def laws_FnExactFirstBeach_gd (a0 : Array Value) (b_a1 : Option (Option Addr)) (n_a1 : Nat) (a1 : Array Value) : Bool := (bif decide ((n_a1 : Int) > (1048576 : Int)) then true else (bif decide (n_a1 ≤ 1048576) then (bif decide (n_a1 ≤ 1048576) then (bif ((fbC a0 n_a1 a1) != (fbC a0 n_a1 a1)) then true else (bif ((fbI a0 n_a1 a1) != (fbI a0 n_a1 a1)) then true else (bif ((fbCode a0 n_a1 a1) != (fbCode a0 n_a1 a1)) then true else decide (n_a1 ≤ 1048576)))) else false) else false))

theorem laws_FnExactFirstBeach_main (a0 : Array Value) (b_a1 : Option (Option Addr)) (n_a1 : Nat) (a1 : Array Value) (h_a0 : WT Try.prog 37 a0) (h_a1 : a1.size = n_a1 * (lay Try.prog 2).length ∧ (∀ k, k < n_a1 → WT Try.prog 2 (a1.extract (k * (lay Try.prog 2).length) (k * (lay Try.prog 2).length + (lay Try.prog 2).length))) ∧ n_a1 ≤ 9223372036854775807) (hg : ((laws_FnExactFirstBeach_gd a0 b_a1 n_a1 a1)) = true) : ansV Try.prog (mkΓ [(19, con laws_toSea_con), (38, con laws_eqInt64S_con), (44, con spec_FirstBeach_con), (45, con laws_toInt64S_con), (46, con impl_FirstBeach_con)]) 1000 Try.f13 [] [.g a0 37, .l 0] [.sl b_a1 n_a1 a1 2] = some (.a (.b ((laws_FnExactFirstBeach_v0 a0 b_a1 n_a1 a1))), .none, true) := by
  refine (laws_FnExactFirstBeach_ans 1000 a0 b_a1 n_a1 a1).trans ?_
  unfold laws_FnExactFirstBeach_gd at hg
  unfold laws_FnExactFirstBeach_v0
  revert hg
  generalize (decide ((n_a1 : Int) > (1048576 : Int))) = b2
  intro hg
  cases b2
  · skip
    revert hg
    generalize (decide (n_a1 ≤ 1048576)) = b4
    intro hg
    cases b4
    · skip
      first | exact (nomatch (hg : false = true)) | (simp only [cond_true, cond_false, Bool.and_true, Bool.true_and, Bool.and_false, Bool.false_and]; done) | rfl
    · skip
      revert hg
      generalize (((fbC a0 n_a1 a1) != (fbC a0 n_a1 a1))) = b6
      intro hg
      cases b6
      · skip
        revert hg
        generalize (((fbI a0 n_a1 a1) != (fbI a0 n_a1 a1))) = b8
        intro hg
        cases b8
        · skip
          revert hg
          generalize (((fbCode a0 n_a1 a1) != (fbCode a0 n_a1 a1))) = b10
          intro hg
          cases b10
          · skip
            revert hg
            generalize ((!((decide (n_a1 = n_a1) && sameB a1 a1)))) = b12
            intro hg
            cases b12
            · skip
              first | (simp only [cond_true, cond_false, Bool.and_true, Bool.true_and, Bool.and_false, Bool.false_and]; done) | rfl | exact (nomatch (hg : false = true))
            · skip
              first | (simp only [cond_true, cond_false, Bool.and_true, Bool.true_and, Bool.and_false, Bool.false_and]; done) | rfl | exact (nomatch (hg : false = true))
          · skip
            first | (simp only [cond_true, cond_false, Bool.and_true, Bool.true_and, Bool.and_false, Bool.false_and]; done) | rfl | exact (nomatch (hg : false = true))
        · skip
          first | (simp only [cond_true, cond_false, Bool.and_true, Bool.true_and, Bool.and_false, Bool.false_and]; done) | rfl | exact (nomatch (hg : false = true))
      · skip
        first | (simp only [cond_true, cond_false, Bool.and_true, Bool.true_and, Bool.and_false, Bool.false_and]; done) | rfl | exact (nomatch (hg : false = true))
  · skip
    first | (simp only [cond_true, cond_false, Bool.and_true, Bool.true_and, Bool.and_false, Bool.false_and]; done) | rfl | exact (nomatch (hg : false = true))
noncomputable def laws_FnExactFirstBeach_con : Con := fun args h => match args, h with
  | [.g a0 37, .l 0], [.sl b_a1 n_a1 a1 2] => some (.a (.b ((laws_FnExactFirstBeach_v0 a0 b_a1 n_a1 a1))), .none, (laws_FnExactFirstBeach_gd a0 b_a1 n_a1 a1))
  | _, _ => none
theorem laws_FnExactFirstBeach_enter : ∀ args w, (callFunc 13 args).run Try.prog w = .ok (.enter 13 args) w := enter_ok (fn := Try.f13) (by kernel_rfl) (by kernel_rfl) (by kernel_rfl)
theorem laws_FnExactFirstBeach_ok : ConOk Try.prog 13 laws_FnExactFirstBeach_con := (ans_ok (N := 1000) (by kernel_rfl) (mkΓ_cons (con_ok laws_toSea_ok) laws_toSea_enter (mkΓ_cons (con_ok laws_eqInt64S_ok) laws_eqInt64S_enter (mkΓ_cons (con_ok spec_FirstBeach_ok) spec_FirstBeach_enter (mkΓ_cons (con_ok laws_toInt64S_ok) laws_toInt64S_enter (mkΓ_cons (con_ok impl_FirstBeach_ok) impl_FirstBeach_enter mkΓ_nil))))) (fn := Try.f13) (by kernel_rfl) (by kernel_rfl) []).of (by
  intro ρ h w args vals r e hA hH hr
  unfold laws_FnExactFirstBeach_con at hr
  split at hr
  · rename_i a0 b_a1 n_a1 a1
    obtain ⟨rfl, hg⟩ := Prod.mk.inj (Option.some.inj hr)
    obtain ⟨rfl, hg2⟩ := Prod.mk.inj hg
    exact laws_FnExactFirstBeach_main a0 b_a1 n_a1 a1 (hA.wt 0 rfl) (hH.slw 0 rfl) hg2
  · cases hr)

theorem laws_FnExactFirstBeach_true (a0 : Array Value) (b_a1 : Option (Option Addr)) (n_a1 : Nat) (a1 : Array Value) (h_a0 : WT Try.prog 37 a0) : ((laws_FnExactFirstBeach_gd a0 b_a1 n_a1 a1)) = true ∧ ((laws_FnExactFirstBeach_v0 a0 b_a1 n_a1 a1)) = true := by
  unfold laws_FnExactFirstBeach_gd laws_FnExactFirstBeach_v0
  simp only [sameB_self, bne_self_eq_false, cond_false, decide_true, Bool.and_self, Bool.not_true]
  by_cases h : n_a1 ≤ 1048576
  · rw [decide_eq_false (show ¬ ((n_a1 : Int) > 1048576) by omega), decide_eq_true h]
    exact ⟨rfl, rfl⟩
  · rw [decide_eq_true (show ((n_a1 : Int) > 1048576) by omega)]
    exact ⟨rfl, rfl⟩

namespace lawFnExactFirstBeach
theorem lifted (os : Os) (started : os.Started) (H : Type) (enc : TypeId × Value → H) :
    ReturnsInHanded {} Try.checked os 13 .any (Rows.fnExactFirstBeachSpec.pre6 enc Try.prog Try.f13 Rows.fnExactFirstBeachRow.domain false) (Rows.fnExactFirstBeachSpec.post enc Try.prog Try.f13 false true false false) := by
  refine law_lifted (C := Try.checked) (tb := 4) (by kernel_rfl) (by kernel_rfl) (by kernel_rfl) Try.func13 (by kernel_rfl) Try.underlying4 (of_decide_eq_true (by kernel_rfl)) rfl ?_ os started H enc
    (ChangeSpec.witness6 (enc := enc) (C := Try.checked) false ⟨#[], #[.agg (zc Try.prog 37), .slice none 0 0], []⟩ 8 (by kernel_rfl) (by kernel_rfl) (by kernel_rfl) (by kernel_rfl)) ?_
  · intro H ds hds
    rw [show Try.f13.params.toList.length = 2 by kernel_rfl] at hds
    match ds, hds with
    | [_, _], _ => rfl
  · intro W base args ds ps hval hA
    rw [Try.params13] at hA hval
    obtain ⟨v0, v1, d0, d1, p0, p1, hargs, rfl, rfl, h0, h1⟩ := trodAll_two hA
    obtain ⟨a0, e0, w0⟩ := open_data (t := 37) 8 (by kernel_rfl) (by kernel_rfl) (hval 0 37 v0 rfl (by rw [hargs]; rfl)) h0
    obtain ⟨x_a1, n_a1, c_a1, a1, e1, w1⟩ := open_sl (P := Try.prog) (t := 66) (e := 2) 8 Try.underlying66 (by kernel_rfl) (by kernel_rfl) (Nat.lt_of_lt_of_eq (by decide : 0 < 1) (by kernel_rfl)) (okWide_slice Try.underlying66 (hval 1 66 v1 rfl (by rw [hargs]; rfl))) h1
    obtain rfl : args = #[.agg a0, .slice x_a1 n_a1 c_a1] := by rw [hargs, e0, e1]
    obtain ⟨hg, hv⟩ := laws_FnExactFirstBeach_true a0 (some x_a1) n_a1 a1 w0
    have hr : laws_FnExactFirstBeach_con [.g a0 37, .l 0] [.sl (some x_a1) n_a1 a1 2] = some (.a (.b true), .none, true) := by
      show (some (SV.a (SA.b ((laws_FnExactFirstBeach_v0 a0 (some x_a1) n_a1 a1))), Eff.none, (laws_FnExactFirstBeach_gd a0 (some x_a1) n_a1 a1)) : Option (SV × Eff × Bool)) = _
      rw [hg, hv]
    exact calls_con2 laws_FnExactFirstBeach_ok hr W (vals := [.agg a0, .slice x_a1 n_a1 c_a1]) (SlL.his (P := Try.prog) (.cons w1 .nil)) (allCons2 ⟨rfl, w0⟩ (allCons2 ⟨_, _, _, _, _, rfl, rfl⟩ (allNil2 _)))

theorem over : Rows.fnExactFirstBeachRow.holds Try.pinned (OpenSpec.ofChange Rows.fnExactFirstBeachSpec) :=
  OpenClaim.holds_of_wide 13 Try.f13 rfl rfl rfl rfl rfl rfl rfl ⟨rfl, rfl, rfl, rfl, rfl⟩ rfl rfl rfl rfl rfl (by kernel_rfl) Try.func13 (by kernel_rfl)
    (of_decide_eq_true (by kernel_rfl)) (by unfold Func.isWrapper; first | (rw [if_pos (by decide +kernel)]; kernel_rfl) | (rw [if_neg (by decide +kernel)]; exact ⟨rfl, rfl⟩))
    (fun os started H enc _ => lifted os started H enc)

theorem proved : Rows.FnExactFirstBeachSaid := over
#print axioms proved
end lawFnExactFirstBeach

end
end Go.Proofs.Ytafmhcdelokmbaa
