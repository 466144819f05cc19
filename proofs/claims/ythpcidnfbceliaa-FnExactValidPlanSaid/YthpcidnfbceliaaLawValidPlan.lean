/- For every sea and plan spec and program answer alike whether the plan is valid. -/
import Derived.Test.YthpcidnfbceliaaRows
import Derived.Test.YthpcidnfbceliaaChecked
import Derived.Test.YthpcidnfbceliaaBase
import Derived.Test.YthpcidnfbceliaaVePlan
namespace Go.Proofs.Ythpcidnfbceliaa
open Go.ChangeShapes Go.WideShapes Go.ChangeAt Go.RowKit Ve
set_option linter.unusedVariables false
set_option linter.unusedSimpArgs false
set_option maxRecDepth 100000
noncomputable section
noncomputable def laws_FnExactValidPlan_G : Cons := (mkΓ [(7, con laws_szPlan_con), (8, con spec_ValidPlan_con), (9, con laws_toSea_con), (10, con laws_toPlan_con), (11, con impl_ValidPlan_con), (12, con laws_eqPlan_con)])
theorem laws_FnExactValidPlan_ans (N : Nat) (a0 : Array Value) (a1 : Array Value) (b_a1x2 : Option (Option Addr)) (n_a1x2 : Nat) (a1x2 : Array Value) : ansV Try.prog laws_FnExactValidPlan_G N Try.f3 [] [.g a0 28, .r a1 31 [(2, 0)]] [.sl (.came b_a1x2) n_a1x2 a1x2 91] = (bif decide ((laws_szPlan_v0 a1 (1048576 : Int) b_a1x2 n_a1x2 a1x2) < (0 : Int)) then (some (.a (.b (true)), .none, true))
    else (bif decide (n_a1x2 ≤ 1048576) then (bif decide (n_a1x2 ≤ 1048576) then (bif (((okS a0 && planB a0 a1 n_a1x2 a1x2)) != ((spec_ValidPlan_v0 a0 a1 none n_a1x2 a1x2))) then (some (.a (.b (false)), .none, true))
          else (bif decide (n_a1x2 ≤ 1048576) then (bif (!((laws_eqPlan_v0 a1 a1 none n_a1x2 a1x2 none n_a1x2 a1x2))) then (some (.a (.b (false)), .none, true))
              else (some (.a (.b (true)), .none, true)))
            else (none)))
        else (none))
      else (none))) := by kernel_rfl

noncomputable def laws_FnExactValidPlan_v0 (a0 : Array Value) (a1 : Array Value) (b_a1x2 : Option (Option Addr)) (n_a1x2 : Nat) (a1x2 : Array Value) : Bool := (bif decide ((laws_szPlan_v0 a1 (1048576 : Int) b_a1x2 n_a1x2 a1x2) < (0 : Int)) then true else (bif (((okS a0 && planB a0 a1 n_a1x2 a1x2)) != ((spec_ValidPlan_v0 a0 a1 none n_a1x2 a1x2))) then false else (bif (!((laws_eqPlan_v0 a1 a1 none n_a1x2 a1x2 none n_a1x2 a1x2))) then false else true)))
noncomputable def laws_FnExactValidPlan_gd (a0 : Array Value) (a1 : Array Value) (b_a1x2 : Option (Option Addr)) (n_a1x2 : Nat) (a1x2 : Array Value) : Bool := (bif decide ((laws_szPlan_v0 a1 (1048576 : Int) b_a1x2 n_a1x2 a1x2) < (0 : Int)) then true else (bif decide (n_a1x2 ≤ 1048576) then (bif decide (n_a1x2 ≤ 1048576) then (bif (((okS a0 && planB a0 a1 n_a1x2 a1x2)) != ((spec_ValidPlan_v0 a0 a1 none n_a1x2 a1x2))) then true else decide (n_a1x2 ≤ 1048576)) else false) else false))

theorem laws_FnExactValidPlan_main (a0 : Array Value) (a1 : Array Value) (b_a1x2 : Option (Option Addr)) (n_a1x2 : Nat) (a1x2 : Array Value) (h_a0 : WT Try.prog 28 a0) (h_a1 : WT Try.prog 31 a1) (h_a1x2 : a1x2.size = n_a1x2 * (lay Try.prog 91).length ∧ (∀ k, k < n_a1x2 → WT Try.prog 91 (a1x2.extract (k * (lay Try.prog 91).length) (k * (lay Try.prog 91).length + (lay Try.prog 91).length))) ∧ n_a1x2 ≤ 9223372036854775807) (hg : ((laws_FnExactValidPlan_gd a0 a1 b_a1x2 n_a1x2 a1x2)) = true) : ansV Try.prog laws_FnExactValidPlan_G 1000 Try.f3 [] [.g a0 28, .r a1 31 [(2, 0)]] [.sl (.came b_a1x2) n_a1x2 a1x2 91] = some (.a (.b ((laws_FnExactValidPlan_v0 a0 a1 b_a1x2 n_a1x2 a1x2))), .none, true) := by
  refine (laws_FnExactValidPlan_ans 1000 a0 a1 b_a1x2 n_a1x2 a1x2).trans ?_
  unfold laws_FnExactValidPlan_gd at hg
  unfold laws_FnExactValidPlan_v0
  revert hg
  generalize (decide ((laws_szPlan_v0 a1 (1048576 : Int) b_a1x2 n_a1x2 a1x2) < (0 : Int))) = b2
  intro hg
  cases b2
  · skip
    revert hg
    generalize (decide (n_a1x2 ≤ 1048576)) = b4
    intro hg
    cases b4
    · skip
      first | exact (nomatch (hg : false = true)) | (simp only [cond_true, cond_false, Bool.and_true, Bool.true_and, Bool.and_false, Bool.false_and]; done) | rfl
    · skip
      revert hg
      generalize ((((okS a0 && planB a0 a1 n_a1x2 a1x2)) != ((spec_ValidPlan_v0 a0 a1 none n_a1x2 a1x2)))) = b6
      intro hg
      cases b6
      · skip
        revert hg
        generalize ((!((laws_eqPlan_v0 a1 a1 none n_a1x2 a1x2 none n_a1x2 a1x2)))) = b8
        intro hg
        cases b8
        · skip
          first | (simp only [cond_true, cond_false, Bool.and_true, Bool.true_and, Bool.and_false, Bool.false_and]; done) | rfl | exact (nomatch (hg : false = true))
        · skip
          first | (simp only [cond_true, cond_false, Bool.and_true, Bool.true_and, Bool.and_false, Bool.false_and]; done) | rfl | exact (nomatch (hg : false = true))
      · skip
        first | (simp only [cond_true, cond_false, Bool.and_true, Bool.true_and, Bool.and_false, Bool.false_and]; done) | rfl | exact (nomatch (hg : false = true))
  · skip
    first | (simp only [cond_true, cond_false, Bool.and_true, Bool.true_and, Bool.and_false, Bool.false_and]; done) | rfl | exact (nomatch (hg : false = true))
noncomputable def laws_FnExactValidPlan_con : Con := fun args h => match args, h with
  | [.g a0 28, .r a1 31 [(2, 0)]], [.sl (.came b_a1x2) n_a1x2 a1x2 91] => some (.a (.b ((laws_FnExactValidPlan_v0 a0 a1 b_a1x2 n_a1x2 a1x2))), .none, (laws_FnExactValidPlan_gd a0 a1 b_a1x2 n_a1x2 a1x2))
  | _, _ => none
theorem laws_FnExactValidPlan_enter : ∀ args w, (callFunc 3 args).run Try.prog w = .ok (.enter 3 args) w := enter_ok (fn := Try.f3) (by kernel_rfl) (by kernel_rfl) (by kernel_rfl)
theorem laws_FnExactValidPlan_ok : ConOk Try.prog 3 laws_FnExactValidPlan_con := (ans_ok (N := 1000) (by kernel_rfl) (mkΓ_cons (con_ok laws_szPlan_ok) laws_szPlan_enter (mkΓ_cons (con_ok spec_ValidPlan_ok) spec_ValidPlan_enter (mkΓ_cons (con_ok laws_toSea_ok) laws_toSea_enter (mkΓ_cons (con_ok laws_toPlan_ok) laws_toPlan_enter (mkΓ_cons (con_ok impl_ValidPlan_ok) impl_ValidPlan_enter (mkΓ_cons (con_ok laws_eqPlan_ok) laws_eqPlan_enter mkΓ_nil)))))) (fn := Try.f3) (by kernel_rfl) (by kernel_rfl) []).of (by
  intro ρ h w args vals r e hA hH hr
  unfold laws_FnExactValidPlan_con at hr
  split at hr
  · rename_i a0 a1 b_a1x2 n_a1x2 a1x2
    obtain ⟨rfl, hg⟩ := Prod.mk.inj (Option.some.inj hr)
    obtain ⟨rfl, hg2⟩ := Prod.mk.inj hg
    exact laws_FnExactValidPlan_main a0 a1 b_a1x2 n_a1x2 a1x2 (hA.wt 0 rfl) (hA.wtr 1 rfl) (hH.slw 0 rfl) hg2
  · cases hr)


theorem szP (b : Int) (p : Array Value) (bb : Option (Option Addr)) (n : Nat) (A : Array Value) (h1 : -1 ≤ b) (h2 : b ≤ 1048576) (h3 : n ≤ 9223372036854775807) : laws_szPlan_v0 p b bb n A = if b - (n : Int) < 0 then -1 else b - (n : Int) := by
  unfold laws_szPlan_v0 laws_szReleaseS_v0
  rw [IntWalk.i64_in (b - (n : Int)) (by omega)]
  by_cases h : b - (n : Int) < 0
  · rw [if_pos h, decide_eq_true h]; rfl
  · rw [if_neg h, decide_eq_false h]
    simp only [cond_false, decide_eq_false h]
theorem eqP (p : Array Value) (n : Nat) (A : Array Value) : laws_eqPlan_v0 p p none n A none n A = true := by
  unfold laws_eqPlan_v0
  simp only [bne_self_eq_false, cond_false, sameB_self, decide_true, Bool.and_self, Bool.not_true]

theorem laws_FnExactValidPlan_true (a0 : Array Value) (a1 : Array Value) (b_a1x2 : Option (Option Addr)) (n_a1x2 : Nat) (a1x2 : Array Value) (h_a0 : WT Try.prog 28 a0) (h_a1 : WT Try.prog 31 a1) (h_a1x2 : n_a1x2 ≤ 9223372036854775807) : ((laws_FnExactValidPlan_gd a0 a1 b_a1x2 n_a1x2 a1x2)) = true ∧ ((laws_FnExactValidPlan_v0 a0 a1 b_a1x2 n_a1x2 a1x2)) = true := by
  have e1 : spec_ValidPlan_v0 a0 a1 none n_a1x2 a1x2 = (okS a0 && planB a0 a1 n_a1x2 a1x2) := by
    unfold spec_ValidPlan_v0
    cases okS a0 <;> rfl
  unfold laws_FnExactValidPlan_gd laws_FnExactValidPlan_v0
  rw [e1, eqP, szP _ a1 _ n_a1x2 a1x2 (by omega) (by omega) h_a1x2]
  simp only [bne_self_eq_false, cond_false, Bool.not_true]
  by_cases h : (1048576 : Int) - (n_a1x2 : Int) < 0
  · rw [if_pos h]; exact ⟨rfl, rfl⟩
  · rw [if_neg h, decide_eq_false h, decide_eq_true (show n_a1x2 ≤ 1048576 by omega)]
    exact ⟨rfl, rfl⟩

namespace lawFnExactValidPlan
theorem lifted (os : Os) (started : os.Started) (H : Type) (enc : TypeId × Value → H) :
    ReturnsInHanded {} Try.checked os 3 .any (Rows.fnExactValidPlanSpec.pre6 enc Try.prog Try.f3 Rows.fnExactValidPlanRow.domain false) (Rows.fnExactValidPlanSpec.post enc Try.prog Try.f3 false true false false) := by
  refine law_lifted (C := Try.checked) (tb := 4) (by kernel_rfl) (by kernel_rfl) (by kernel_rfl) Try.func3 (by kernel_rfl) Try.underlying4 (of_decide_eq_true (by kernel_rfl)) rfl ?_ os started H enc
    (ChangeSpec.witness6 (enc := enc) (C := Try.checked) false ⟨#[], #[.agg (zc Try.prog 28), .agg (zc Try.prog 31)], []⟩ 8 (by kernel_rfl) (by kernel_rfl) (by kernel_rfl) (by kernel_rfl)) ?_
  · intro H ds hds
    rw [show Try.f3.params.toList.length = 2 by kernel_rfl] at hds
    match ds, hds with
    | [_, _], _ => rfl
  · intro W base args ds ps hval hA
    rw [Try.params3] at hA hval
    obtain ⟨v0, v1, d0, d1, p0, p1, hargs, rfl, rfl, h0, h1⟩ := trodAll_two hA
    obtain ⟨a0, e0, w0⟩ := open_data (t := 28) 8 (by kernel_rfl) (by kernel_rfl) (hval 0 28 v0 rfl (by rw [hargs]; rfl)) h0
    obtain ⟨x_a1x2, n_a1x2, c_a1x2, a1x2, a1, D_a1, e1, s1, w1, z11, z12, z13, z14⟩ := open_rsl (P := Try.prog) (t := 31) (e := 91) (ts := 29) 8 2 2 Try.underlying31 (by kernel_rfl) (by kernel_rfl) (by kernel_rfl) (by kernel_rfl) Try.underlying29 (by kernel_rfl) (by kernel_rfl) (Nat.lt_of_lt_of_eq (by decide : 0 < 3) (by kernel_rfl)) (hval 1 31 v1 rfl (by rw [hargs]; rfl)) h1
    obtain rfl : args = #[.agg a0, .agg D_a1] := by rw [hargs, e0, e1]
    obtain ⟨hg, hv⟩ := laws_FnExactValidPlan_true a0 a1 (some x_a1x2) n_a1x2 a1x2 w0 w1 s1.2.2.1
    have hr : laws_FnExactValidPlan_con [.g a0 28, .r a1 31 [(2, 0)]] [.sl (.came (some x_a1x2)) n_a1x2 a1x2 91] = some (.a (.b true), .none, true) := by
      show (some (SV.a (SA.b ((laws_FnExactValidPlan_v0 a0 a1 (some x_a1x2) n_a1x2 a1x2))), Eff.none, (laws_FnExactValidPlan_gd a0 a1 (some x_a1x2) n_a1x2 a1x2)) : Option (SV × Eff × Bool)) = _
      rw [hg, hv]
    exact calls_con2 laws_FnExactValidPlan_ok hr W (vals := [.agg a0, .agg D_a1]) (SlL.no (P := Try.prog) (W := W) (.cons s1 .nil)) (SlL.his (P := Try.prog) (.cons s1 .nil)) (allCons2 ⟨rfl, w0⟩ (allCons2 (is_rsl rfl w1 z11 z12 z13 z14) (allNil2 _)))

theorem over : Rows.fnExactValidPlanRow.holds Try.pinned (OpenSpec.ofChange Rows.fnExactValidPlanSpec) :=
  OpenClaim.holds_of_wide 3 Try.f3 rfl rfl rfl rfl rfl rfl rfl ⟨rfl, rfl, rfl, rfl, rfl⟩ rfl rfl rfl rfl rfl (by kernel_rfl) Try.func3 (by kernel_rfl)
    (of_decide_eq_true (by kernel_rfl)) (by unfold Func.isWrapper; first | (rw [if_pos (by decide +kernel)]; kernel_rfl) | (rw [if_neg (by decide +kernel)]; exact ⟨rfl, rfl⟩))
    (fun os started H enc _ => lifted os started H enc)

theorem proved : Rows.FnExactValidPlanSaid := over
#print axioms proved
end lawFnExactValidPlan

end
end Go.Proofs.Ythpcidnfbceliaa
