/- For every sea and spread spec and program count the same stranded parts. -/
import Derived.Test.YtjihfoifdloaeaaRows
import Derived.Test.YtjihfoifdloaeaaChecked
import Derived.Test.YtjihfoifdloaeaaBase
import Derived.Test.YtjihfoifdloaeaaVeSpreadC
namespace Go.Proofs.Ytjihfoifdloaeaa
open Go.ChangeShapes Go.WideShapes Go.ChangeAt Go.RowKit Ve
set_option linter.unusedVariables false
set_option linter.unusedSimpArgs false
set_option maxRecDepth 100000
noncomputable section
theorem spec_StrandedIn_ans (N : Nat) (a0 : Array Value) (a1 : Array Value) : ansV Try.prog (mkΓ [(65, con spec_l02Asked_con), (66, con spec_l02Sum_con)]) N Try.f28 [] [.g a0 40, .g a1 42] [] = (bif ((spec_l02Asked_v0 a0 a1) != (0 : Int)) then (some (.t [.i .i64 (0 : Int), .i .i64 (spec_l02Asked_v0 a0 a1)], .none, true))
    else (some (.t [.i .i64 (maskW (bitS (num a0 2)) a1 36), .i .i64 (0 : Int)], .none, true))) := by kernel_rfl

noncomputable def spec_StrandedIn_v0 (a0 : Array Value) (a1 : Array Value) : Int := (bif ((spec_l02Asked_v0 a0 a1) != (0 : Int)) then (0 : Int) else (maskW (bitS (num a0 2)) a1 36))
noncomputable def spec_StrandedIn_v1 (a0 : Array Value) (a1 : Array Value) : Int := (bif ((spec_l02Asked_v0 a0 a1) != (0 : Int)) then (spec_l02Asked_v0 a0 a1) else (0 : Int))

theorem spec_StrandedIn_main (a0 : Array Value) (a1 : Array Value) (h_a0 : WT Try.prog 40 a0) (h_a1 : WT Try.prog 42 a1) (hg : (true) = true) : ansV Try.prog (mkΓ [(65, con spec_l02Asked_con), (66, con spec_l02Sum_con)]) 1000 Try.f28 [] [.g a0 40, .g a1 42] [] = some (.t [.i .i64 (spec_StrandedIn_v0 a0 a1), .i .i64 (spec_StrandedIn_v1 a0 a1)], .none, true) := by
  refine (spec_StrandedIn_ans 1000 a0 a1).trans ?_
  unfold spec_StrandedIn_v0 spec_StrandedIn_v1
  revert hg
  generalize (((spec_l02Asked_v0 a0 a1) != (0 : Int))) = b2
  intro hg
  cases b2
  · skip
    first | (simp only [cond_true, cond_false, Bool.and_true, Bool.true_and, Bool.and_false, Bool.false_and]; done) | rfl | exact (nomatch (hg : false = true))
  · skip
    first | (simp only [cond_true, cond_false, Bool.and_true, Bool.true_and, Bool.and_false, Bool.false_and]; done) | rfl | exact (nomatch (hg : false = true))
noncomputable def spec_StrandedIn_con : Con := fun args h => match args, h with
  | [.g a0 40, .g a1 42], [] => some (.t [.i .i64 (spec_StrandedIn_v0 a0 a1), .i .i64 (spec_StrandedIn_v1 a0 a1)], .none, true)
  | _, _ => none
theorem spec_StrandedIn_enter : ∀ args w, (callFunc 28 args).run Try.prog w = .ok (.enter 28 args) w := enter_ok (fn := Try.f28) (by kernel_rfl) (by kernel_rfl) (by kernel_rfl)
theorem spec_StrandedIn_ok : ConOk Try.prog 28 spec_StrandedIn_con := (ans_ok (N := 1000) (by kernel_rfl) (mkΓ_cons (con_ok spec_l02Asked_ok) spec_l02Asked_enter (mkΓ_cons (con_ok spec_l02Sum_ok) spec_l02Sum_enter mkΓ_nil)) (fn := Try.f28) (by kernel_rfl) (by kernel_rfl) []).of (by
  intro ρ h w args vals r e hA hH hr
  unfold spec_StrandedIn_con at hr
  split at hr
  · rename_i a0 a1
    obtain ⟨rfl, hg⟩ := Prod.mk.inj (Option.some.inj hr)
    obtain ⟨rfl, hg2⟩ := Prod.mk.inj hg
    exact spec_StrandedIn_main a0 a1 (hA.wt 0 rfl) (hA.wt 1 rfl) hg2
  · cases hr)

theorem impl_StrandedIn_ans (N : Nat) (a0 : Array Value) (a1 : Array Value) : ansV Try.prog (mkΓ [(67, con impl_spreadCode_con), (68, con impl_amountIn_con)]) N Try.f29 [] [.g a0 40, .g a1 42] [] = (bif (impl_ValidSpread_gd a0 a1) then (bif ((impl_spreadCode_v0 a0 a1) != (0 : Int)) then (some (.t [.i .i64 (0 : Int), .i .i64 (impl_spreadCode_v0 a0 a1)], .none, true))
      else (some (.t [.i .i64 (maskW (bitI (num a0 2)) a1 36), .i .i64 (0 : Int)], .none, true)))
    else (none)) := by kernel_rfl

noncomputable def impl_StrandedIn_v0 (a0 : Array Value) (a1 : Array Value) : Int := (bif ((impl_spreadCode_v0 a0 a1) != (0 : Int)) then (0 : Int) else (maskW (bitI (num a0 2)) a1 36))
noncomputable def impl_StrandedIn_v1 (a0 : Array Value) (a1 : Array Value) : Int := (bif ((impl_spreadCode_v0 a0 a1) != (0 : Int)) then (impl_spreadCode_v0 a0 a1) else (0 : Int))

theorem impl_StrandedIn_main (a0 : Array Value) (a1 : Array Value) (h_a0 : WT Try.prog 40 a0) (h_a1 : WT Try.prog 42 a1) (hg : ((impl_ValidSpread_gd a0 a1)) = true) : ansV Try.prog (mkΓ [(67, con impl_spreadCode_con), (68, con impl_amountIn_con)]) 1000 Try.f29 [] [.g a0 40, .g a1 42] [] = some (.t [.i .i64 (impl_StrandedIn_v0 a0 a1), .i .i64 (impl_StrandedIn_v1 a0 a1)], .none, true) := by
  refine (impl_StrandedIn_ans 1000 a0 a1).trans ?_
  unfold impl_StrandedIn_v0 impl_StrandedIn_v1
  revert hg
  generalize ((impl_ValidSpread_gd a0 a1)) = b2
  intro hg
  cases b2
  · skip
    first | exact (nomatch (hg : false = true)) | (simp only [cond_true, cond_false, Bool.and_true, Bool.true_and, Bool.and_false, Bool.false_and]; done) | rfl
  · skip
    revert hg
    generalize (((impl_spreadCode_v0 a0 a1) != (0 : Int))) = b4
    intro hg
    cases b4
    · skip
      first | (simp only [cond_true, cond_false, Bool.and_true, Bool.true_and, Bool.and_false, Bool.false_and]; done) | rfl | exact (nomatch (hg : false = true))
    · skip
      first | (simp only [cond_true, cond_false, Bool.and_true, Bool.true_and, Bool.and_false, Bool.false_and]; done) | rfl | exact (nomatch (hg : false = true))
noncomputable def impl_StrandedIn_con : Con := fun args h => match args, h with
  | [.g a0 40, .g a1 42], [] => some (.t [.i .i64 (impl_StrandedIn_v0 a0 a1), .i .i64 (impl_StrandedIn_v1 a0 a1)], .none, (impl_ValidSpread_gd a0 a1))
  | _, _ => none
theorem impl_StrandedIn_enter : ∀ args w, (callFunc 29 args).run Try.prog w = .ok (.enter 29 args) w := enter_ok (fn := Try.f29) (by kernel_rfl) (by kernel_rfl) (by kernel_rfl)
theorem impl_StrandedIn_ok : ConOk Try.prog 29 impl_StrandedIn_con := (ans_ok (N := 1000) (by kernel_rfl) (mkΓ_cons (con_ok impl_spreadCode_ok) impl_spreadCode_enter (mkΓ_cons (con_ok impl_amountIn_ok) impl_amountIn_enter mkΓ_nil)) (fn := Try.f29) (by kernel_rfl) (by kernel_rfl) []).of (by
  intro ρ h w args vals r e hA hH hr
  unfold impl_StrandedIn_con at hr
  split at hr
  · rename_i a0 a1
    obtain ⟨rfl, hg⟩ := Prod.mk.inj (Option.some.inj hr)
    obtain ⟨rfl, hg2⟩ := Prod.mk.inj hg
    exact impl_StrandedIn_main a0 a1 (hA.wt 0 rfl) (hA.wt 1 rfl) hg2
  · cases hr)

theorem laws_FnExactStrandedIn_ans (N : Nat) (a0 : Array Value) (a1 : Array Value) : ansV Try.prog (mkΓ [(18, con laws_toSea_con), (19, con laws_toSpread_con), (28, con spec_StrandedIn_con), (29, con impl_StrandedIn_con)]) N Try.f8 [] [.g a0 31, .g a1 34] [] = (bif (impl_ValidSpread_gd a0 a1) then (bif ((impl_StrandedIn_v0 a0 a1) != (spec_StrandedIn_v0 a0 a1)) then (some (.a (.b (false)), .none, true))
      else (bif ((impl_StrandedIn_v1 a0 a1) != (spec_StrandedIn_v1 a0 a1)) then (some (.a (.b (false)), .none, true))
        else (some (.a (.b (true)), .none, true))))
    else (none)) := by kernel_rfl

noncomputable def laws_FnExactStrandedIn_v0 (a0 : Array Value) (a1 : Array Value) : Bool := (bif ((impl_StrandedIn_v0 a0 a1) != (spec_StrandedIn_v0 a0 a1)) then false else (bif ((impl_StrandedIn_v1 a0 a1) != (spec_StrandedIn_v1 a0 a1)) then false else true))

theorem laws_FnExactStrandedIn_main (a0 : Array Value) (a1 : Array Value) (h_a0 : WT Try.prog 31 a0) (h_a1 : WT Try.prog 34 a1) (hg : ((impl_ValidSpread_gd a0 a1)) = true) : ansV Try.prog (mkΓ [(18, con laws_toSea_con), (19, con laws_toSpread_con), (28, con spec_StrandedIn_con), (29, con impl_StrandedIn_con)]) 1000 Try.f8 [] [.g a0 31, .g a1 34] [] = some (.a (.b ((laws_FnExactStrandedIn_v0 a0 a1))), .none, true) := by
  refine (laws_FnExactStrandedIn_ans 1000 a0 a1).trans ?_
  unfold laws_FnExactStrandedIn_v0
  revert hg
  generalize ((impl_ValidSpread_gd a0 a1)) = b2
  intro hg
  cases b2
  · skip
    first | exact (nomatch (hg : false = true)) | (simp only [cond_true, cond_false, Bool.and_true, Bool.true_and, Bool.and_false, Bool.false_and]; done) | rfl
  · skip
    revert hg
    generalize (((impl_StrandedIn_v0 a0 a1) != (spec_StrandedIn_v0 a0 a1))) = b4
    intro hg
    cases b4
    · skip
      revert hg
      generalize (((impl_StrandedIn_v1 a0 a1) != (spec_StrandedIn_v1 a0 a1))) = b6
      intro hg
      cases b6
      · skip
        first | (simp only [cond_true, cond_false, Bool.and_true, Bool.true_and, Bool.and_false, Bool.false_and]; done) | rfl | exact (nomatch (hg : false = true))
      · skip
        first | (simp only [cond_true, cond_false, Bool.and_true, Bool.true_and, Bool.and_false, Bool.false_and]; done) | rfl | exact (nomatch (hg : false = true))
    · skip
      first | (simp only [cond_true, cond_false, Bool.and_true, Bool.true_and, Bool.and_false, Bool.false_and]; done) | rfl | exact (nomatch (hg : false = true))
noncomputable def laws_FnExactStrandedIn_con : Con := fun args h => match args, h with
  | [.g a0 31, .g a1 34], [] => some (.a (.b ((laws_FnExactStrandedIn_v0 a0 a1))), .none, (impl_ValidSpread_gd a0 a1))
  | _, _ => none
theorem laws_FnExactStrandedIn_enter : ∀ args w, (callFunc 8 args).run Try.prog w = .ok (.enter 8 args) w := enter_ok (fn := Try.f8) (by kernel_rfl) (by kernel_rfl) (by kernel_rfl)
theorem laws_FnExactStrandedIn_ok : ConOk Try.prog 8 laws_FnExactStrandedIn_con := (ans_ok (N := 1000) (by kernel_rfl) (mkΓ_cons (con_ok laws_toSea_ok) laws_toSea_enter (mkΓ_cons (con_ok laws_toSpread_ok) laws_toSpread_enter (mkΓ_cons (con_ok spec_StrandedIn_ok) spec_StrandedIn_enter (mkΓ_cons (con_ok impl_StrandedIn_ok) impl_StrandedIn_enter mkΓ_nil)))) (fn := Try.f8) (by kernel_rfl) (by kernel_rfl) []).of (by
  intro ρ h w args vals r e hA hH hr
  unfold laws_FnExactStrandedIn_con at hr
  split at hr
  · rename_i a0 a1
    obtain ⟨rfl, hg⟩ := Prod.mk.inj (Option.some.inj hr)
    obtain ⟨rfl, hg2⟩ := Prod.mk.inj hg
    exact laws_FnExactStrandedIn_main a0 a1 (hA.wt 0 rfl) (hA.wt 1 rfl) hg2
  · cases hr)

theorem laws_FnExactStrandedIn_true (a0 : Array Value) (a1 : Array Value) (h_a0 : WT Try.prog 31 a0) (h_a1 : WT Try.prog 34 a1) : ((impl_ValidSpread_gd a0 a1)) = true ∧ ((laws_FnExactStrandedIn_v0 a0 a1)) = true := by
  have hm := wt_land lay_lawsea h_a0
  have e0 : impl_StrandedIn_v0 a0 a1 = spec_StrandedIn_v0 a0 a1 := by
    unfold impl_StrandedIn_v0 spec_StrandedIn_v0
    rw [asked_eq, maskW_congr 36 fun k hk => bit_eq hm hk]
  have e1 : impl_StrandedIn_v1 a0 a1 = spec_StrandedIn_v1 a0 a1 := by
    unfold impl_StrandedIn_v1 spec_StrandedIn_v1
    rw [asked_eq]
  refine ⟨?_, ?_⟩
  · first | rfl | exact (valid_spread a0 a1).2
  · unfold laws_FnExactStrandedIn_v0
    rw [e0, e1]
    simp only [bne_self_eq_false, cond_false]

namespace lawFnExactStrandedIn
theorem lifted (os : Os) (started : os.Started) (H : Type) (enc : TypeId × Value → H) :
    ReturnsInHanded {} Try.checked os 8 .any (Rows.fnExactStrandedInSpec.pre6 enc Try.prog Try.f8 Rows.fnExactStrandedInRow.domain false) (Rows.fnExactStrandedInSpec.post enc Try.prog Try.f8 false true false false) := by
  refine law_lifted (C := Try.checked) (tb := 4) (by kernel_rfl) (by kernel_rfl) (by kernel_rfl) Try.func8 (by kernel_rfl) Try.underlying4 (of_decide_eq_true (by kernel_rfl)) rfl ?_ os started H enc
    (ChangeSpec.witness6 (enc := enc) (C := Try.checked) false ⟨#[], #[.agg (zc Try.prog 31), .agg (zc Try.prog 34)], []⟩ 8 (by kernel_rfl) (by kernel_rfl) (by kernel_rfl) (by kernel_rfl)) ?_
  · intro H ds hds
    rw [show Try.f8.params.toList.length = 2 by kernel_rfl] at hds
    match ds, hds with
    | [_, _], _ => rfl
  · intro W base args ds ps hval hA
    rw [Try.params8] at hA hval
    obtain ⟨v0, v1, d0, d1, p0, p1, hargs, rfl, rfl, h0, h1⟩ := trodAll_two hA
    obtain ⟨a0, e0, w0⟩ := open_data (t := 31) 8 (by kernel_rfl) (by kernel_rfl) (hval 0 31 v0 rfl (by rw [hargs]; rfl)) h0
    obtain ⟨a1, e1, w1⟩ := open_data (t := 34) 8 (by kernel_rfl) (by kernel_rfl) (hval 1 34 v1 rfl (by rw [hargs]; rfl)) h1
    obtain rfl : args = #[.agg a0, .agg a1] := by rw [hargs, e0, e1]
    obtain ⟨hg, hv⟩ := laws_FnExactStrandedIn_true a0 a1 w0 w1
    have hr : laws_FnExactStrandedIn_con [.g a0 31, .g a1 34] [] = some (.a (.b true), .none, true) := by
      show (some (SV.a (SA.b ((laws_FnExactStrandedIn_v0 a0 a1))), Eff.none, (impl_ValidSpread_gd a0 a1)) : Option (SV × Eff × Bool)) = _
      rw [hg, hv]
    exact calls_con laws_FnExactStrandedIn_ok hr W (vals := [.agg a0, .agg a1]) (allCons ⟨rfl, w0⟩ (allCons ⟨rfl, w1⟩ allNil))

theorem over : Rows.fnExactStrandedInRow.holds Try.pinned (OpenSpec.ofChange Rows.fnExactStrandedInSpec) :=
  OpenClaim.holds_of_wide 8 Try.f8 rfl rfl rfl rfl rfl rfl rfl ⟨rfl, rfl, rfl, rfl, rfl⟩ rfl rfl rfl rfl rfl (by kernel_rfl) Try.func8 (by kernel_rfl)
    (of_decide_eq_true (by kernel_rfl)) (by unfold Func.isWrapper; first | (rw [if_pos (by decide +kernel)]; kernel_rfl) | (rw [if_neg (by decide +kernel)]; exact ⟨rfl, rfl⟩))
    (fun os started H enc _ => lifted os started H enc)

theorem proved : Rows.FnExactStrandedInSaid := over
#print axioms proved
end lawFnExactStrandedIn

end
end Go.Proofs.Ytjihfoifdloaeaa
