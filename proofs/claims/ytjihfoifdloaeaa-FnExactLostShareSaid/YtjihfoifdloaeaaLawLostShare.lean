/- For every sea and spread spec and program answer the same share of what is lost. -/
import Derived.Test.YtjihfoifdloaeaaRows
import Derived.Test.YtjihfoifdloaeaaChecked
import Derived.Test.YtjihfoifdloaeaaBase
import Derived.Test.YtjihfoifdloaeaaVeShare
namespace Go.Proofs.Ytjihfoifdloaeaa
open Go.ChangeShapes Go.WideShapes Go.ChangeAt Go.RowKit Ve
set_option linter.unusedVariables false
set_option linter.unusedSimpArgs false
set_option maxRecDepth 100000
noncomputable section
theorem spec_LostShare_ans (N : Nat) (a0 : Array Value) (a1 : Array Value) : ansV Try.prog (mkΓ [(65, con spec_l02Asked_con), (70, con spec_l02Share_con), (71, con spec_l02All_con)]) N Try.f33 [] [.g a0 40, .g a1 42] [] = (bif ((spec_l02Asked_v0 a0 a1) != (0 : Int)) then (some (.t [.g #[.int .i64 (0 : Int), .int .i64 (0 : Int)] 53, .i .i64 (spec_l02Asked_v0 a0 a1)], .none, true))
    else (bif (spec_l02All_gd a1) then (bif (spec_l02Share_gd (num a1 39) (spec_l02All_v0 a1)) then (some (.t [.g #[.int .i64 (IntKind.i64.wrap (((num a1 39)).tdiv (gcdW (num a1 39) (spec_l02All_v0 a1)))), .int .i64 (IntKind.i64.wrap (((spec_l02All_v0 a1)).tdiv (gcdW (num a1 39) (spec_l02All_v0 a1))))] 53, .i .i64 (0 : Int)], .none, true))
        else (none))
      else (none))) := by kernel_rfl

noncomputable def spec_LostShare_v0 (a0 : Array Value) (a1 : Array Value) : Array Value := (bif ((spec_l02Asked_v0 a0 a1) != (0 : Int)) then (#[.int .i64 (0 : Int), .int .i64 (0 : Int)] : Array Value) else (#[.int .i64 (IntKind.i64.wrap (((num a1 39)).tdiv (gcdW (num a1 39) (spec_l02All_v0 a1)))), .int .i64 (IntKind.i64.wrap (((spec_l02All_v0 a1)).tdiv (gcdW (num a1 39) (spec_l02All_v0 a1))))] : Array Value))
noncomputable def spec_LostShare_v1 (a0 : Array Value) (a1 : Array Value) : Int := (bif ((spec_l02Asked_v0 a0 a1) != (0 : Int)) then (spec_l02Asked_v0 a0 a1) else (0 : Int))
noncomputable def spec_LostShare_gd (a0 : Array Value) (a1 : Array Value) : Bool := (bif ((spec_l02Asked_v0 a0 a1) != (0 : Int)) then true else (bif (spec_l02All_gd a1) then (spec_l02Share_gd (num a1 39) (spec_l02All_v0 a1)) else false))

theorem spec_LostShare_main (a0 : Array Value) (a1 : Array Value) (h_a0 : WT Try.prog 40 a0) (h_a1 : WT Try.prog 42 a1) (hg : ((spec_LostShare_gd a0 a1)) = true) : ansV Try.prog (mkΓ [(65, con spec_l02Asked_con), (70, con spec_l02Share_con), (71, con spec_l02All_con)]) 1000 Try.f33 [] [.g a0 40, .g a1 42] [] = some (.t [.g (spec_LostShare_v0 a0 a1) 53, .i .i64 (spec_LostShare_v1 a0 a1)], .none, true) := by
  refine (spec_LostShare_ans 1000 a0 a1).trans ?_
  unfold spec_LostShare_gd at hg
  unfold spec_LostShare_v0 spec_LostShare_v1
  revert hg
  generalize (((spec_l02Asked_v0 a0 a1) != (0 : Int))) = b2
  intro hg
  cases b2
  · skip
    revert hg
    generalize ((spec_l02All_gd a1)) = b4
    intro hg
    cases b4
    · skip
      first | exact (nomatch (hg : false = true)) | (simp only [cond_true, cond_false, Bool.and_true, Bool.true_and, Bool.and_false, Bool.false_and]; done) | rfl
    · skip
      revert hg
      generalize ((spec_l02Share_gd (num a1 39) (spec_l02All_v0 a1))) = b6
      intro hg
      cases b6
      · skip
        first | exact (nomatch (hg : false = true)) | (simp only [cond_true, cond_false, Bool.and_true, Bool.true_and, Bool.and_false, Bool.false_and]; done) | rfl
      · skip
        first | (simp only [cond_true, cond_false, Bool.and_true, Bool.true_and, Bool.and_false, Bool.false_and]; done) | rfl | exact (nomatch (hg : false = true))
  · skip
    first | (simp only [cond_true, cond_false, Bool.and_true, Bool.true_and, Bool.and_false, Bool.false_and]; done) | rfl | exact (nomatch (hg : false = true))
noncomputable def spec_LostShare_con : Con := fun args h => match args, h with
  | [.g a0 40, .g a1 42], [] => some (.t [.g (spec_LostShare_v0 a0 a1) 53, .i .i64 (spec_LostShare_v1 a0 a1)], .none, (spec_LostShare_gd a0 a1))
  | _, _ => none
theorem spec_LostShare_enter : ∀ args w, (callFunc 33 args).run Try.prog w = .ok (.enter 33 args) w := enter_ok (fn := Try.f33) (by kernel_rfl) (by kernel_rfl) (by kernel_rfl)
theorem spec_LostShare_ok : ConOk Try.prog 33 spec_LostShare_con := (ans_ok (N := 1000) (by kernel_rfl) (mkΓ_cons (con_ok spec_l02Asked_ok) spec_l02Asked_enter (mkΓ_cons (con_ok spec_l02Share_ok) spec_l02Share_enter (mkΓ_cons (con_ok spec_l02All_ok) spec_l02All_enter mkΓ_nil))) (fn := Try.f33) (by kernel_rfl) (by kernel_rfl) []).of (by
  intro ρ h w args vals r e hA hH hr
  unfold spec_LostShare_con at hr
  split at hr
  · rename_i a0 a1
    obtain ⟨rfl, hg⟩ := Prod.mk.inj (Option.some.inj hr)
    obtain ⟨rfl, hg2⟩ := Prod.mk.inj hg
    exact spec_LostShare_main a0 a1 (hA.wt 0 rfl) (hA.wt 1 rfl) hg2
  · cases hr)

theorem impl_LostShare_ans (N : Nat) (a0 : Array Value) (a1 : Array Value) : ansV Try.prog (mkΓ [(67, con impl_spreadCode_con), (72, con impl_shareOf_con), (73, con impl_allOf_con)]) N Try.f34 [] [.g a0 40, .g a1 42] [] = (bif (impl_ValidSpread_gd a0 a1) then (bif ((impl_spreadCode_v0 a0 a1) != (0 : Int)) then (some (.t [.g #[.int .i64 (0 : Int), .int .i64 (0 : Int)] 53, .i .i64 (impl_spreadCode_v0 a0 a1)], .none, true))
      else (bif (impl_allOf_gd a1) then (bif (impl_shareOf_gd (num a1 39) (impl_allOf_v0 a1)) then (some (.t [.g (impl_shareOf_v0 (num a1 39) (impl_allOf_v0 a1)) 53, .i .i64 (0 : Int)], .none, true))
          else (none))
        else (none)))
    else (none)) := by kernel_rfl

noncomputable def impl_LostShare_v0 (a0 : Array Value) (a1 : Array Value) : Array Value := (bif ((impl_spreadCode_v0 a0 a1) != (0 : Int)) then (#[.int .i64 (0 : Int), .int .i64 (0 : Int)] : Array Value) else (impl_shareOf_v0 (num a1 39) (impl_allOf_v0 a1)))
noncomputable def impl_LostShare_v1 (a0 : Array Value) (a1 : Array Value) : Int := (bif ((impl_spreadCode_v0 a0 a1) != (0 : Int)) then (impl_spreadCode_v0 a0 a1) else (0 : Int))
noncomputable def impl_LostShare_gd (a0 : Array Value) (a1 : Array Value) : Bool := (bif (impl_ValidSpread_gd a0 a1) then (bif ((impl_spreadCode_v0 a0 a1) != (0 : Int)) then true else (bif (impl_allOf_gd a1) then (impl_shareOf_gd (num a1 39) (impl_allOf_v0 a1)) else false)) else false)

theorem impl_LostShare_main (a0 : Array Value) (a1 : Array Value) (h_a0 : WT Try.prog 40 a0) (h_a1 : WT Try.prog 42 a1) (hg : ((impl_LostShare_gd a0 a1)) = true) : ansV Try.prog (mkΓ [(67, con impl_spreadCode_con), (72, con impl_shareOf_con), (73, con impl_allOf_con)]) 1000 Try.f34 [] [.g a0 40, .g a1 42] [] = some (.t [.g (impl_LostShare_v0 a0 a1) 53, .i .i64 (impl_LostShare_v1 a0 a1)], .none, true) := by
  refine (impl_LostShare_ans 1000 a0 a1).trans ?_
  unfold impl_LostShare_gd at hg
  unfold impl_LostShare_v0 impl_LostShare_v1
  revert hg
  generalize ((impl_ValidSpread_gd a0 a1)) = b2
  intro hg
  cases b2
  · skip
    first | exact (nomatch (hg : false = true)) | (simp only [cond_true, cond_false, Bool.and_true, Bool.true_and, Bool.and_false, Bool.false_and]; done) | rfl
  · skip
    revert hg
    generalize (((impl_spreadCode_v0 a0 a1) != (0 : Int))) = b4
    intro hg
    cases b4
    · skip
      revert hg
      generalize ((impl_allOf_gd a1)) = b6
      intro hg
      cases b6
      · skip
        first | exact (nomatch (hg : false = true)) | (simp only [cond_true, cond_false, Bool.and_true, Bool.true_and, Bool.and_false, Bool.false_and]; done) | rfl
      · skip
        revert hg
        generalize ((impl_shareOf_gd (num a1 39) (impl_allOf_v0 a1))) = b8
        intro hg
        cases b8
        · skip
          first | exact (nomatch (hg : false = true)) | (simp only [cond_true, cond_false, Bool.and_true, Bool.true_and, Bool.and_false, Bool.false_and]; done) | rfl
        · skip
          first | (simp only [cond_true, cond_false, Bool.and_true, Bool.true_and, Bool.and_false, Bool.false_and]; done) | rfl | exact (nomatch (hg : false = true))
    · skip
      first | (simp only [cond_true, cond_false, Bool.and_true, Bool.true_and, Bool.and_false, Bool.false_and]; done) | rfl | exact (nomatch (hg : false = true))
noncomputable def impl_LostShare_con : Con := fun args h => match args, h with
  | [.g a0 40, .g a1 42], [] => some (.t [.g (impl_LostShare_v0 a0 a1) 53, .i .i64 (impl_LostShare_v1 a0 a1)], .none, (impl_LostShare_gd a0 a1))
  | _, _ => none
theorem impl_LostShare_enter : ∀ args w, (callFunc 34 args).run Try.prog w = .ok (.enter 34 args) w := enter_ok (fn := Try.f34) (by kernel_rfl) (by kernel_rfl) (by kernel_rfl)
theorem impl_LostShare_ok : ConOk Try.prog 34 impl_LostShare_con := (ans_ok (N := 1000) (by kernel_rfl) (mkΓ_cons (con_ok impl_spreadCode_ok) impl_spreadCode_enter (mkΓ_cons (con_ok impl_shareOf_ok) impl_shareOf_enter (mkΓ_cons (con_ok impl_allOf_ok) impl_allOf_enter mkΓ_nil))) (fn := Try.f34) (by kernel_rfl) (by kernel_rfl) []).of (by
  intro ρ h w args vals r e hA hH hr
  unfold impl_LostShare_con at hr
  split at hr
  · rename_i a0 a1
    obtain ⟨rfl, hg⟩ := Prod.mk.inj (Option.some.inj hr)
    obtain ⟨rfl, hg2⟩ := Prod.mk.inj hg
    exact impl_LostShare_main a0 a1 (hA.wt 0 rfl) (hA.wt 1 rfl) hg2
  · cases hr)

theorem laws_FnExactLostShare_ans (N : Nat) (a0 : Array Value) (a1 : Array Value) : ansV Try.prog (mkΓ [(18, con laws_toSea_con), (19, con laws_toSpread_con), (32, con laws_eqShare_con), (33, con spec_LostShare_con), (34, con impl_LostShare_con)]) N Try.f10 [] [.g a0 31, .g a1 34] [] = (bif (spec_LostShare_gd a0 a1) then (bif (impl_LostShare_gd a0 a1) then (bif (!((laws_eqShare_v0 (impl_LostShare_v0 a0 a1) (spec_LostShare_v0 a0 a1)))) then (some (.a (.b (false)), .none, true))
        else (bif ((impl_LostShare_v1 a0 a1) != (spec_LostShare_v1 a0 a1)) then (some (.a (.b (false)), .none, true))
          else (some (.a (.b (true)), .none, true))))
      else (none))
    else (none)) := by kernel_rfl

noncomputable def laws_FnExactLostShare_v0 (a0 : Array Value) (a1 : Array Value) : Bool := (bif (!((laws_eqShare_v0 (impl_LostShare_v0 a0 a1) (spec_LostShare_v0 a0 a1)))) then false else (bif ((impl_LostShare_v1 a0 a1) != (spec_LostShare_v1 a0 a1)) then false else true))
noncomputable def laws_FnExactLostShare_gd (a0 : Array Value) (a1 : Array Value) : Bool := (bif (spec_LostShare_gd a0 a1) then (impl_LostShare_gd a0 a1) else false)

theorem laws_FnExactLostShare_main (a0 : Array Value) (a1 : Array Value) (h_a0 : WT Try.prog 31 a0) (h_a1 : WT Try.prog 34 a1) (hg : ((laws_FnExactLostShare_gd a0 a1)) = true) : ansV Try.prog (mkΓ [(18, con laws_toSea_con), (19, con laws_toSpread_con), (32, con laws_eqShare_con), (33, con spec_LostShare_con), (34, con impl_LostShare_con)]) 1000 Try.f10 [] [.g a0 31, .g a1 34] [] = some (.a (.b ((laws_FnExactLostShare_v0 a0 a1))), .none, true) := by
  refine (laws_FnExactLostShare_ans 1000 a0 a1).trans ?_
  unfold laws_FnExactLostShare_gd at hg
  unfold laws_FnExactLostShare_v0
  revert hg
  generalize ((spec_LostShare_gd a0 a1)) = b2
  intro hg
  cases b2
  · skip
    first | exact (nomatch (hg : false = true)) | (simp only [cond_true, cond_false, Bool.and_true, Bool.true_and, Bool.and_false, Bool.false_and]; done) | rfl
  · skip
    revert hg
    generalize ((impl_LostShare_gd a0 a1)) = b4
    intro hg
    cases b4
    · skip
      first | exact (nomatch (hg : false = true)) | (simp only [cond_true, cond_false, Bool.and_true, Bool.true_and, Bool.and_false, Bool.false_and]; done) | rfl
    · skip
      revert hg
      generalize ((!((laws_eqShare_v0 (impl_LostShare_v0 a0 a1) (spec_LostShare_v0 a0 a1))))) = b6
      intro hg
      cases b6
      · skip
        revert hg
        generalize (((impl_LostShare_v1 a0 a1) != (spec_LostShare_v1 a0 a1))) = b8
        intro hg
        cases b8
        · skip
          first | (simp only [cond_true, cond_false, Bool.and_true, Bool.true_and, Bool.and_false, Bool.false_and]; done) | rfl | exact (nomatch (hg : false = true))
        · skip
          first | (simp only [cond_true, cond_false, Bool.and_true, Bool.true_and, Bool.and_false, Bool.false_and]; done) | rfl | exact (nomatch (hg : false = true))
      · skip
        first | (simp only [cond_true, cond_false, Bool.and_true, Bool.true_and, Bool.and_false, Bool.false_and]; done) | rfl | exact (nomatch (hg : false = true))
noncomputable def laws_FnExactLostShare_con : Con := fun args h => match args, h with
  | [.g a0 31, .g a1 34], [] => some (.a (.b ((laws_FnExactLostShare_v0 a0 a1))), .none, (laws_FnExactLostShare_gd a0 a1))
  | _, _ => none
theorem laws_FnExactLostShare_enter : ∀ args w, (callFunc 10 args).run Try.prog w = .ok (.enter 10 args) w := enter_ok (fn := Try.f10) (by kernel_rfl) (by kernel_rfl) (by kernel_rfl)
theorem laws_FnExactLostShare_ok : ConOk Try.prog 10 laws_FnExactLostShare_con := (ans_ok (N := 1000) (by kernel_rfl) (mkΓ_cons (con_ok laws_toSea_ok) laws_toSea_enter (mkΓ_cons (con_ok laws_toSpread_ok) laws_toSpread_enter (mkΓ_cons (con_ok laws_eqShare_ok) laws_eqShare_enter (mkΓ_cons (con_ok spec_LostShare_ok) spec_LostShare_enter (mkΓ_cons (con_ok impl_LostShare_ok) impl_LostShare_enter mkΓ_nil))))) (fn := Try.f10) (by kernel_rfl) (by kernel_rfl) []).of (by
  intro ρ h w args vals r e hA hH hr
  unfold laws_FnExactLostShare_con at hr
  split at hr
  · rename_i a0 a1
    obtain ⟨rfl, hg⟩ := Prod.mk.inj (Option.some.inj hr)
    obtain ⟨rfl, hg2⟩ := Prod.mk.inj hg
    exact laws_FnExactLostShare_main a0 a1 (hA.wt 0 rfl) (hA.wt 1 rfl) hg2
  · cases hr)

theorem laws_FnExactLostShare_true (a0 : Array Value) (a1 : Array Value) (h_a0 : WT Try.prog 31 a0) (h_a1 : WT Try.prog 34 a1) : ((laws_FnExactLostShare_gd a0 a1)) = true ∧ ((laws_FnExactLostShare_v0 a0 a1)) = true := by
  have key : impl_LostShare_v0 a0 a1 = spec_LostShare_v0 a0 a1 ∧ impl_LostShare_gd a0 a1 = true ∧ spec_LostShare_gd a0 a1 = true := by
    unfold impl_LostShare_v0 spec_LostShare_v0 impl_LostShare_gd spec_LostShare_gd
    rw [asked_eq, (valid_spread a0 a1).2]
    unfold spec_l02Asked_v0
    cases okS a0
    · exact ⟨rfl, rfl, rfl⟩
    cases hs : specSp a0 a1
    · exact ⟨rfl, rfl, rfl⟩
    obtain ⟨f1, f2, f3⟩ := sp_facts hs
    have r3 := in_range f3
    have sh := share_eq r3.1 (allW_pos f1 f2)
    have r1 := in_range f1
    have g1 : impl_allOf_gd a1 = true := by unfold impl_allOf_gd; rw [decide_eq_true r1.1, decide_eq_true r1.2]; rfl
    have g2 : spec_l02All_gd a1 = true := by unfold spec_l02All_gd; rw [decide_eq_true r1.1, decide_eq_true r1.2]; rfl
    rw [show impl_allOf_v0 a1 = allW a1 from rfl, show spec_l02All_v0 a1 = allW a1 from rfl, sh.1, sh.2.1, sh.2.2, g1, g2]
    exact ⟨rfl, rfl, rfl⟩
  have e1 : impl_LostShare_v1 a0 a1 = spec_LostShare_v1 a0 a1 := by
    unfold impl_LostShare_v1 spec_LostShare_v1
    rw [asked_eq]
  unfold laws_FnExactLostShare_gd laws_FnExactLostShare_v0 laws_eqShare_v0
  rw [key.1, key.2.1, key.2.2, e1]
  exact ⟨rfl, by simp only [bne_self_eq_false, cond_false, Bool.not_true]⟩

namespace lawFnExactLostShare
theorem lifted (os : Os) (started : os.Started) (H : Type) (enc : TypeId × Value → H) :
    ReturnsInHanded {} Try.checked os 10 .any (Rows.fnExactLostShareSpec.pre6 enc Try.prog Try.f10 Rows.fnExactLostShareRow.domain false) (Rows.fnExactLostShareSpec.post enc Try.prog Try.f10 false true false false) := by
  refine law_lifted (C := Try.checked) (tb := 4) (by kernel_rfl) (by kernel_rfl) (by kernel_rfl) Try.func10 (by kernel_rfl) Try.underlying4 (of_decide_eq_true (by kernel_rfl)) rfl ?_ os started H enc
    (ChangeSpec.witness6 (enc := enc) (C := Try.checked) false ⟨#[], #[.agg (zc Try.prog 31), .agg (zc Try.prog 34)], []⟩ 8 (by kernel_rfl) (by kernel_rfl) (by kernel_rfl) (by kernel_rfl)) ?_
  · intro H ds hds
    rw [show Try.f10.params.toList.length = 2 by kernel_rfl] at hds
    match ds, hds with
    | [_, _], _ => rfl
  · intro W base args ds ps hval hA
    rw [Try.params10] at hA hval
    obtain ⟨v0, v1, d0, d1, p0, p1, hargs, rfl, rfl, h0, h1⟩ := trodAll_two hA
    obtain ⟨a0, e0, w0⟩ := open_data (t := 31) 8 (by kernel_rfl) (by kernel_rfl) (hval 0 31 v0 rfl (by rw [hargs]; rfl)) h0
    obtain ⟨a1, e1, w1⟩ := open_data (t := 34) 8 (by kernel_rfl) (by kernel_rfl) (hval 1 34 v1 rfl (by rw [hargs]; rfl)) h1
    obtain rfl : args = #[.agg a0, .agg a1] := by rw [hargs, e0, e1]
    obtain ⟨hg, hv⟩ := laws_FnExactLostShare_true a0 a1 w0 w1
    have hr : laws_FnExactLostShare_con [.g a0 31, .g a1 34] [] = some (.a (.b true), .none, true) := by
      show (some (SV.a (SA.b ((laws_FnExactLostShare_v0 a0 a1))), Eff.none, (laws_FnExactLostShare_gd a0 a1)) : Option (SV × Eff × Bool)) = _
      rw [hg, hv]
    exact calls_con laws_FnExactLostShare_ok hr W (vals := [.agg a0, .agg a1]) (allCons ⟨rfl, w0⟩ (allCons ⟨rfl, w1⟩ allNil))

theorem over : Rows.fnExactLostShareRow.holds Try.pinned (OpenSpec.ofChange Rows.fnExactLostShareSpec) :=
  OpenClaim.holds_of_wide 10 Try.f10 rfl rfl rfl rfl rfl rfl rfl ⟨rfl, rfl, rfl, rfl, rfl⟩ rfl rfl rfl rfl rfl (by kernel_rfl) Try.func10 (by kernel_rfl)
    (of_decide_eq_true (by kernel_rfl)) (by unfold Func.isWrapper; first | (rw [if_pos (by decide +kernel)]; kernel_rfl) | (rw [if_neg (by decide +kernel)]; exact ⟨rfl, rfl⟩))
    (fun os started H enc _ => lifted os started H enc)

theorem proved : Rows.FnExactLostShareSaid := over
#print axioms proved
end lawFnExactLostShare

end
end Go.Proofs.Ytjihfoifdloaeaa
