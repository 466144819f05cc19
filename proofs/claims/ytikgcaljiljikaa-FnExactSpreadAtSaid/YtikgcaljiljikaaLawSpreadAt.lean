/- For every sea, spot and number of bottles spec and program set the same spread. -/
import Derived.Test.YtikgcaljiljikaaRows
import Derived.Test.YtikgcaljiljikaaChecked
import Derived.Test.YtikgcaljiljikaaBase
import Derived.Test.YtikgcaljiljikaaVeSeaA
namespace Go.Proofs.Ytikgcaljiljikaa
open Go.ChangeShapes Go.WideShapes Go.ChangeAt Go.RowKit Ve
set_option linter.unusedVariables false
set_option linter.unusedSimpArgs false
set_option maxRecDepth 100000
noncomputable section
theorem impl_spreadAt_ans (N : Nat) (a0 : Int) (a1 : Int) (a2 : Int) : ansV Try.prog (mkΓ []) N Try.f21 [] [.i .i64 (a0), .i .i64 (a1), .i .i64 (a2)] [] = (bif (decide (0 ≤ a0) && decide (a0 < 36)) then (some (.a (.g ((((zc Try.prog 31).setIfInBounds 0 (.int .i8 (IntKind.i8.wrap a2))).setIfInBounds 2 (.int .i64 (a1))).setIfInBounds (3 + ((a0).toNat * 1)) (.int .i64 (a1))) 31), .none, true))
    else (none)) := by kernel_rfl

noncomputable def impl_spreadAt_v0 (P : Program) (a0 : Int) (a1 : Int) (a2 : Int) : Array Value := ((((zc P 31).setIfInBounds 0 (.int .i8 (IntKind.i8.wrap a2))).setIfInBounds 2 (.int .i64 (a1))).setIfInBounds (3 + ((a0).toNat * 1)) (.int .i64 (a1)))

theorem impl_spreadAt_main (a0 : Int) (a1 : Int) (a2 : Int) (h_a0 : IntKind.i64.min ≤ a0 ∧ a0 ≤ IntKind.i64.max) (h_a1 : IntKind.i64.min ≤ a1 ∧ a1 ≤ IntKind.i64.max) (h_a2 : IntKind.i64.min ≤ a2 ∧ a2 ≤ IntKind.i64.max) (hg : ((decide (0 ≤ a0) && decide (a0 < 36))) = true) : ansV Try.prog (mkΓ []) 1000 Try.f21 [] [.i .i64 (a0), .i .i64 (a1), .i .i64 (a2)] [] = some (.a (.g (impl_spreadAt_v0 Try.prog a0 a1 a2) 31), .none, true) := by
  refine (impl_spreadAt_ans 1000 a0 a1 a2).trans ?_
  unfold impl_spreadAt_v0
  revert hg
  generalize (decide (0 ≤ a0)) = b2
  intro hg
  cases b2
  · skip
    first | exact (nomatch (hg : false = true)) | (simp only [cond_true, cond_false, Bool.and_true, Bool.true_and, Bool.and_false, Bool.false_and]; done) | rfl
  · skip
    revert hg
    generalize (decide (a0 < 36)) = b4
    intro hg
    cases b4
    · skip
      first | exact (nomatch (hg : false = true)) | (simp only [cond_true, cond_false, Bool.and_true, Bool.true_and, Bool.and_false, Bool.false_and]; done) | rfl
    · skip
      first | (simp only [cond_true, cond_false, Bool.and_true, Bool.true_and, Bool.and_false, Bool.false_and]; done) | rfl | exact (nomatch (hg : false = true))
noncomputable def impl_spreadAt_con : Con := fun args h => match args, h with
  | [.i .i64 a0, .i .i64 a1, .i .i64 a2], [] => some (.a (.g (impl_spreadAt_v0 Try.prog a0 a1 a2) 31), .none, (decide (0 ≤ a0) && decide (a0 < 36)))
  | _, _ => none
theorem impl_spreadAt_enter : ∀ args w, (callFunc 21 args).run Try.prog w = .ok (.enter 21 args) w := enter_ok (fn := Try.f21) (by kernel_rfl) (by kernel_rfl) (by kernel_rfl)
theorem impl_spreadAt_ok : ConOk Try.prog 21 impl_spreadAt_con := (ans_ok (N := 1000) (by kernel_rfl) mkΓ_nil (fn := Try.f21) (by kernel_rfl) (by kernel_rfl) []).of (by
  intro ρ h w args vals r e hA hH hr
  unfold impl_spreadAt_con at hr
  split at hr
  · rename_i a0 a1 a2
    obtain ⟨rfl, hg⟩ := Prod.mk.inj (Option.some.inj hr)
    obtain ⟨rfl, hg2⟩ := Prod.mk.inj hg
    exact impl_spreadAt_main a0 a1 a2 (hA.rng 0 rfl) (hA.rng 1 rfl) (hA.rng 2 rfl) hg2
  · cases hr)

theorem spec_SpreadAt_ans (N : Nat) (a0 : Array Value) (a1 : Int) (a2 : Int) (a3 : Int) : ansV Try.prog (mkΓ [(14, con spec_l01Ok_con), (15, con spec_l01Is_con), (16, con spec_l00In_con), (17, con spec_l01Tide_con)]) N Try.f5 [] [.g a0 38, .i .i64 (a1), .i .i64 (a2), .i .i64 (a3)] [] = (bif (!((okS a0))) then (some (.t [.g (zc Try.prog 31) 31, .i .i64 (1 : Int)], .none, true))
    else (bif (!((spec_l01Is_v0 a1 a0))) then (some (.t [.g (zc Try.prog 31) 31, .i .i64 (2 : Int)], .none, true))
      else (bif (!((spec_l00In_v0 a2 (1 : Int) (1000 : Int)))) then (some (.t [.g (zc Try.prog 31) 31, .i .i64 (2 : Int)], .none, true))
        else (bif (!((spec_l00In_v0 a3 (0 : Int) (1 : Int)))) then (some (.t [.g (zc Try.prog 31) 31, .i .i64 (2 : Int)], .none, true))
          else (bif (decide (0 ≤ a1) && decide (a1 < 36)) then (some (.t [.g ((((zc Try.prog 31).setIfInBounds 0 (.int .i8 (IntKind.i8.wrap a3))).setIfInBounds 2 (.int .i64 (a2))).setIfInBounds (3 + ((a1).toNat * 1)) (.int .i64 (a2))) 31, .i .i64 (0 : Int)], .none, true))
            else (none)))))) := by kernel_rfl

noncomputable def spec_SpreadAt_v0 (P : Program) (a0 : Array Value) (a1 : Int) (a2 : Int) (a3 : Int) : Array Value := (bif (!((okS a0))) then (zc P 31) else (bif (!((spec_l01Is_v0 a1 a0))) then (zc P 31) else (bif (!((spec_l00In_v0 a2 (1 : Int) (1000 : Int)))) then (zc P 31) else (bif (!((spec_l00In_v0 a3 (0 : Int) (1 : Int)))) then (zc P 31) else ((((zc P 31).setIfInBounds 0 (.int .i8 (IntKind.i8.wrap a3))).setIfInBounds 2 (.int .i64 (a2))).setIfInBounds (3 + ((a1).toNat * 1)) (.int .i64 (a2)))))))
noncomputable def spec_SpreadAt_v1 (a0 : Array Value) (a1 : Int) (a2 : Int) (a3 : Int) : Int := (bif (!((okS a0))) then (1 : Int) else (bif (!((spec_l01Is_v0 a1 a0))) then (2 : Int) else (bif (!((spec_l00In_v0 a2 (1 : Int) (1000 : Int)))) then (2 : Int) else (bif (!((spec_l00In_v0 a3 (0 : Int) (1 : Int)))) then (2 : Int) else (0 : Int)))))
noncomputable def spec_SpreadAt_gd (a0 : Array Value) (a1 : Int) (a2 : Int) (a3 : Int) : Bool := (bif (!((okS a0))) then true else (bif (!((spec_l01Is_v0 a1 a0))) then true else (bif (!((spec_l00In_v0 a2 (1 : Int) (1000 : Int)))) then true else (bif (!((spec_l00In_v0 a3 (0 : Int) (1 : Int)))) then true else (decide (0 ≤ a1) && decide (a1 < 36))))))

theorem spec_SpreadAt_main (a0 : Array Value) (a1 : Int) (a2 : Int) (a3 : Int) (h_a0 : WT Try.prog 38 a0) (h_a1 : IntKind.i64.min ≤ a1 ∧ a1 ≤ IntKind.i64.max) (h_a2 : IntKind.i64.min ≤ a2 ∧ a2 ≤ IntKind.i64.max) (h_a3 : IntKind.i64.min ≤ a3 ∧ a3 ≤ IntKind.i64.max) (hg : ((spec_SpreadAt_gd a0 a1 a2 a3)) = true) : ansV Try.prog (mkΓ [(14, con spec_l01Ok_con), (15, con spec_l01Is_con), (16, con spec_l00In_con), (17, con spec_l01Tide_con)]) 1000 Try.f5 [] [.g a0 38, .i .i64 (a1), .i .i64 (a2), .i .i64 (a3)] [] = some (.t [.g (spec_SpreadAt_v0 Try.prog a0 a1 a2 a3) 31, .i .i64 (spec_SpreadAt_v1 a0 a1 a2 a3)], .none, true) := by
  refine (spec_SpreadAt_ans 1000 a0 a1 a2 a3).trans ?_
  unfold spec_SpreadAt_gd at hg
  unfold spec_SpreadAt_v0 spec_SpreadAt_v1
  revert hg
  generalize ((!((okS a0)))) = b2
  intro hg
  cases b2
  · skip
    revert hg
    generalize ((!((spec_l01Is_v0 a1 a0)))) = b4
    intro hg
    cases b4
    · skip
      revert hg
      generalize ((!((spec_l00In_v0 a2 (1 : Int) (1000 : Int))))) = b6
      intro hg
      cases b6
      · skip
        revert hg
        generalize ((!((spec_l00In_v0 a3 (0 : Int) (1 : Int))))) = b8
        intro hg
        cases b8
        · skip
          revert hg
          generalize (decide (0 ≤ a1)) = b10
          intro hg
          cases b10
          · skip
            first | exact (nomatch (hg : false = true)) | (simp only [cond_true, cond_false, Bool.and_true, Bool.true_and, Bool.and_false, Bool.false_and]; done) | rfl
          · skip
            revert hg
            generalize (decide (a1 < 36)) = b12
            intro hg
            cases b12
            · skip
              first | exact (nomatch (hg : false = true)) | (simp only [cond_true, cond_false, Bool.and_true, Bool.true_and, Bool.and_false, Bool.false_and]; done) | rfl
            · skip
              first | (simp only [cond_true, cond_false, Bool.and_true, Bool.true_and, Bool.and_false, Bool.false_and]; done) | rfl | exact (nomatch (hg : false = true))
        · skip
          first | (simp only [cond_true, cond_false, Bool.and_true, Bool.true_and, Bool.and_false, Bool.false_and]; done) | rfl | exact (nomatch (hg : false = true))
      · skip
        first | (simp only [cond_true, cond_false, Bool.and_true, Bool.true_and, Bool.and_false, Bool.false_and]; done) | rfl | exact (nomatch (hg : false = true))
    · skip
      first | (simp only [cond_true, cond_false, Bool.and_true, Bool.true_and, Bool.and_false, Bool.false_and]; done) | rfl | exact (nomatch (hg : false = true))
  · skip
    first | (simp only [cond_true, cond_false, Bool.and_true, Bool.true_and, Bool.and_false, Bool.false_and]; done) | rfl | exact (nomatch (hg : false = true))
noncomputable def spec_SpreadAt_con : Con := fun args h => match args, h with
  | [.g a0 38, .i .i64 a1, .i .i64 a2, .i .i64 a3], [] => some (.t [.g (spec_SpreadAt_v0 Try.prog a0 a1 a2 a3) 31, .i .i64 (spec_SpreadAt_v1 a0 a1 a2 a3)], .none, (spec_SpreadAt_gd a0 a1 a2 a3))
  | _, _ => none
theorem spec_SpreadAt_enter : ∀ args w, (callFunc 5 args).run Try.prog w = .ok (.enter 5 args) w := enter_ok (fn := Try.f5) (by kernel_rfl) (by kernel_rfl) (by kernel_rfl)
theorem spec_SpreadAt_ok : ConOk Try.prog 5 spec_SpreadAt_con := (ans_ok (N := 1000) (by kernel_rfl) (mkΓ_cons (con_ok spec_l01Ok_ok) spec_l01Ok_enter (mkΓ_cons (con_ok spec_l01Is_ok) spec_l01Is_enter (mkΓ_cons (con_ok spec_l00In_ok) spec_l00In_enter (mkΓ_cons (con_ok spec_l01Tide_ok) spec_l01Tide_enter mkΓ_nil)))) (fn := Try.f5) (by kernel_rfl) (by kernel_rfl) []).of (by
  intro ρ h w args vals r e hA hH hr
  unfold spec_SpreadAt_con at hr
  split at hr
  · rename_i a0 a1 a2 a3
    obtain ⟨rfl, hg⟩ := Prod.mk.inj (Option.some.inj hr)
    obtain ⟨rfl, hg2⟩ := Prod.mk.inj hg
    exact spec_SpreadAt_main a0 a1 a2 a3 (hA.wt 0 rfl) (hA.rng 1 rfl) (hA.rng 2 rfl) (hA.rng 3 rfl) hg2
  · cases hr)

theorem impl_SpreadAt_ans (N : Nat) (a0 : Array Value) (a1 : Int) (a2 : Int) (a3 : Int) : ansV Try.prog (mkΓ [(19, con impl_spotCode_con), (20, con impl_hasBottles_con), (21, con impl_spreadAt_con)]) N Try.f7 [] [.g a0 38, .i .i64 (a1), .i .i64 (a2), .i .i64 (a3)] [] = (bif ((impl_spotCode_v0 a0 a3 a1) != (0 : Int)) then (some (.t [.g (zc Try.prog 31) 31, .i .i64 (impl_spotCode_v0 a0 a3 a1)], .none, true))
    else (bif (!((impl_hasBottles_v0 a2 (1000 : Int)))) then (some (.t [.g (zc Try.prog 31) 31, .i .i64 (2 : Int)], .none, true))
      else (bif (decide (0 ≤ a1) && decide (a1 < 36)) then (some (.t [.g (impl_spreadAt_v0 Try.prog a1 a2 a3) 31, .i .i64 (0 : Int)], .none, true))
        else (none)))) := by kernel_rfl

noncomputable def impl_SpreadAt_v0 (P : Program) (a0 : Array Value) (a1 : Int) (a2 : Int) (a3 : Int) : Array Value := (bif ((impl_spotCode_v0 a0 a3 a1) != (0 : Int)) then (zc P 31) else (bif (!((impl_hasBottles_v0 a2 (1000 : Int)))) then (zc P 31) else (impl_spreadAt_v0 P a1 a2 a3)))
noncomputable def impl_SpreadAt_v1 (a0 : Array Value) (a1 : Int) (a2 : Int) (a3 : Int) : Int := (bif ((impl_spotCode_v0 a0 a3 a1) != (0 : Int)) then (impl_spotCode_v0 a0 a3 a1) else (bif (!((impl_hasBottles_v0 a2 (1000 : Int)))) then (2 : Int) else (0 : Int)))
noncomputable def impl_SpreadAt_gd (a0 : Array Value) (a1 : Int) (a2 : Int) (a3 : Int) : Bool := (bif ((impl_spotCode_v0 a0 a3 a1) != (0 : Int)) then true else (bif (!((impl_hasBottles_v0 a2 (1000 : Int)))) then true else (decide (0 ≤ a1) && decide (a1 < 36))))

theorem impl_SpreadAt_main (a0 : Array Value) (a1 : Int) (a2 : Int) (a3 : Int) (h_a0 : WT Try.prog 38 a0) (h_a1 : IntKind.i64.min ≤ a1 ∧ a1 ≤ IntKind.i64.max) (h_a2 : IntKind.i64.min ≤ a2 ∧ a2 ≤ IntKind.i64.max) (h_a3 : IntKind.i64.min ≤ a3 ∧ a3 ≤ IntKind.i64.max) (hg : ((impl_SpreadAt_gd a0 a1 a2 a3)) = true) : ansV Try.prog (mkΓ [(19, con impl_spotCode_con), (20, con impl_hasBottles_con), (21, con impl_spreadAt_con)]) 1000 Try.f7 [] [.g a0 38, .i .i64 (a1), .i .i64 (a2), .i .i64 (a3)] [] = some (.t [.g (impl_SpreadAt_v0 Try.prog a0 a1 a2 a3) 31, .i .i64 (impl_SpreadAt_v1 a0 a1 a2 a3)], .none, true) := by
  refine (impl_SpreadAt_ans 1000 a0 a1 a2 a3).trans ?_
  unfold impl_SpreadAt_gd at hg
  unfold impl_SpreadAt_v0 impl_SpreadAt_v1
  revert hg
  generalize (((impl_spotCode_v0 a0 a3 a1) != (0 : Int))) = b2
  intro hg
  cases b2
  · skip
    revert hg
    generalize ((!((impl_hasBottles_v0 a2 (1000 : Int))))) = b4
    intro hg
    cases b4
    · skip
      revert hg
      generalize (decide (0 ≤ a1)) = b6
      intro hg
      cases b6
      · skip
        first | exact (nomatch (hg : false = true)) | (simp only [cond_true, cond_false, Bool.and_true, Bool.true_and, Bool.and_false, Bool.false_and]; done) | rfl
      · skip
        revert hg
        generalize (decide (a1 < 36)) = b8
        intro hg
        cases b8
        · skip
          first | exact (nomatch (hg : false = true)) | (simp only [cond_true, cond_false, Bool.and_true, Bool.true_and, Bool.and_false, Bool.false_and]; done) | rfl
        · skip
          first | (simp only [cond_true, cond_false, Bool.and_true, Bool.true_and, Bool.and_false, Bool.false_and]; done) | rfl | exact (nomatch (hg : false = true))
    · skip
      first | (simp only [cond_true, cond_false, Bool.and_true, Bool.true_and, Bool.and_false, Bool.false_and]; done) | rfl | exact (nomatch (hg : false = true))
  · skip
    first | (simp only [cond_true, cond_false, Bool.and_true, Bool.true_and, Bool.and_false, Bool.false_and]; done) | rfl | exact (nomatch (hg : false = true))
noncomputable def impl_SpreadAt_con : Con := fun args h => match args, h with
  | [.g a0 38, .i .i64 a1, .i .i64 a2, .i .i64 a3], [] => some (.t [.g (impl_SpreadAt_v0 Try.prog a0 a1 a2 a3) 31, .i .i64 (impl_SpreadAt_v1 a0 a1 a2 a3)], .none, (impl_SpreadAt_gd a0 a1 a2 a3))
  | _, _ => none
theorem impl_SpreadAt_enter : ∀ args w, (callFunc 7 args).run Try.prog w = .ok (.enter 7 args) w := enter_ok (fn := Try.f7) (by kernel_rfl) (by kernel_rfl) (by kernel_rfl)
theorem impl_SpreadAt_ok : ConOk Try.prog 7 impl_SpreadAt_con := (ans_ok (N := 1000) (by kernel_rfl) (mkΓ_cons (con_ok impl_spotCode_ok) impl_spotCode_enter (mkΓ_cons (con_ok impl_hasBottles_ok) impl_hasBottles_enter (mkΓ_cons (con_ok impl_spreadAt_ok) impl_spreadAt_enter mkΓ_nil))) (fn := Try.f7) (by kernel_rfl) (by kernel_rfl) []).of (by
  intro ρ h w args vals r e hA hH hr
  unfold impl_SpreadAt_con at hr
  split at hr
  · rename_i a0 a1 a2 a3
    obtain ⟨rfl, hg⟩ := Prod.mk.inj (Option.some.inj hr)
    obtain ⟨rfl, hg2⟩ := Prod.mk.inj hg
    exact impl_SpreadAt_main a0 a1 a2 a3 (hA.wt 0 rfl) (hA.rng 1 rfl) (hA.rng 2 rfl) (hA.rng 3 rfl) hg2
  · cases hr)

theorem laws_FnExactSpreadAt_ans (N : Nat) (a0 : Array Value) (a1 : Int) (a2 : Int) (a3 : Int) : ansV Try.prog (mkΓ [(5, con spec_SpreadAt_con), (6, con laws_toSea_con), (7, con impl_SpreadAt_con), (8, con laws_eqSpread_con)]) N Try.f3 [] [.g a0 28, .i .i64 (a1), .i .i64 (a2), .i .i64 (a3)] [] = (bif (spec_SpreadAt_gd a0 a1 a2 a3) then (bif (impl_SpreadAt_gd a0 a1 a2 a3) then (bif (!(sameB (impl_SpreadAt_v0 Try.prog a0 a1 a2 a3) (spec_SpreadAt_v0 Try.prog a0 a1 a2 a3))) then (some (.a (.b (false)), .none, true))
        else (bif ((impl_SpreadAt_v1 a0 a1 a2 a3) != (spec_SpreadAt_v1 a0 a1 a2 a3)) then (some (.a (.b (false)), .none, true))
          else (some (.a (.b (true)), .none, true))))
      else (none))
    else (none)) := by kernel_rfl

noncomputable def laws_FnExactSpreadAt_v0 (P : Program) (a0 : Array Value) (a1 : Int) (a2 : Int) (a3 : Int) : Bool := (bif (!(sameB (impl_SpreadAt_v0 P a0 a1 a2 a3) (spec_SpreadAt_v0 P a0 a1 a2 a3))) then false else (bif ((impl_SpreadAt_v1 a0 a1 a2 a3) != (spec_SpreadAt_v1 a0 a1 a2 a3)) then false else true))
noncomputable def laws_FnExactSpreadAt_gd (a0 : Array Value) (a1 : Int) (a2 : Int) (a3 : Int) : Bool := (bif (spec_SpreadAt_gd a0 a1 a2 a3) then (impl_SpreadAt_gd a0 a1 a2 a3) else false)

theorem laws_FnExactSpreadAt_main (a0 : Array Value) (a1 : Int) (a2 : Int) (a3 : Int) (h_a0 : WT Try.prog 28 a0) (h_a1 : IntKind.i64.min ≤ a1 ∧ a1 ≤ IntKind.i64.max) (h_a2 : IntKind.i64.min ≤ a2 ∧ a2 ≤ IntKind.i64.max) (h_a3 : IntKind.i64.min ≤ a3 ∧ a3 ≤ IntKind.i64.max) (hg : ((laws_FnExactSpreadAt_gd a0 a1 a2 a3)) = true) : ansV Try.prog (mkΓ [(5, con spec_SpreadAt_con), (6, con laws_toSea_con), (7, con impl_SpreadAt_con), (8, con laws_eqSpread_con)]) 1000 Try.f3 [] [.g a0 28, .i .i64 (a1), .i .i64 (a2), .i .i64 (a3)] [] = some (.a (.b ((laws_FnExactSpreadAt_v0 Try.prog a0 a1 a2 a3))), .none, true) := by
  refine (laws_FnExactSpreadAt_ans 1000 a0 a1 a2 a3).trans ?_
  unfold laws_FnExactSpreadAt_gd at hg
  unfold laws_FnExactSpreadAt_v0
  revert hg
  generalize ((spec_SpreadAt_gd a0 a1 a2 a3)) = b2
  intro hg
  cases b2
  · skip
    first | exact (nomatch (hg : false = true)) | (simp only [cond_true, cond_false, Bool.and_true, Bool.true_and, Bool.and_false, Bool.false_and]; done) | rfl
  · skip
    revert hg
    generalize ((impl_SpreadAt_gd a0 a1 a2 a3)) = b4
    intro hg
    cases b4
    · skip
      first | exact (nomatch (hg : false = true)) | (simp only [cond_true, cond_false, Bool.and_true, Bool.true_and, Bool.and_false, Bool.false_and]; done) | rfl
    · skip
      revert hg
      generalize ((!(sameB (impl_SpreadAt_v0 Try.prog a0 a1 a2 a3) (spec_SpreadAt_v0 Try.prog a0 a1 a2 a3)))) = b6
      intro hg
      cases b6
      · skip
        revert hg
        generalize (((impl_SpreadAt_v1 a0 a1 a2 a3) != (spec_SpreadAt_v1 a0 a1 a2 a3))) = b8
        intro hg
        cases b8
        · skip
          first | (simp only [cond_true, cond_false, Bool.and_true, Bool.true_and, Bool.and_false, Bool.false_and]; done) | rfl | exact (nomatch (hg : false = true))
        · skip
          first | (simp only [cond_true, cond_false, Bool.and_true, Bool.true_and, Bool.and_false, Bool.false_and]; done) | rfl | exact (nomatch (hg : false = true))
      · skip
        first | (simp only [cond_true, cond_false, Bool.and_true, Bool.true_and, Bool.and_false, Bool.false_and]; done) | rfl | exact (nomatch (hg : false = true))
noncomputable def laws_FnExactSpreadAt_con : Con := fun args h => match args, h with
  | [.g a0 28, .i .i64 a1, .i .i64 a2, .i .i64 a3], [] => some (.a (.b ((laws_FnExactSpreadAt_v0 Try.prog a0 a1 a2 a3))), .none, (laws_FnExactSpreadAt_gd a0 a1 a2 a3))
  | _, _ => none
theorem laws_FnExactSpreadAt_enter : ∀ args w, (callFunc 3 args).run Try.prog w = .ok (.enter 3 args) w := enter_ok (fn := Try.f3) (by kernel_rfl) (by kernel_rfl) (by kernel_rfl)
theorem laws_FnExactSpreadAt_ok : ConOk Try.prog 3 laws_FnExactSpreadAt_con := (ans_ok (N := 1000) (by kernel_rfl) (mkΓ_cons (con_ok spec_SpreadAt_ok) spec_SpreadAt_enter (mkΓ_cons (con_ok laws_toSea_ok) laws_toSea_enter (mkΓ_cons (con_ok impl_SpreadAt_ok) impl_SpreadAt_enter (mkΓ_cons (con_ok laws_eqSpread_ok) laws_eqSpread_enter mkΓ_nil)))) (fn := Try.f3) (by kernel_rfl) (by kernel_rfl) []).of (by
  intro ρ h w args vals r e hA hH hr
  unfold laws_FnExactSpreadAt_con at hr
  split at hr
  · rename_i a0 a1 a2 a3
    obtain ⟨rfl, hg⟩ := Prod.mk.inj (Option.some.inj hr)
    obtain ⟨rfl, hg2⟩ := Prod.mk.inj hg
    exact laws_FnExactSpreadAt_main a0 a1 a2 a3 (hA.wt 0 rfl) (hA.rng 1 rfl) (hA.rng 2 rfl) (hA.rng 3 rfl) hg2
  · cases hr)

theorem laws_FnExactSpreadAt_true (a0 : Array Value) (a1 : Int) (a2 : Int) (a3 : Int) (h_a0 : WT Try.prog 28 a0) (h_a1 : IntKind.i64.min ≤ a1 ∧ a1 ≤ IntKind.i64.max) (h_a2 : IntKind.i64.min ≤ a2 ∧ a2 ≤ IntKind.i64.max) (h_a3 : IntKind.i64.min ≤ a3 ∧ a3 ≤ IntKind.i64.max) : ((laws_FnExactSpreadAt_gd a0 a1 a2 a3)) = true ∧ ((laws_FnExactSpreadAt_v0 Try.prog a0 a1 a2 a3)) = true := by
  have hsp : impl_spotCode_v0 a0 a3 a1 = (bif okS a0 then (bif spec_l01Is_v0 a1 a0 then (bif spec_l00In_v0 a3 0 1 then 0 else 2) else 2) else 1) := by
    unfold impl_spotCode_v0; rw [cell_code, tide_eq]
    cases okS a0 <;> cases spec_l01Is_v0 a1 a0 <;> cases spec_l00In_v0 a3 0 1 <;> rfl
  have key : (spec_SpreadAt_gd a0 a1 a2 a3 = true ∧ impl_SpreadAt_gd a0 a1 a2 a3 = true) ∧ impl_SpreadAt_v0 Try.prog a0 a1 a2 a3 = spec_SpreadAt_v0 Try.prog a0 a1 a2 a3 ∧ impl_SpreadAt_v1 a0 a1 a2 a3 = spec_SpreadAt_v1 a0 a1 a2 a3 := by
    unfold spec_SpreadAt_gd impl_SpreadAt_gd impl_SpreadAt_v0 spec_SpreadAt_v0 impl_SpreadAt_v1 spec_SpreadAt_v1
    rw [hsp, bottles_eq]
    cases okS a0
    · exact ⟨⟨rfl, rfl⟩, rfl, rfl⟩
    · cases hi : spec_l01Is_v0 a1 a0
      · exact ⟨⟨rfl, rfl⟩, rfl, rfl⟩
      · have hc := is_range hi
        have d1 : decide (0 ≤ a1) = true := decide_eq_true hc.1
        have d2 : decide (a1 < 36) = true := decide_eq_true (by omega)
        rw [d1, d2]
        cases spec_l00In_v0 a2 1 1000 <;> cases spec_l00In_v0 a3 0 1 <;> exact ⟨⟨rfl, rfl⟩, rfl, rfl⟩
  obtain ⟨⟨k1, k2⟩, k3, k4⟩ := key
  unfold laws_FnExactSpreadAt_gd laws_FnExactSpreadAt_v0
  rw [k1, k2, k3, k4, sameB_self]
  exact ⟨rfl, by simp only [bne_self_eq_false, cond_false, Bool.not_true]⟩

namespace lawFnExactSpreadAt
theorem lifted (os : Os) (started : os.Started) (H : Type) (enc : TypeId × Value → H) :
    ReturnsInHanded {} Try.checked os 3 .any (Rows.fnExactSpreadAtSpec.pre6 enc Try.prog Try.f3 Rows.fnExactSpreadAtRow.domain false) (Rows.fnExactSpreadAtSpec.post enc Try.prog Try.f3 false true false false) := by
  refine law_lifted (C := Try.checked) (tb := 4) (by kernel_rfl) (by kernel_rfl) (by kernel_rfl) Try.func3 (by kernel_rfl) Try.underlying4 (of_decide_eq_true (by kernel_rfl)) rfl ?_ os started H enc
    (ChangeSpec.witness6 (enc := enc) (C := Try.checked) false ⟨#[], #[.agg (zc Try.prog 28), .int .i64 0, .int .i64 0, .int .i64 0], []⟩ 8 (by kernel_rfl) (by kernel_rfl) (by kernel_rfl) (by kernel_rfl)) ?_
  · intro H ds hds
    rw [show Try.f3.params.toList.length = 4 by kernel_rfl] at hds
    match ds, hds with
    | [_, _, _, _], _ => rfl
  · intro W base args ds ps hval hA
    rw [Try.params3] at hA hval
    obtain ⟨v0, v1, v2, v3, d0, d1, d2, d3, p0, p1, p2, p3, hargs, rfl, rfl, h0, h1, h2, h3⟩ := trodAll_four hA
    obtain ⟨a0, e0, w0⟩ := open_data (t := 28) 8 (by kernel_rfl) (by kernel_rfl) (hval 0 28 v0 rfl (by rw [hargs]; rfl)) h0
    obtain ⟨a1, e1, _, _, w1⟩ := open_int Try.underlying2 (hval 1 2 v1 rfl (by rw [hargs]; rfl)) h1
    obtain ⟨a2, e2, _, _, w2⟩ := open_int Try.underlying2 (hval 2 2 v2 rfl (by rw [hargs]; rfl)) h2
    obtain ⟨a3, e3, _, _, w3⟩ := open_int Try.underlying2 (hval 3 2 v3 rfl (by rw [hargs]; rfl)) h3
    obtain rfl : args = #[.agg a0, .int .i64 a1, .int .i64 a2, .int .i64 a3] := by rw [hargs, e0, e1, e2, e3]
    obtain ⟨hg, hv⟩ := laws_FnExactSpreadAt_true a0 a1 a2 a3 w0 (wfb w1) (wfb w2) (wfb w3)
    have hr : laws_FnExactSpreadAt_con [.g a0 28, .i .i64 a1, .i .i64 a2, .i .i64 a3] [] = some (.a (.b true), .none, true) := by
      show (some (SV.a (SA.b ((laws_FnExactSpreadAt_v0 Try.prog a0 a1 a2 a3))), Eff.none, (laws_FnExactSpreadAt_gd a0 a1 a2 a3)) : Option (SV × Eff × Bool)) = _
      rw [hg, hv]
    exact calls_con laws_FnExactSpreadAt_ok hr W (vals := [.agg a0, .int .i64 a1, .int .i64 a2, .int .i64 a3]) (allCons ⟨rfl, w0⟩ (allCons ⟨rfl, wfb w1⟩ (allCons ⟨rfl, wfb w2⟩ (allCons ⟨rfl, wfb w3⟩ allNil))))

theorem over : Rows.fnExactSpreadAtRow.holds Try.pinned (OpenSpec.ofChange Rows.fnExactSpreadAtSpec) :=
  OpenClaim.holds_of_wide 3 Try.f3 rfl rfl rfl rfl rfl rfl rfl ⟨rfl, rfl, rfl, rfl, rfl⟩ rfl rfl rfl rfl rfl (by kernel_rfl) Try.func3 (by kernel_rfl)
    (of_decide_eq_true (by kernel_rfl)) (by unfold Func.isWrapper; first | (rw [if_pos (by decide +kernel)]; kernel_rfl) | (rw [if_neg (by decide +kernel)]; exact ⟨rfl, rfl⟩))
    (fun os started H enc _ => lifted os started H enc)

theorem proved : Rows.FnExactSpreadAtSaid := over
#print axioms proved
end lawFnExactSpreadAt

end
end Go.Proofs.Ytikgcaljiljikaa
