/- For every sea, spot and chances spec and program set the chances alike. -/
import Derived.Test.YtbgkcfgdedhclaaRows
import Derived.Test.YtbgkcfgdedhclaaChecked
import Derived.Test.YtbgkcfgdedhclaaBase
import Derived.Test.YtbgkcfgdedhclaaVeSeaB
namespace Go.Proofs.Ytbgkcfgdedhclaa
open Go.ChangeShapes Go.WideShapes Go.ChangeAt Go.RowKit Ve
set_option linter.unusedVariables false
set_option linter.unusedSimpArgs false
set_option maxRecDepth 100000
noncomputable section
theorem tide_range {t : Int} (h : spec_l00In_v0 t 0 1 = true) : 0 ≤ t ∧ t ≤ 1 := by
  unfold spec_l00In_v0 at h
  cases h0 : decide (t ≥ 0) with
  | false => rw [h0] at h; exact nomatch h
  | true => rw [h0] at h; exact ⟨of_decide_eq_true h0, of_decide_eq_true h⟩

theorem spec_WithChances_ans (N : Nat) (a0 : Array Value) (a1 : Int) (a2 : Int) (a3 : Array Value) : ansV Try.prog (mkΓ [(42, con spec_l01Ok_con), (57, con spec_l01Chances_con), (58, con spec_l01Tide_con), (59, con spec_l01Is_con), (60, con spec_l01Dry_con)]) N Try.f23 [] [.g a0 35, .i .i64 (a1), .i .i64 (a2), .g a3 31] [] = (bif (!((okS a0))) then (some (.t [.g (zc Try.prog 35) 35, .i .i64 (1 : Int)], .none, true))
    else (bif (!((sumW a3 5 == (12 : Int)))) then (some (.t [.g (zc Try.prog 35) 35, .i .i64 (1 : Int)], .none, true))
      else (bif (!((spec_l00In_v0 a1 (0 : Int) (1 : Int)))) then (some (.t [.g (zc Try.prog 35) 35, .i .i64 (2 : Int)], .none, true))
        else (bif (!((spec_l01Is_v0 a2 a0))) then (some (.t [.g (zc Try.prog 35) 35, .i .i64 (2 : Int)], .none, true))
          else (bif decide (0 ≤ (IntKind.u64.wrap a2)) then (bif (spec_l01Dry_v0 a2 a0) then (some (.t [.g (zc Try.prog 35) 35, .i .i64 (4 : Int)], .none, true))
              else (bif (decide (0 ≤ a1) && decide (a1 < 2)) then (bif (decide (0 ≤ a2) && decide (a2 < 36)) then (some (.t [.g (spl a0 ((3 + ((a1).toNat * 180)) + ((a2).toNat * 5)) a3.toList) 35, .i .i64 (0 : Int)], .none, true))
                  else (none))
                else (none)))
            else (none)))))) := by kernel_rfl

noncomputable def spec_WithChances_v0 (P : Program) (a0 : Array Value) (a1 : Int) (a2 : Int) (a3 : Array Value) : Array Value := (bif (!((okS a0))) then (zc P 35) else (bif (!((sumW a3 5 == (12 : Int)))) then (zc P 35) else (bif (!((spec_l00In_v0 a1 (0 : Int) (1 : Int)))) then (zc P 35) else (bif (!((spec_l01Is_v0 a2 a0))) then (zc P 35) else (bif (spec_l01Dry_v0 a2 a0) then (zc P 35) else (spl a0 ((3 + ((a1).toNat * 180)) + ((a2).toNat * 5)) a3.toList))))))
noncomputable def spec_WithChances_v1 (a0 : Array Value) (a1 : Int) (a2 : Int) (a3 : Array Value) : Int := (bif (!((okS a0))) then (1 : Int) else (bif (!((sumW a3 5 == (12 : Int)))) then (1 : Int) else (bif (!((spec_l00In_v0 a1 (0 : Int) (1 : Int)))) then (2 : Int) else (bif (!((spec_l01Is_v0 a2 a0))) then (2 : Int) else (bif (spec_l01Dry_v0 a2 a0) then (4 : Int) else (0 : Int))))))
noncomputable def spec_WithChances_gd (a0 : Array Value) (a1 : Int) (a2 : Int) (a3 : Array Value) : Bool := (bif (!((okS a0))) then true else (bif (!((sumW a3 5 == (12 : Int)))) then true else (bif (!((spec_l00In_v0 a1 (0 : Int) (1 : Int)))) then true else (bif (!((spec_l01Is_v0 a2 a0))) then true else (bif decide (0 ≤ (IntKind.u64.wrap a2)) then (bif (spec_l01Dry_v0 a2 a0) then true else (bif (decide (0 ≤ a1) && decide (a1 < 2)) then (decide (0 ≤ a2) && decide (a2 < 36)) else false)) else false)))))

theorem spec_WithChances_main (a0 : Array Value) (a1 : Int) (a2 : Int) (a3 : Array Value) (h_a0 : WT Try.prog 35 a0) (h_a1 : IntKind.i64.min ≤ a1 ∧ a1 ≤ IntKind.i64.max) (h_a2 : IntKind.i64.min ≤ a2 ∧ a2 ≤ IntKind.i64.max) (h_a3 : WT Try.prog 31 a3) (hg : ((spec_WithChances_gd a0 a1 a2 a3)) = true) : ansV Try.prog (mkΓ [(42, con spec_l01Ok_con), (57, con spec_l01Chances_con), (58, con spec_l01Tide_con), (59, con spec_l01Is_con), (60, con spec_l01Dry_con)]) 1000 Try.f23 [] [.g a0 35, .i .i64 (a1), .i .i64 (a2), .g a3 31] [] = some (.t [.g (spec_WithChances_v0 Try.prog a0 a1 a2 a3) 35, .i .i64 (spec_WithChances_v1 a0 a1 a2 a3)], .none, true) := by
  refine (spec_WithChances_ans 1000 a0 a1 a2 a3).trans ?_
  unfold spec_WithChances_gd at hg
  unfold spec_WithChances_v0 spec_WithChances_v1
  revert hg
  generalize ((!((okS a0)))) = b2
  intro hg
  cases b2
  · skip
    revert hg
    generalize ((!((sumW a3 5 == (12 : Int))))) = b4
    intro hg
    cases b4
    · skip
      revert hg
      generalize ((!((spec_l00In_v0 a1 (0 : Int) (1 : Int))))) = b6
      intro hg
      cases b6
      · skip
        revert hg
        generalize ((!((spec_l01Is_v0 a2 a0)))) = b8
        intro hg
        cases b8
        · skip
          revert hg
          generalize (decide (0 ≤ (IntKind.u64.wrap a2))) = b10
          intro hg
          cases b10
          · skip
            first | exact (nomatch (hg : false = true)) | (simp only [cond_true, cond_false, Bool.and_true, Bool.true_and, Bool.and_false, Bool.false_and]; done) | rfl
          · skip
            revert hg
            generalize ((spec_l01Dry_v0 a2 a0)) = b12
            intro hg
            cases b12
            · skip
              revert hg
              generalize (decide (0 ≤ a1)) = b14
              intro hg
              cases b14
              · skip
                first | exact (nomatch (hg : false = true)) | (simp only [cond_true, cond_false, Bool.and_true, Bool.true_and, Bool.and_false, Bool.false_and]; done) | rfl
              · skip
                revert hg
                generalize (decide (a1 < 2)) = b16
                intro hg
                cases b16
                · skip
                  first | exact (nomatch (hg : false = true)) | (simp only [cond_true, cond_false, Bool.and_true, Bool.true_and, Bool.and_false, Bool.false_and]; done) | rfl
                · skip
                  revert hg
                  generalize (decide (0 ≤ a2)) = b18
                  intro hg
                  cases b18
                  · skip
                    first | exact (nomatch (hg : false = true)) | (simp only [cond_true, cond_false, Bool.and_true, Bool.true_and, Bool.and_false, Bool.false_and]; done) | rfl
                  · skip
                    revert hg
                    generalize (decide (a2 < 36)) = b20
                    intro hg
                    cases b20
                    · skip
                      first | exact (nomatch (hg : false = true)) | (simp only [cond_true, cond_false, Bool.and_true, Bool.true_and, Bool.and_false, Bool.false_and]; done) | rfl
                    · skip
                      first | (simp only [cond_true, cond_false, Bool.and_true, Bool.true_and, Bool.and_false, Bool.false_and]; done) | rfl | exact (nomatch (hg : false = true))
            · skip
              first | (simp only [cond_true, cond_false, Bool.and_true, Bool.true_and, Bool.and_false, Bool.false_and]; done) | rfl | exact (nomatch (hg : false = true))
        · skip
          first | (simp only [cond_true, cond_false, Bool.and_true, Bool.true_and, Bool.and_false, Bool.false_and]; done) | rfl | exact (nomatch (hg : false = true))
      · skip
        first | (simp only [cond_true, cond_false, Bool.and_true, Bool.true_and, Bool.and_false, Bool.false_and]; done) | rfl | exact (nomatch (hg : false = true))
    · skip
      first | (simp only [cond_true, cond_false, Bool.and_true, Bool.true_and, Bool.and_false, Bool.false_and]; done) | rfl | exact (nomatch (hg : false = true))
  · skip
    first | (simp only [cond_true, cond_false, Bool.and_true, Bool.true_and, Bool.and_false, Bool.false_and]; done) | rfl | exact (nomatch (hg : false = true))
noncomputable def spec_WithChances_con : Con := fun args h => match args, h with
  | [.g a0 35, .i .i64 a1, .i .i64 a2, .g a3 31], [] => some (.t [.g (spec_WithChances_v0 Try.prog a0 a1 a2 a3) 35, .i .i64 (spec_WithChances_v1 a0 a1 a2 a3)], .none, (spec_WithChances_gd a0 a1 a2 a3))
  | _, _ => none
theorem spec_WithChances_enter : ∀ args w, (callFunc 23 args).run Try.prog w = .ok (.enter 23 args) w := enter_ok (fn := Try.f23) (by kernel_rfl) (by kernel_rfl) (by kernel_rfl)
theorem spec_WithChances_ok : ConOk Try.prog 23 spec_WithChances_con := (ans_ok (N := 1000) (by kernel_rfl) (mkΓ_cons (con_ok spec_l01Ok_ok) spec_l01Ok_enter (mkΓ_cons (con_ok spec_l01Chances_ok) spec_l01Chances_enter (mkΓ_cons (con_ok spec_l01Tide_ok) spec_l01Tide_enter (mkΓ_cons (con_ok spec_l01Is_ok) spec_l01Is_enter (mkΓ_cons (con_ok spec_l01Dry_ok) spec_l01Dry_enter mkΓ_nil))))) (fn := Try.f23) (by kernel_rfl) (by kernel_rfl) []).of (by
  intro ρ h w args vals r e hA hH hr
  unfold spec_WithChances_con at hr
  split at hr
  · rename_i a0 a1 a2 a3
    obtain ⟨rfl, hg⟩ := Prod.mk.inj (Option.some.inj hr)
    obtain ⟨rfl, hg2⟩ := Prod.mk.inj hg
    exact spec_WithChances_main a0 a1 a2 a3 (hA.wt 0 rfl) (hA.rng 1 rfl) (hA.rng 2 rfl) (hA.wt 3 rfl) hg2
  · cases hr)

theorem impl_WithChances_ans (N : Nat) (a0 : Array Value) (a1 : Int) (a2 : Int) (a3 : Array Value) : ansV Try.prog (mkΓ [(61, con impl_ValidChances_con), (62, con impl_spotCode_con), (63, con impl_isLand_con)]) N Try.f25 [] [.g a0 35, .i .i64 (a1), .i .i64 (a2), .g a3 31] [] = (bif (!((sumW a3 5 == (12 : Int)))) then (some (.t [.g (zc Try.prog 35) 35, .i .i64 (1 : Int)], .none, true))
    else (bif ((impl_spotCode_v0 a0 a1 a2) != (0 : Int)) then (some (.t [.g (zc Try.prog 35) 35, .i .i64 (impl_spotCode_v0 a0 a1 a2)], .none, true))
      else (bif decide (0 ≤ a2) then (bif (impl_isLand_v0 a0 a2) then (some (.t [.g (zc Try.prog 35) 35, .i .i64 (4 : Int)], .none, true))
          else (bif (decide (0 ≤ a1) && decide (a1 < 2)) then (bif (decide (0 ≤ a2) && decide (a2 < 36)) then (some (.t [.g (spl a0 ((3 + ((a1).toNat * 180)) + ((a2).toNat * 5)) a3.toList) 35, .i .i64 (0 : Int)], .none, true))
              else (none))
            else (none)))
        else (none)))) := by kernel_rfl

noncomputable def impl_WithChances_v0 (P : Program) (a0 : Array Value) (a1 : Int) (a2 : Int) (a3 : Array Value) : Array Value := (bif (!((sumW a3 5 == (12 : Int)))) then (zc P 35) else (bif ((impl_spotCode_v0 a0 a1 a2) != (0 : Int)) then (zc P 35) else (bif (impl_isLand_v0 a0 a2) then (zc P 35) else (spl a0 ((3 + ((a1).toNat * 180)) + ((a2).toNat * 5)) a3.toList))))
noncomputable def impl_WithChances_v1 (a0 : Array Value) (a1 : Int) (a2 : Int) (a3 : Array Value) : Int := (bif (!((sumW a3 5 == (12 : Int)))) then (1 : Int) else (bif ((impl_spotCode_v0 a0 a1 a2) != (0 : Int)) then (impl_spotCode_v0 a0 a1 a2) else (bif (impl_isLand_v0 a0 a2) then (4 : Int) else (0 : Int))))
noncomputable def impl_WithChances_gd (a0 : Array Value) (a1 : Int) (a2 : Int) (a3 : Array Value) : Bool := (bif (!((sumW a3 5 == (12 : Int)))) then true else (bif ((impl_spotCode_v0 a0 a1 a2) != (0 : Int)) then true else (bif decide (0 ≤ a2) then (bif (impl_isLand_v0 a0 a2) then true else (bif (decide (0 ≤ a1) && decide (a1 < 2)) then (decide (0 ≤ a2) && decide (a2 < 36)) else false)) else false)))

theorem impl_WithChances_main (a0 : Array Value) (a1 : Int) (a2 : Int) (a3 : Array Value) (h_a0 : WT Try.prog 35 a0) (h_a1 : IntKind.i64.min ≤ a1 ∧ a1 ≤ IntKind.i64.max) (h_a2 : IntKind.i64.min ≤ a2 ∧ a2 ≤ IntKind.i64.max) (h_a3 : WT Try.prog 31 a3) (hg : ((impl_WithChances_gd a0 a1 a2 a3)) = true) : ansV Try.prog (mkΓ [(61, con impl_ValidChances_con), (62, con impl_spotCode_con), (63, con impl_isLand_con)]) 1000 Try.f25 [] [.g a0 35, .i .i64 (a1), .i .i64 (a2), .g a3 31] [] = some (.t [.g (impl_WithChances_v0 Try.prog a0 a1 a2 a3) 35, .i .i64 (impl_WithChances_v1 a0 a1 a2 a3)], .none, true) := by
  refine (impl_WithChances_ans 1000 a0 a1 a2 a3).trans ?_
  unfold impl_WithChances_gd at hg
  unfold impl_WithChances_v0 impl_WithChances_v1
  revert hg
  generalize ((!((sumW a3 5 == (12 : Int))))) = b2
  intro hg
  cases b2
  · skip
    revert hg
    generalize (((impl_spotCode_v0 a0 a1 a2) != (0 : Int))) = b4
    intro hg
    cases b4
    · skip
      revert hg
      generalize (decide (0 ≤ a2)) = b6
      intro hg
      cases b6
      · skip
        first | exact (nomatch (hg : false = true)) | (simp only [cond_true, cond_false, Bool.and_true, Bool.true_and, Bool.and_false, Bool.false_and]; done) | rfl
      · skip
        revert hg
        generalize ((impl_isLand_v0 a0 a2)) = b8
        intro hg
        cases b8
        · skip
          revert hg
          generalize (decide (0 ≤ a1)) = b10
          intro hg
          cases b10
          · skip
            first | exact (nomatch (hg : false = true)) | (simp only [cond_true, cond_false, Bool.and_true, Bool.true_and, Bool.and_false, Bool.false_and]; done) | rfl
          · skip
            revert hg
            generalize (decide (a1 < 2)) = b12
            intro hg
            cases b12
            · skip
              first | exact (nomatch (hg : false = true)) | (simp only [cond_true, cond_false, Bool.and_true, Bool.true_and, Bool.and_false, Bool.false_and]; done) | rfl
            · skip
              revert hg
              generalize (decide (a2 < 36)) = b14
              intro hg
              cases b14
              · skip
                first | exact (nomatch (hg : false = true)) | (simp only [cond_true, cond_false, Bool.and_true, Bool.true_and, Bool.and_false, Bool.false_and]; done) | rfl
              · skip
                first | (simp only [cond_true, cond_false, Bool.and_true, Bool.true_and, Bool.and_false, Bool.false_and]; done) | rfl | exact (nomatch (hg : false = true))
        · skip
          first | (simp only [cond_true, cond_false, Bool.and_true, Bool.true_and, Bool.and_false, Bool.false_and]; done) | rfl | exact (nomatch (hg : false = true))
    · skip
      first | (simp only [cond_true, cond_false, Bool.and_true, Bool.true_and, Bool.and_false, Bool.false_and]; done) | rfl | exact (nomatch (hg : false = true))
  · skip
    first | (simp only [cond_true, cond_false, Bool.and_true, Bool.true_and, Bool.and_false, Bool.false_and]; done) | rfl | exact (nomatch (hg : false = true))
noncomputable def impl_WithChances_con : Con := fun args h => match args, h with
  | [.g a0 35, .i .i64 a1, .i .i64 a2, .g a3 31], [] => some (.t [.g (impl_WithChances_v0 Try.prog a0 a1 a2 a3) 35, .i .i64 (impl_WithChances_v1 a0 a1 a2 a3)], .none, (impl_WithChances_gd a0 a1 a2 a3))
  | _, _ => none
theorem impl_WithChances_enter : ∀ args w, (callFunc 25 args).run Try.prog w = .ok (.enter 25 args) w := enter_ok (fn := Try.f25) (by kernel_rfl) (by kernel_rfl) (by kernel_rfl)
theorem impl_WithChances_ok : ConOk Try.prog 25 impl_WithChances_con := (ans_ok (N := 1000) (by kernel_rfl) (mkΓ_cons (con_ok impl_ValidChances_ok) impl_ValidChances_enter (mkΓ_cons (con_ok impl_spotCode_ok) impl_spotCode_enter (mkΓ_cons (con_ok impl_isLand_ok) impl_isLand_enter mkΓ_nil))) (fn := Try.f25) (by kernel_rfl) (by kernel_rfl) []).of (by
  intro ρ h w args vals r e hA hH hr
  unfold impl_WithChances_con at hr
  split at hr
  · rename_i a0 a1 a2 a3
    obtain ⟨rfl, hg⟩ := Prod.mk.inj (Option.some.inj hr)
    obtain ⟨rfl, hg2⟩ := Prod.mk.inj hg
    exact impl_WithChances_main a0 a1 a2 a3 (hA.wt 0 rfl) (hA.rng 1 rfl) (hA.rng 2 rfl) (hA.wt 3 rfl) hg2
  · cases hr)

theorem laws_FnExactWithChances_ans (N : Nat) (a0 : Array Value) (a1 : Int) (a2 : Int) (a3 : Array Value) : ansV Try.prog (mkΓ [(16, con laws_toSea_con), (22, con laws_eqSea_con), (23, con spec_WithChances_con), (24, con laws_toChances_con), (25, con impl_WithChances_con)]) N Try.f6 [] [.g a0 28, .i .i64 (a1), .i .i64 (a2), .g a3 24] [] = (bif (spec_WithChances_gd a0 a1 a2 a3) then (bif (impl_WithChances_gd a0 a1 a2 a3) then (bif (!(sameB (impl_WithChances_v0 Try.prog a0 a1 a2 a3) (spec_WithChances_v0 Try.prog a0 a1 a2 a3))) then (some (.a (.b (false)), .none, true))
        else (bif ((impl_WithChances_v1 a0 a1 a2 a3) != (spec_WithChances_v1 a0 a1 a2 a3)) then (some (.a (.b (false)), .none, true))
          else (some (.a (.b (true)), .none, true))))
      else (none))
    else (none)) := by kernel_rfl

noncomputable def laws_FnExactWithChances_v0 (P : Program) (a0 : Array Value) (a1 : Int) (a2 : Int) (a3 : Array Value) : Bool := (bif (!(sameB (impl_WithChances_v0 P a0 a1 a2 a3) (spec_WithChances_v0 P a0 a1 a2 a3))) then false else (bif ((impl_WithChances_v1 a0 a1 a2 a3) != (spec_WithChances_v1 a0 a1 a2 a3)) then false else true))
noncomputable def laws_FnExactWithChances_gd (a0 : Array Value) (a1 : Int) (a2 : Int) (a3 : Array Value) : Bool := (bif (spec_WithChances_gd a0 a1 a2 a3) then (impl_WithChances_gd a0 a1 a2 a3) else false)

theorem laws_FnExactWithChances_main (a0 : Array Value) (a1 : Int) (a2 : Int) (a3 : Array Value) (h_a0 : WT Try.prog 28 a0) (h_a1 : IntKind.i64.min ≤ a1 ∧ a1 ≤ IntKind.i64.max) (h_a2 : IntKind.i64.min ≤ a2 ∧ a2 ≤ IntKind.i64.max) (h_a3 : WT Try.prog 24 a3) (hg : ((laws_FnExactWithChances_gd a0 a1 a2 a3)) = true) : ansV Try.prog (mkΓ [(16, con laws_toSea_con), (22, con laws_eqSea_con), (23, con spec_WithChances_con), (24, con laws_toChances_con), (25, con impl_WithChances_con)]) 1000 Try.f6 [] [.g a0 28, .i .i64 (a1), .i .i64 (a2), .g a3 24] [] = some (.a (.b ((laws_FnExactWithChances_v0 Try.prog a0 a1 a2 a3))), .none, true) := by
  refine (laws_FnExactWithChances_ans 1000 a0 a1 a2 a3).trans ?_
  unfold laws_FnExactWithChances_gd at hg
  unfold laws_FnExactWithChances_v0
  revert hg
  generalize ((spec_WithChances_gd a0 a1 a2 a3)) = b2
  intro hg
  cases b2
  · skip
    first | exact (nomatch (hg : false = true)) | (simp only [cond_true, cond_false, Bool.and_true, Bool.true_and, Bool.and_false, Bool.false_and]; done) | rfl
  · skip
    revert hg
    generalize ((impl_WithChances_gd a0 a1 a2 a3)) = b4
    intro hg
    cases b4
    · skip
      first | exact (nomatch (hg : false = true)) | (simp only [cond_true, cond_false, Bool.and_true, Bool.true_and, Bool.and_false, Bool.false_and]; done) | rfl
    · skip
      revert hg
      generalize ((!(sameB (impl_WithChances_v0 Try.prog a0 a1 a2 a3) (spec_WithChances_v0 Try.prog a0 a1 a2 a3)))) = b6
      intro hg
      cases b6
      · skip
        revert hg
        generalize (((impl_WithChances_v1 a0 a1 a2 a3) != (spec_WithChances_v1 a0 a1 a2 a3))) = b8
        intro hg
        cases b8
        · skip
          first | (simp only [cond_true, cond_false, Bool.and_true, Bool.true_and, Bool.and_false, Bool.false_and]; done) | rfl | exact (nomatch (hg : false = true))
        · skip
          first | (simp only [cond_true, cond_false, Bool.and_true, Bool.true_and, Bool.and_false, Bool.false_and]; done) | rfl | exact (nomatch (hg : false = true))
      · skip
        first | (simp only [cond_true, cond_false, Bool.and_true, Bool.true_and, Bool.and_false, Bool.false_and]; done) | rfl | exact (nomatch (hg : false = true))
noncomputable def laws_FnExactWithChances_con : Con := fun args h => match args, h with
  | [.g a0 28, .i .i64 a1, .i .i64 a2, .g a3 24], [] => some (.a (.b ((laws_FnExactWithChances_v0 Try.prog a0 a1 a2 a3))), .none, (laws_FnExactWithChances_gd a0 a1 a2 a3))
  | _, _ => none
theorem laws_FnExactWithChances_enter : ∀ args w, (callFunc 6 args).run Try.prog w = .ok (.enter 6 args) w := enter_ok (fn := Try.f6) (by kernel_rfl) (by kernel_rfl) (by kernel_rfl)
theorem laws_FnExactWithChances_ok : ConOk Try.prog 6 laws_FnExactWithChances_con := (ans_ok (N := 1000) (by kernel_rfl) (mkΓ_cons (con_ok laws_toSea_ok) laws_toSea_enter (mkΓ_cons (con_ok laws_eqSea_ok) laws_eqSea_enter (mkΓ_cons (con_ok spec_WithChances_ok) spec_WithChances_enter (mkΓ_cons (con_ok laws_toChances_ok) laws_toChances_enter (mkΓ_cons (con_ok impl_WithChances_ok) impl_WithChances_enter mkΓ_nil))))) (fn := Try.f6) (by kernel_rfl) (by kernel_rfl) []).of (by
  intro ρ h w args vals r e hA hH hr
  unfold laws_FnExactWithChances_con at hr
  split at hr
  · rename_i a0 a1 a2 a3
    obtain ⟨rfl, hg⟩ := Prod.mk.inj (Option.some.inj hr)
    obtain ⟨rfl, hg2⟩ := Prod.mk.inj hg
    exact laws_FnExactWithChances_main a0 a1 a2 a3 (hA.wt 0 rfl) (hA.rng 1 rfl) (hA.rng 2 rfl) (hA.wt 3 rfl) hg2
  · cases hr)

theorem laws_FnExactWithChances_true (a0 : Array Value) (a1 : Int) (a2 : Int) (a3 : Array Value) (h_a0 : WT Try.prog 28 a0) (h_a1 : IntKind.i64.min ≤ a1 ∧ a1 ≤ IntKind.i64.max) (h_a2 : IntKind.i64.min ≤ a2 ∧ a2 ≤ IntKind.i64.max) (h_a3 : WT Try.prog 24 a3) : ((laws_FnExactWithChances_gd a0 a1 a2 a3)) = true ∧ ((laws_FnExactWithChances_v0 Try.prog a0 a1 a2 a3)) = true := by
  have hS := wt_land lay_lawsea h_a0
  have hsp : impl_spotCode_v0 a0 a1 a2 = (bif (spec_l01Asked_v0 a2 a0 == (0 : Int)) then (bif (!(spec_l00In_v0 a1 0 1)) then 2 else spec_l01Asked_v0 a2 a0) else spec_l01Asked_v0 a2 a0) := by
    unfold impl_spotCode_v0; rw [cell_code, tide_eq]
  have key : (spec_WithChances_gd a0 a1 a2 a3 = true ∧ impl_WithChances_gd a0 a1 a2 a3 = true) ∧ impl_WithChances_v0 Try.prog a0 a1 a2 a3 = spec_WithChances_v0 Try.prog a0 a1 a2 a3 ∧ impl_WithChances_v1 a0 a1 a2 a3 = spec_WithChances_v1 a0 a1 a2 a3 := by
    unfold spec_WithChances_gd impl_WithChances_gd impl_WithChances_v0 spec_WithChances_v0 impl_WithChances_v1 spec_WithChances_v1
    rw [hsp]
    unfold spec_l01Asked_v0
    generalize (sumW a3 5 == (12 : Int)) = s
    cases s
    · cases okS a0 <;> exact ⟨⟨rfl, rfl⟩, rfl, rfl⟩
    · cases okS a0
      · exact ⟨⟨rfl, rfl⟩, rfl, rfl⟩
      · cases ht : spec_l00In_v0 a1 0 1
        · cases spec_l01Is_v0 a2 a0 <;> exact ⟨⟨rfl, rfl⟩, rfl, rfl⟩
        · cases hi : spec_l01Is_v0 a2 a0
          · exact ⟨⟨rfl, rfl⟩, rfl, rfl⟩
          · have hc := is_range hi
            have d1 : decide (0 ≤ a2) = true := decide_eq_true hc.1
            have d2 : decide (a2 < 36) = true := decide_eq_true (by omega)
            have d3 : decide (0 ≤ IntKind.u64.wrap a2) = true := by rw [u64_c hc]; exact d1
            have hr := tide_range ht
            have d4 : decide (0 ≤ a1) = true := decide_eq_true hr.1
            have d5 : decide (a1 < 2) = true := decide_eq_true (by omega)
            rw [land_dry hS hc, d1, d2, d3, d4, d5]
            cases spec_l01Dry_v0 a2 a0 <;> exact ⟨⟨rfl, rfl⟩, rfl, rfl⟩
  obtain ⟨⟨k1, k2⟩, k3, k4⟩ := key
  unfold laws_FnExactWithChances_gd laws_FnExactWithChances_v0
  rw [k1, k2, k3, k4, sameB_self]
  exact ⟨rfl, by simp only [bne_self_eq_false, cond_false, Bool.not_true]⟩

namespace lawFnExactWithChances
theorem lifted (os : Os) (started : os.Started) (H : Type) (enc : TypeId × Value → H) :
    ReturnsInHanded {} Try.checked os 6 .any (Rows.fnExactWithChancesSpec.pre6 enc Try.prog Try.f6 Rows.fnExactWithChancesRow.domain false) (Rows.fnExactWithChancesSpec.post enc Try.prog Try.f6 false true false false) := by
  refine law_lifted (C := Try.checked) (tb := 4) (by kernel_rfl) (by kernel_rfl) (by kernel_rfl) Try.func6 (by kernel_rfl) Try.underlying4 (of_decide_eq_true (by kernel_rfl)) rfl ?_ os started H enc
    (ChangeSpec.witness6 (enc := enc) (C := Try.checked) false ⟨#[], #[.agg (zc Try.prog 28), .int .i64 0, .int .i64 0, .agg (zc Try.prog 24)], []⟩ 8 (by kernel_rfl) (by kernel_rfl) (by kernel_rfl) (by kernel_rfl)) ?_
  · intro H ds hds
    rw [show Try.f6.params.toList.length = 4 by kernel_rfl] at hds
    match ds, hds with
    | [_, _, _, _], _ => rfl
  · intro W base args ds ps hval hA
    rw [Try.params6] at hA hval
    obtain ⟨v0, v1, v2, v3, d0, d1, d2, d3, p0, p1, p2, p3, hargs, rfl, rfl, h0, h1, h2, h3⟩ := trodAll_four hA
    obtain ⟨a0, e0, w0⟩ := open_data (t := 28) 8 (by kernel_rfl) (by kernel_rfl) (hval 0 28 v0 rfl (by rw [hargs]; rfl)) h0
    obtain ⟨a1, e1, _, _, w1⟩ := open_int Try.underlying2 (hval 1 2 v1 rfl (by rw [hargs]; rfl)) h1
    obtain ⟨a2, e2, _, _, w2⟩ := open_int Try.underlying2 (hval 2 2 v2 rfl (by rw [hargs]; rfl)) h2
    obtain ⟨a3, e3, w3⟩ := open_data (t := 24) 8 (by kernel_rfl) (by kernel_rfl) (hval 3 24 v3 rfl (by rw [hargs]; rfl)) h3
    obtain rfl : args = #[.agg a0, .int .i64 a1, .int .i64 a2, .agg a3] := by rw [hargs, e0, e1, e2, e3]
    obtain ⟨hg, hv⟩ := laws_FnExactWithChances_true a0 a1 a2 a3 w0 (wfb w1) (wfb w2) w3
    have hr : laws_FnExactWithChances_con [.g a0 28, .i .i64 a1, .i .i64 a2, .g a3 24] [] = some (.a (.b true), .none, true) := by
      show (some (SV.a (SA.b ((laws_FnExactWithChances_v0 Try.prog a0 a1 a2 a3))), Eff.none, (laws_FnExactWithChances_gd a0 a1 a2 a3)) : Option (SV × Eff × Bool)) = _
      rw [hg, hv]
    exact calls_con laws_FnExactWithChances_ok hr W (vals := [.agg a0, .int .i64 a1, .int .i64 a2, .agg a3]) (allCons ⟨rfl, w0⟩ (allCons ⟨rfl, wfb w1⟩ (allCons ⟨rfl, wfb w2⟩ (allCons ⟨rfl, w3⟩ allNil))))

theorem over : Rows.fnExactWithChancesRow.holds Try.pinned (OpenSpec.ofChange Rows.fnExactWithChancesSpec) :=
  OpenClaim.holds_of_wide 6 Try.f6 rfl rfl rfl rfl rfl rfl rfl ⟨rfl, rfl, rfl, rfl, rfl⟩ rfl rfl rfl rfl rfl (by kernel_rfl) Try.func6 (by kernel_rfl)
    (of_decide_eq_true (by kernel_rfl)) (by unfold Func.isWrapper; first | (rw [if_pos (by decide +kernel)]; kernel_rfl) | (rw [if_neg (by decide +kernel)]; exact ⟨rfl, rfl⟩))
    (fun os started H enc _ => lifted os started H enc)

theorem proved : Rows.FnExactWithChancesSaid := over
#print axioms proved
end lawFnExactWithChances

end
end Go.Proofs.Ytbgkcfgdedhclaa
