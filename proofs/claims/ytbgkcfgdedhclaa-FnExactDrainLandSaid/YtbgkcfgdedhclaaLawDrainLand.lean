/- For every sea and cell spec and program drain land alike. -/
import Derived.Test.YtbgkcfgdedhclaaRows
import Derived.Test.YtbgkcfgdedhclaaChecked
import Derived.Test.YtbgkcfgdedhclaaBase
import Derived.Test.YtbgkcfgdedhclaaVeSeaA
namespace Go.Proofs.Ytbgkcfgdedhclaa
open Go.ChangeShapes Go.WideShapes Go.ChangeAt Go.RowKit Ve
set_option linter.unusedVariables false
set_option linter.unusedSimpArgs false
set_option maxRecDepth 100000
noncomputable section
theorem spec_l01Still_ans (N : Nat)  : ansV Try.prog (mkΓ []) N Try.f51 [] [] [] = (some (.a (.g #[.int .u8 (12 : Int), .int .u8 (0 : Int), .int .u8 (0 : Int), .int .u8 (0 : Int), .int .u8 (0 : Int)] 31), .none, true)) := by kernel_rfl



theorem spec_l01Still_main   (hg : (true) = true) : ansV Try.prog (mkΓ []) 1000 Try.f51 [] [] [] = some (.a (.g #[.int .u8 (12 : Int), .int .u8 (0 : Int), .int .u8 (0 : Int), .int .u8 (0 : Int), .int .u8 (0 : Int)] 31), .none, true) := by
  refine (spec_l01Still_ans 1000 ).trans ?_
  rfl
noncomputable def spec_l01Still_con : Con := fun args h => match args, h with
  | [], [] => some (.a (.g #[.int .u8 (12 : Int), .int .u8 (0 : Int), .int .u8 (0 : Int), .int .u8 (0 : Int), .int .u8 (0 : Int)] 31), .none, true)
  | _, _ => none
theorem spec_l01Still_enter : ∀ args w, (callFunc 51 args).run Try.prog w = .ok (.enter 51 args) w := enter_ok (fn := Try.f51) (by kernel_rfl) (by kernel_rfl) (by kernel_rfl)
theorem spec_l01Still_ok : ConOk Try.prog 51 spec_l01Still_con := (ans_ok (N := 1000) (by kernel_rfl) mkΓ_nil (fn := Try.f51) (by kernel_rfl) (by kernel_rfl) []).of (by
  intro ρ h w args vals r e hA hH hr
  unfold spec_l01Still_con at hr
  split at hr
  · obtain ⟨rfl, hg⟩ := Prod.mk.inj (Option.some.inj hr)
    obtain ⟨rfl, hg2⟩ := Prod.mk.inj hg
    exact spec_l01Still_main hg2
  · cases hr)

theorem impl_stillChances_ans (N : Nat)  : ansV Try.prog (mkΓ []) N Try.f55 [] [] [] = (some (.a (.g #[.int .u8 (12 : Int), .int .u8 (0 : Int), .int .u8 (0 : Int), .int .u8 (0 : Int), .int .u8 (0 : Int)] 31), .none, true)) := by kernel_rfl



theorem impl_stillChances_main   (hg : (true) = true) : ansV Try.prog (mkΓ []) 1000 Try.f55 [] [] [] = some (.a (.g #[.int .u8 (12 : Int), .int .u8 (0 : Int), .int .u8 (0 : Int), .int .u8 (0 : Int), .int .u8 (0 : Int)] 31), .none, true) := by
  refine (impl_stillChances_ans 1000 ).trans ?_
  rfl
noncomputable def impl_stillChances_con : Con := fun args h => match args, h with
  | [], [] => some (.a (.g #[.int .u8 (12 : Int), .int .u8 (0 : Int), .int .u8 (0 : Int), .int .u8 (0 : Int), .int .u8 (0 : Int)] 31), .none, true)
  | _, _ => none
theorem impl_stillChances_enter : ∀ args w, (callFunc 55 args).run Try.prog w = .ok (.enter 55 args) w := enter_ok (fn := Try.f55) (by kernel_rfl) (by kernel_rfl) (by kernel_rfl)
theorem impl_stillChances_ok : ConOk Try.prog 55 impl_stillChances_con := (ans_ok (N := 1000) (by kernel_rfl) mkΓ_nil (fn := Try.f55) (by kernel_rfl) (by kernel_rfl) []).of (by
  intro ρ h w args vals r e hA hH hr
  unfold impl_stillChances_con at hr
  split at hr
  · obtain ⟨rfl, hg⟩ := Prod.mk.inj (Option.some.inj hr)
    obtain ⟨rfl, hg2⟩ := Prod.mk.inj hg
    exact impl_stillChances_main hg2
  · cases hr)

theorem spec_DrainLand_ans (N : Nat) (a0 : Array Value) (a1 : Int) : ansV Try.prog (mkΓ [(51, con spec_l01Still_con), (60, con spec_l01Dry_con), (68, con spec_l01Asked_con)]) N Try.f30 [] [.g a0 35, .i .i64 (a1)] [] = (bif ((spec_l01Asked_v0 a1 a0) != (0 : Int)) then (some (.t [.g (zc Try.prog 35) 35, .i .i64 (spec_l01Asked_v0 a1 a0)], .none, true))
    else (bif decide (0 ≤ (IntKind.u64.wrap a1)) then (bif (!((spec_l01Dry_v0 a1 a0))) then (some (.t [.g (zc Try.prog 35) 35, .i .i64 (4 : Int)], .none, true))
        else (bif decide (0 ≤ (IntKind.u64.wrap a1)) then (bif (decide (0 ≤ a1) && decide (a1 < 36)) then (bif (decide (0 ≤ a1) && decide (a1 < 36)) then (some (.t [.g (spl (spl (a0.setIfInBounds 2 (.int .u64 (IntKind.u64.wrap (BitVec.ofInt IntKind.u64.bits (num a0 2) &&& ~~~(BitVec.ofInt IntKind.u64.bits (IntKind.u64.wrap ((1 : Int) * 2 ^ (min ((IntKind.u64.wrap a1)).toNat IntKind.u64.bits))))).toNat))) (3 + ((a1).toNat * 5)) (#[.int .u8 (12 : Int), .int .u8 (0 : Int), .int .u8 (0 : Int), .int .u8 (0 : Int), .int .u8 (0 : Int)] : Array Value).toList) (183 + ((a1).toNat * 5)) (#[.int .u8 (12 : Int), .int .u8 (0 : Int), .int .u8 (0 : Int), .int .u8 (0 : Int), .int .u8 (0 : Int)] : Array Value).toList) 35, .i .i64 (0 : Int)], .none, true))
              else (none))
            else (none))
          else (none)))
      else (none))) := by kernel_rfl

noncomputable def spec_DrainLand_v0 (P : Program) (a0 : Array Value) (a1 : Int) : Array Value := (bif ((spec_l01Asked_v0 a1 a0) != (0 : Int)) then (zc P 35) else (bif (!((spec_l01Dry_v0 a1 a0))) then (zc P 35) else (spl (spl (a0.setIfInBounds 2 (.int .u64 (IntKind.u64.wrap (BitVec.ofInt IntKind.u64.bits (num a0 2) &&& ~~~(BitVec.ofInt IntKind.u64.bits (IntKind.u64.wrap ((1 : Int) * 2 ^ (min ((IntKind.u64.wrap a1)).toNat IntKind.u64.bits))))).toNat))) (3 + ((a1).toNat * 5)) (#[.int .u8 (12 : Int), .int .u8 (0 : Int), .int .u8 (0 : Int), .int .u8 (0 : Int), .int .u8 (0 : Int)] : Array Value).toList) (183 + ((a1).toNat * 5)) (#[.int .u8 (12 : Int), .int .u8 (0 : Int), .int .u8 (0 : Int), .int .u8 (0 : Int), .int .u8 (0 : Int)] : Array Value).toList)))
noncomputable def spec_DrainLand_v1 (a0 : Array Value) (a1 : Int) : Int := (bif ((spec_l01Asked_v0 a1 a0) != (0 : Int)) then (spec_l01Asked_v0 a1 a0) else (bif (!((spec_l01Dry_v0 a1 a0))) then (4 : Int) else (0 : Int)))
noncomputable def spec_DrainLand_gd (a0 : Array Value) (a1 : Int) : Bool := (bif ((spec_l01Asked_v0 a1 a0) != (0 : Int)) then true else (bif decide (0 ≤ (IntKind.u64.wrap a1)) then (bif (!((spec_l01Dry_v0 a1 a0))) then true else (bif decide (0 ≤ (IntKind.u64.wrap a1)) then (bif (decide (0 ≤ a1) && decide (a1 < 36)) then (decide (0 ≤ a1) && decide (a1 < 36)) else false) else false)) else false))

theorem spec_DrainLand_main (a0 : Array Value) (a1 : Int) (h_a0 : WT Try.prog 35 a0) (h_a1 : IntKind.i64.min ≤ a1 ∧ a1 ≤ IntKind.i64.max) (hg : ((spec_DrainLand_gd a0 a1)) = true) : ansV Try.prog (mkΓ [(51, con spec_l01Still_con), (60, con spec_l01Dry_con), (68, con spec_l01Asked_con)]) 1000 Try.f30 [] [.g a0 35, .i .i64 (a1)] [] = some (.t [.g (spec_DrainLand_v0 Try.prog a0 a1) 35, .i .i64 (spec_DrainLand_v1 a0 a1)], .none, true) := by
  refine (spec_DrainLand_ans 1000 a0 a1).trans ?_
  unfold spec_DrainLand_gd at hg
  unfold spec_DrainLand_v0 spec_DrainLand_v1
  revert hg
  generalize (((spec_l01Asked_v0 a1 a0) != (0 : Int))) = b2
  intro hg
  cases b2
  · skip
    revert hg
    generalize (decide (0 ≤ (IntKind.u64.wrap a1))) = b4
    intro hg
    cases b4
    · skip
      first | exact (nomatch (hg : false = true)) | (simp only [cond_true, cond_false]; done) | rfl
    · skip
      revert hg
      generalize ((!((spec_l01Dry_v0 a1 a0)))) = b6
      intro hg
      cases b6
      · skip
        revert hg
        generalize ((decide (0 ≤ a1) && decide (a1 < 36))) = b8
        intro hg
        cases b8
        · skip
          first | exact (nomatch (hg : false = true)) | (simp only [cond_true, cond_false]; done) | rfl
        · skip
          first | (simp only [cond_true, cond_false]; done) | rfl | exact (nomatch (hg : false = true))
      · skip
        first | (simp only [cond_true, cond_false]; done) | rfl | exact (nomatch (hg : false = true))
  · skip
    first | (simp only [cond_true, cond_false]; done) | rfl | exact (nomatch (hg : false = true))
noncomputable def spec_DrainLand_con : Con := fun args h => match args, h with
  | [.g a0 35, .i .i64 a1], [] => some (.t [.g (spec_DrainLand_v0 Try.prog a0 a1) 35, .i .i64 (spec_DrainLand_v1 a0 a1)], .none, (spec_DrainLand_gd a0 a1))
  | _, _ => none
theorem spec_DrainLand_enter : ∀ args w, (callFunc 30 args).run Try.prog w = .ok (.enter 30 args) w := enter_ok (fn := Try.f30) (by kernel_rfl) (by kernel_rfl) (by kernel_rfl)
theorem spec_DrainLand_ok : ConOk Try.prog 30 spec_DrainLand_con := (ans_ok (N := 1000) (by kernel_rfl) (mkΓ_cons (con_ok spec_l01Still_ok) spec_l01Still_enter (mkΓ_cons (con_ok spec_l01Dry_ok) spec_l01Dry_enter (mkΓ_cons (con_ok spec_l01Asked_ok) spec_l01Asked_enter mkΓ_nil))) (fn := Try.f30) (by kernel_rfl) (by kernel_rfl) []).of (by
  intro ρ h w args vals r e hA hH hr
  unfold spec_DrainLand_con at hr
  split at hr
  · rename_i a0 a1
    obtain ⟨rfl, hg⟩ := Prod.mk.inj (Option.some.inj hr)
    obtain ⟨rfl, hg2⟩ := Prod.mk.inj hg
    exact spec_DrainLand_main a0 a1 (hA.wt 0 rfl) (hA.rng 1 rfl) hg2
  · cases hr)

theorem impl_DrainLand_ans (N : Nat) (a0 : Array Value) (a1 : Int) : ansV Try.prog (mkΓ [(54, con impl_setBoth_con), (55, con impl_stillChances_con), (69, con impl_cellCode_con), (70, con impl_bitOf_con), (71, con impl_isWater_con)]) N Try.f31 [] [.g a0 35, .i .i64 (a1)] [] = (bif ((impl_cellCode_v0 a0 a1) != (0 : Int)) then (some (.t [.g (zc Try.prog 35) 35, .i .i64 (impl_cellCode_v0 a0 a1)], .none, true))
    else (bif decide (0 ≤ a1) then (bif (impl_isWater_v0 a0 a1) then (some (.t [.g (zc Try.prog 35) 35, .i .i64 (4 : Int)], .none, true))
        else (bif decide (0 ≤ a1) then (bif (impl_setBoth_gd a1 (#[.int .u8 (12 : Int), .int .u8 (0 : Int), .int .u8 (0 : Int), .int .u8 (0 : Int), .int .u8 (0 : Int)] : Array Value) (a0.setIfInBounds 2 (.int .u64 (IntKind.u64.wrap (BitVec.ofInt IntKind.u64.bits (num a0 2) &&& ~~~(BitVec.ofInt IntKind.u64.bits (impl_bitOf_v0 a1))).toNat)))) then (some (.t [.g (impl_setBoth_v0 a1 (#[.int .u8 (12 : Int), .int .u8 (0 : Int), .int .u8 (0 : Int), .int .u8 (0 : Int), .int .u8 (0 : Int)] : Array Value) (a0.setIfInBounds 2 (.int .u64 (IntKind.u64.wrap (BitVec.ofInt IntKind.u64.bits (num a0 2) &&& ~~~(BitVec.ofInt IntKind.u64.bits (impl_bitOf_v0 a1))).toNat)))) 35, .i .i64 (0 : Int)], .none, true))
            else (none))
          else (none)))
      else (none))) := by kernel_rfl

noncomputable def impl_DrainLand_v0 (P : Program) (a0 : Array Value) (a1 : Int) : Array Value := (bif ((impl_cellCode_v0 a0 a1) != (0 : Int)) then (zc P 35) else (bif (impl_isWater_v0 a0 a1) then (zc P 35) else (impl_setBoth_v0 a1 (#[.int .u8 (12 : Int), .int .u8 (0 : Int), .int .u8 (0 : Int), .int .u8 (0 : Int), .int .u8 (0 : Int)] : Array Value) (a0.setIfInBounds 2 (.int .u64 (IntKind.u64.wrap (BitVec.ofInt IntKind.u64.bits (num a0 2) &&& ~~~(BitVec.ofInt IntKind.u64.bits (impl_bitOf_v0 a1))).toNat))))))
noncomputable def impl_DrainLand_v1 (a0 : Array Value) (a1 : Int) : Int := (bif ((impl_cellCode_v0 a0 a1) != (0 : Int)) then (impl_cellCode_v0 a0 a1) else (bif (impl_isWater_v0 a0 a1) then (4 : Int) else (0 : Int)))
noncomputable def impl_DrainLand_gd (a0 : Array Value) (a1 : Int) : Bool := (bif ((impl_cellCode_v0 a0 a1) != (0 : Int)) then true else (bif decide (0 ≤ a1) then (bif (impl_isWater_v0 a0 a1) then true else (bif decide (0 ≤ a1) then (impl_setBoth_gd a1 (#[.int .u8 (12 : Int), .int .u8 (0 : Int), .int .u8 (0 : Int), .int .u8 (0 : Int), .int .u8 (0 : Int)] : Array Value) (a0.setIfInBounds 2 (.int .u64 (IntKind.u64.wrap (BitVec.ofInt IntKind.u64.bits (num a0 2) &&& ~~~(BitVec.ofInt IntKind.u64.bits (impl_bitOf_v0 a1))).toNat)))) else false)) else false))

theorem impl_DrainLand_main (a0 : Array Value) (a1 : Int) (h_a0 : WT Try.prog 35 a0) (h_a1 : IntKind.i64.min ≤ a1 ∧ a1 ≤ IntKind.i64.max) (hg : ((impl_DrainLand_gd a0 a1)) = true) : ansV Try.prog (mkΓ [(54, con impl_setBoth_con), (55, con impl_stillChances_con), (69, con impl_cellCode_con), (70, con impl_bitOf_con), (71, con impl_isWater_con)]) 1000 Try.f31 [] [.g a0 35, .i .i64 (a1)] [] = some (.t [.g (impl_DrainLand_v0 Try.prog a0 a1) 35, .i .i64 (impl_DrainLand_v1 a0 a1)], .none, true) := by
  refine (impl_DrainLand_ans 1000 a0 a1).trans ?_
  unfold impl_DrainLand_gd at hg
  unfold impl_DrainLand_v0 impl_DrainLand_v1
  revert hg
  generalize (((impl_cellCode_v0 a0 a1) != (0 : Int))) = b2
  intro hg
  cases b2
  · skip
    revert hg
    generalize (decide (0 ≤ a1)) = b4
    intro hg
    cases b4
    · skip
      first | exact (nomatch (hg : false = true)) | (simp only [cond_true, cond_false]; done) | rfl
    · skip
      revert hg
      generalize ((impl_isWater_v0 a0 a1)) = b6
      intro hg
      cases b6
      · skip
        revert hg
        generalize ((impl_setBoth_gd a1 (#[.int .u8 (12 : Int), .int .u8 (0 : Int), .int .u8 (0 : Int), .int .u8 (0 : Int), .int .u8 (0 : Int)] : Array Value) (a0.setIfInBounds 2 (.int .u64 (IntKind.u64.wrap (BitVec.ofInt IntKind.u64.bits (num a0 2) &&& ~~~(BitVec.ofInt IntKind.u64.bits (impl_bitOf_v0 a1))).toNat))))) = b8
        intro hg
        cases b8
        · skip
          first | exact (nomatch (hg : false = true)) | (simp only [cond_true, cond_false]; done) | rfl
        · skip
          first | (simp only [cond_true, cond_false]; done) | rfl | exact (nomatch (hg : false = true))
      · skip
        first | (simp only [cond_true, cond_false]; done) | rfl | exact (nomatch (hg : false = true))
  · skip
    first | (simp only [cond_true, cond_false]; done) | rfl | exact (nomatch (hg : false = true))
noncomputable def impl_DrainLand_con : Con := fun args h => match args, h with
  | [.g a0 35, .i .i64 a1], [] => some (.t [.g (impl_DrainLand_v0 Try.prog a0 a1) 35, .i .i64 (impl_DrainLand_v1 a0 a1)], .none, (impl_DrainLand_gd a0 a1))
  | _, _ => none
theorem impl_DrainLand_enter : ∀ args w, (callFunc 31 args).run Try.prog w = .ok (.enter 31 args) w := enter_ok (fn := Try.f31) (by kernel_rfl) (by kernel_rfl) (by kernel_rfl)
theorem impl_DrainLand_ok : ConOk Try.prog 31 impl_DrainLand_con := (ans_ok (N := 1000) (by kernel_rfl) (mkΓ_cons (con_ok impl_setBoth_ok) impl_setBoth_enter (mkΓ_cons (con_ok impl_stillChances_ok) impl_stillChances_enter (mkΓ_cons (con_ok impl_cellCode_ok) impl_cellCode_enter (mkΓ_cons (con_ok impl_bitOf_ok) impl_bitOf_enter (mkΓ_cons (con_ok impl_isWater_ok) impl_isWater_enter mkΓ_nil))))) (fn := Try.f31) (by kernel_rfl) (by kernel_rfl) []).of (by
  intro ρ h w args vals r e hA hH hr
  unfold impl_DrainLand_con at hr
  split at hr
  · rename_i a0 a1
    obtain ⟨rfl, hg⟩ := Prod.mk.inj (Option.some.inj hr)
    obtain ⟨rfl, hg2⟩ := Prod.mk.inj hg
    exact impl_DrainLand_main a0 a1 (hA.wt 0 rfl) (hA.rng 1 rfl) hg2
  · cases hr)

theorem laws_FnExactDrainLand_ans (N : Nat) (a0 : Array Value) (a1 : Int) : ansV Try.prog (mkΓ [(16, con laws_toSea_con), (22, con laws_eqSea_con), (30, con spec_DrainLand_con), (31, con impl_DrainLand_con)]) N Try.f9 [] [.g a0 28, .i .i64 (a1)] [] = (bif (spec_DrainLand_gd a0 a1) then (bif (impl_DrainLand_gd a0 a1) then (bif (!(sameB (impl_DrainLand_v0 Try.prog a0 a1) (spec_DrainLand_v0 Try.prog a0 a1))) then (some (.a (.b (false)), .none, true))
        else (bif ((impl_DrainLand_v1 a0 a1) != (spec_DrainLand_v1 a0 a1)) then (some (.a (.b (false)), .none, true))
          else (some (.a (.b (true)), .none, true))))
      else (none))
    else (none)) := by kernel_rfl

noncomputable def laws_FnExactDrainLand_v0 (P : Program) (a0 : Array Value) (a1 : Int) : Bool := (bif (!(sameB (impl_DrainLand_v0 P a0 a1) (spec_DrainLand_v0 P a0 a1))) then false else (bif ((impl_DrainLand_v1 a0 a1) != (spec_DrainLand_v1 a0 a1)) then false else true))
noncomputable def laws_FnExactDrainLand_gd (a0 : Array Value) (a1 : Int) : Bool := (bif (spec_DrainLand_gd a0 a1) then (impl_DrainLand_gd a0 a1) else false)

theorem laws_FnExactDrainLand_main (a0 : Array Value) (a1 : Int) (h_a0 : WT Try.prog 28 a0) (h_a1 : IntKind.i64.min ≤ a1 ∧ a1 ≤ IntKind.i64.max) (hg : ((laws_FnExactDrainLand_gd a0 a1)) = true) : ansV Try.prog (mkΓ [(16, con laws_toSea_con), (22, con laws_eqSea_con), (30, con spec_DrainLand_con), (31, con impl_DrainLand_con)]) 1000 Try.f9 [] [.g a0 28, .i .i64 (a1)] [] = some (.a (.b ((laws_FnExactDrainLand_v0 Try.prog a0 a1))), .none, true) := by
  refine (laws_FnExactDrainLand_ans 1000 a0 a1).trans ?_
  unfold laws_FnExactDrainLand_gd at hg
  unfold laws_FnExactDrainLand_v0
  revert hg
  generalize ((spec_DrainLand_gd a0 a1)) = b2
  intro hg
  cases b2
  · skip
    first | exact (nomatch (hg : false = true)) | (simp only [cond_true, cond_false]; done) | rfl
  · skip
    revert hg
    generalize ((impl_DrainLand_gd a0 a1)) = b4
    intro hg
    cases b4
    · skip
      first | exact (nomatch (hg : false = true)) | (simp only [cond_true, cond_false]; done) | rfl
    · skip
      revert hg
      generalize ((!(sameB (impl_DrainLand_v0 Try.prog a0 a1) (spec_DrainLand_v0 Try.prog a0 a1)))) = b6
      intro hg
      cases b6
      · skip
        revert hg
        generalize (((impl_DrainLand_v1 a0 a1) != (spec_DrainLand_v1 a0 a1))) = b8
        intro hg
        cases b8
        · skip
          first | (simp only [cond_true, cond_false]; done) | rfl | exact (nomatch (hg : false = true))
        · skip
          first | (simp only [cond_true, cond_false]; done) | rfl | exact (nomatch (hg : false = true))
      · skip
        first | (simp only [cond_true, cond_false]; done) | rfl | exact (nomatch (hg : false = true))
noncomputable def laws_FnExactDrainLand_con : Con := fun args h => match args, h with
  | [.g a0 28, .i .i64 a1], [] => some (.a (.b ((laws_FnExactDrainLand_v0 Try.prog a0 a1))), .none, (laws_FnExactDrainLand_gd a0 a1))
  | _, _ => none
theorem laws_FnExactDrainLand_enter : ∀ args w, (callFunc 9 args).run Try.prog w = .ok (.enter 9 args) w := enter_ok (fn := Try.f9) (by kernel_rfl) (by kernel_rfl) (by kernel_rfl)
theorem laws_FnExactDrainLand_ok : ConOk Try.prog 9 laws_FnExactDrainLand_con := (ans_ok (N := 1000) (by kernel_rfl) (mkΓ_cons (con_ok laws_toSea_ok) laws_toSea_enter (mkΓ_cons (con_ok laws_eqSea_ok) laws_eqSea_enter (mkΓ_cons (con_ok spec_DrainLand_ok) spec_DrainLand_enter (mkΓ_cons (con_ok impl_DrainLand_ok) impl_DrainLand_enter mkΓ_nil)))) (fn := Try.f9) (by kernel_rfl) (by kernel_rfl) []).of (by
  intro ρ h w args vals r e hA hH hr
  unfold laws_FnExactDrainLand_con at hr
  split at hr
  · rename_i a0 a1
    obtain ⟨rfl, hg⟩ := Prod.mk.inj (Option.some.inj hr)
    obtain ⟨rfl, hg2⟩ := Prod.mk.inj hg
    exact laws_FnExactDrainLand_main a0 a1 (hA.wt 0 rfl) (hA.rng 1 rfl) hg2
  · cases hr)

theorem laws_FnExactDrainLand_true (a0 : Array Value) (a1 : Int) (h_a0 : WT Try.prog 28 a0) (h_a1 : IntKind.i64.min ≤ a1 ∧ a1 ≤ IntKind.i64.max) : ((laws_FnExactDrainLand_gd a0 a1)) = true ∧ ((laws_FnExactDrainLand_v0 Try.prog a0 a1)) = true := by
  have hS := wt_land lay_lawsea h_a0
  cases hA : (spec_l01Asked_v0 a1 a0 != 0)
  · have hc := asked_range hA
    have d1 : decide (0 ≤ a1) = true := decide_eq_true hc.1
    have d2 : decide (a1 < 36) = true := decide_eq_true (by omega)
    have d3 : decide (0 ≤ IntKind.u64.wrap a1) = true := by rw [u64_c hc]; exact d1
    have e0 : impl_DrainLand_v0 Try.prog a0 a1 = spec_DrainLand_v0 Try.prog a0 a1 := by
      unfold impl_DrainLand_v0 spec_DrainLand_v0 impl_setBoth_v0 impl_isWater_v0
      rw [cell_code, land_dry hS hc, bit_of hc]
    have e1 : impl_DrainLand_v1 a0 a1 = spec_DrainLand_v1 a0 a1 := by
      unfold impl_DrainLand_v1 spec_DrainLand_v1 impl_isWater_v0
      rw [cell_code, land_dry hS hc]
    unfold laws_FnExactDrainLand_gd laws_FnExactDrainLand_v0
    rw [e0, e1, sameB_self]
    refine ⟨?_, by simp only [bne_self_eq_false, cond_false, Bool.not_true]⟩
    unfold spec_DrainLand_gd impl_DrainLand_gd impl_setBoth_gd impl_isWater_v0
    rw [cell_code, hA, d1, d2, d3, land_dry hS hc]
    cases spec_l01Dry_v0 a1 a0 <;> rfl
  · have e0 : impl_DrainLand_v0 Try.prog a0 a1 = spec_DrainLand_v0 Try.prog a0 a1 := by
      unfold impl_DrainLand_v0 spec_DrainLand_v0
      rw [cell_code, hA]; rfl
    have e1 : impl_DrainLand_v1 a0 a1 = spec_DrainLand_v1 a0 a1 := by
      unfold impl_DrainLand_v1 spec_DrainLand_v1
      rw [cell_code, hA]; rfl
    unfold laws_FnExactDrainLand_gd laws_FnExactDrainLand_v0
    rw [e0, e1, sameB_self]
    refine ⟨?_, by simp only [bne_self_eq_false, cond_false, Bool.not_true]⟩
    unfold spec_DrainLand_gd impl_DrainLand_gd
    rw [cell_code, hA]; rfl

namespace lawFnExactDrainLand
theorem lifted (os : Os) (started : os.Started) (H : Type) (enc : TypeId × Value → H) :
    ReturnsInHanded {} Try.checked os 9 .any (Rows.fnExactDrainLandSpec.pre6 enc Try.prog Try.f9 Rows.fnExactDrainLandRow.domain false) (Rows.fnExactDrainLandSpec.post enc Try.prog Try.f9 false true false false) := by
  refine law_lifted (C := Try.checked) (tb := 4) (by kernel_rfl) (by kernel_rfl) (by kernel_rfl) Try.func9 (by kernel_rfl) Try.underlying4 (of_decide_eq_true (by kernel_rfl)) rfl ?_ os started H enc
    (ChangeSpec.witness6 (enc := enc) (C := Try.checked) false ⟨#[], #[.agg (zc Try.prog 28), .int .i64 0], []⟩ 8 (by kernel_rfl) (by kernel_rfl) (by kernel_rfl) (by kernel_rfl)) ?_
  · intro H ds hds
    rw [show Try.f9.params.toList.length = 2 by kernel_rfl] at hds
    match ds, hds with
    | [_, _], _ => rfl
  · intro W base args ds ps hval hA
    rw [Try.params9] at hA hval
    obtain ⟨v0, v1, d0, d1, p0, p1, hargs, rfl, rfl, h0, h1⟩ := trodAll_two hA
    obtain ⟨a0, e0, w0⟩ := open_data (t := 28) 8 (by kernel_rfl) (by kernel_rfl) (hval 0 28 v0 rfl (by rw [hargs]; rfl)) h0
    obtain ⟨a1, e1, _, _, w1⟩ := open_int Try.underlying2 (hval 1 2 v1 rfl (by rw [hargs]; rfl)) h1
    obtain rfl : args = #[.agg a0, .int .i64 a1] := by rw [hargs, e0, e1]
    obtain ⟨hg, hv⟩ := laws_FnExactDrainLand_true a0 a1 w0 (wfb w1)
    have hr : laws_FnExactDrainLand_con [.g a0 28, .i .i64 a1] [] = some (.a (.b true), .none, true) := by
      show (some (SV.a (SA.b ((laws_FnExactDrainLand_v0 Try.prog a0 a1))), Eff.none, (laws_FnExactDrainLand_gd a0 a1)) : Option (SV × Eff × Bool)) = _
      rw [hg, hv]
    exact calls_con laws_FnExactDrainLand_ok hr W (vals := [.agg a0, .int .i64 a1]) (allCons ⟨rfl, w0⟩ (allCons ⟨rfl, wfb w1⟩ allNil))

theorem over : Rows.fnExactDrainLandRow.holds Try.pinned (OpenSpec.ofChange Rows.fnExactDrainLandSpec) :=
  OpenClaim.holds_of_wide 9 Try.f9 rfl rfl rfl rfl rfl rfl rfl ⟨rfl, rfl, rfl, rfl, rfl⟩ rfl rfl rfl rfl rfl (by kernel_rfl) Try.func9 (by kernel_rfl)
    (of_decide_eq_true (by kernel_rfl)) (by unfold Func.isWrapper; first | (rw [if_pos (by decide +kernel)]; kernel_rfl) | (rw [if_neg (by decide +kernel)]; exact ⟨rfl, rfl⟩))
    (fun os started H enc _ => lifted os started H enc)

theorem proved : Rows.FnExactDrainLandSaid := over
#print axioms proved
end lawFnExactDrainLand

end
end Go.Proofs.Ytbgkcfgdedhclaa
