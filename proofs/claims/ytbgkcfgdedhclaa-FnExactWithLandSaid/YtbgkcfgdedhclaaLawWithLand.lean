/- For every sea and cell spec and program lay land alike. -/
import Derived.Test.YtbgkcfgdedhclaaRows
import Derived.Test.YtbgkcfgdedhclaaChecked
import Derived.Test.YtbgkcfgdedhclaaBase
import Derived.Test.YtbgkcfgdedhclaaVeSeaA
namespace Go.Proofs.Ytbgkcfgdedhclaa
open Go.ChangeShapes Go.WideShapes Go.ChangeAt Go.RowKit Ve
set_option linter.unusedVariables false
set_option linter.unusedSimpArgs false
set_option maxRecDepth 100000
noncomputable section
theorem spec_WithLand_ans (N : Nat) (a0 : Array Value) (a1 : Int) : ansV Try.prog (mkΓ [(60, con spec_l01Dry_con), (68, con spec_l01Asked_con)]) N Try.f28 [] [.g a0 35, .i .i64 (a1)] [] = (bif ((spec_l01Asked_v0 a1 a0) != (0 : Int)) then (some (.t [.g (zc Try.prog 35) 35, .i .i64 (spec_l01Asked_v0 a1 a0)], .none, true))
    else (bif decide (0 ≤ (IntKind.u64.wrap a1)) then (bif (spec_l01Dry_v0 a1 a0) then (some (.t [.g (zc Try.prog 35) 35, .i .i64 (4 : Int)], .none, true))
        else (bif decide (0 ≤ (IntKind.u64.wrap a1)) then (bif (decide (0 ≤ a1) && decide (a1 < 36)) then (bif (decide (0 ≤ a1) && decide (a1 < 36)) then (some (.t [.g (spl (spl (a0.setIfInBounds 2 (.int .u64 (IntKind.u64.wrap (BitVec.ofInt IntKind.u64.bits (num a0 2) ||| BitVec.ofInt IntKind.u64.bits (IntKind.u64.wrap ((1 : Int) * 2 ^ (min ((IntKind.u64.wrap a1)).toNat IntKind.u64.bits)))).toNat))) (3 + ((a1).toNat * 5)) (#[.int .u8 (0 : Int), .int .u8 (0 : Int), .int .u8 (0 : Int), .int .u8 (0 : Int), .int .u8 (0 : Int)] : Array Value).toList) (183 + ((a1).toNat * 5)) (#[.int .u8 (0 : Int), .int .u8 (0 : Int), .int .u8 (0 : Int), .int .u8 (0 : Int), .int .u8 (0 : Int)] : Array Value).toList) 35, .i .i64 (0 : Int)], .none, true))
              else (none))
            else (none))
          else (none)))
      else (none))) := by kernel_rfl

noncomputable def spec_WithLand_v0 (P : Program) (a0 : Array Value) (a1 : Int) : Array Value := (bif ((spec_l01Asked_v0 a1 a0) != (0 : Int)) then (zc P 35) else (bif (spec_l01Dry_v0 a1 a0) then (zc P 35) else (spl (spl (a0.setIfInBounds 2 (.int .u64 (IntKind.u64.wrap (BitVec.ofInt IntKind.u64.bits (num a0 2) ||| BitVec.ofInt IntKind.u64.bits (IntKind.u64.wrap ((1 : Int) * 2 ^ (min ((IntKind.u64.wrap a1)).toNat IntKind.u64.bits)))).toNat))) (3 + ((a1).toNat * 5)) (#[.int .u8 (0 : Int), .int .u8 (0 : Int), .int .u8 (0 : Int), .int .u8 (0 : Int), .int .u8 (0 : Int)] : Array Value).toList) (183 + ((a1).toNat * 5)) (#[.int .u8 (0 : Int), .int .u8 (0 : Int), .int .u8 (0 : Int), .int .u8 (0 : Int), .int .u8 (0 : Int)] : Array Value).toList)))
noncomputable def spec_WithLand_v1 (a0 : Array Value) (a1 : Int) : Int := (bif ((spec_l01Asked_v0 a1 a0) != (0 : Int)) then (spec_l01Asked_v0 a1 a0) else (bif (spec_l01Dry_v0 a1 a0) then (4 : Int) else (0 : Int)))
noncomputable def spec_WithLand_gd (a0 : Array Value) (a1 : Int) : Bool := (bif ((spec_l01Asked_v0 a1 a0) != (0 : Int)) then true else (bif decide (0 ≤ (IntKind.u64.wrap a1)) then (bif (spec_l01Dry_v0 a1 a0) then true else (bif decide (0 ≤ (IntKind.u64.wrap a1)) then (bif (decide (0 ≤ a1) && decide (a1 < 36)) then (decide (0 ≤ a1) && decide (a1 < 36)) else false) else false)) else false))

theorem spec_WithLand_main (a0 : Array Value) (a1 : Int) (h_a0 : WT Try.prog 35 a0) (h_a1 : IntKind.i64.min ≤ a1 ∧ a1 ≤ IntKind.i64.max) (hg : ((spec_WithLand_gd a0 a1)) = true) : ansV Try.prog (mkΓ [(60, con spec_l01Dry_con), (68, con spec_l01Asked_con)]) 1000 Try.f28 [] [.g a0 35, .i .i64 (a1)] [] = some (.t [.g (spec_WithLand_v0 Try.prog a0 a1) 35, .i .i64 (spec_WithLand_v1 a0 a1)], .none, true) := by
  refine (spec_WithLand_ans 1000 a0 a1).trans ?_
  unfold spec_WithLand_gd at hg
  unfold spec_WithLand_v0 spec_WithLand_v1
  revert hg
  generalize (((spec_l01Asked_v0 a1 a0) != (0 : Int))) = b2
  intro hg
  cases b2
  · skip
    revert hg
    generalize (decide (0 ≤ (IntKind.u64.wrap a1))) = b4
    intro hg
    cases b4
    · skip
      first | exact (nomatch (hg : false = true)) | (simp only [cond_true, cond_false]; done) | rfl
    · skip
      revert hg
      generalize ((spec_l01Dry_v0 a1 a0)) = b6
      intro hg
      cases b6
      · skip
        revert hg
        generalize ((decide (0 ≤ a1) && decide (a1 < 36))) = b8
        intro hg
        cases b8
        · skip
          first | exact (nomatch (hg : false = true)) | (simp only [cond_true, cond_false]; done) | rfl
        · skip
          first | (simp only [cond_true, cond_false]; done) | rfl | exact (nomatch (hg : false = true))
      · skip
        first | (simp only [cond_true, cond_false]; done) | rfl | exact (nomatch (hg : false = true))
  · skip
    first | (simp only [cond_true, cond_false]; done) | rfl | exact (nomatch (hg : false = true))
noncomputable def spec_WithLand_con : Con := fun args h => match args, h with
  | [.g a0 35, .i .i64 a1], [] => some (.t [.g (spec_WithLand_v0 Try.prog a0 a1) 35, .i .i64 (spec_WithLand_v1 a0 a1)], .none, (spec_WithLand_gd a0 a1))
  | _, _ => none
theorem spec_WithLand_enter : ∀ args w, (callFunc 28 args).run Try.prog w = .ok (.enter 28 args) w := enter_ok (fn := Try.f28) (by kernel_rfl) (by kernel_rfl) (by kernel_rfl)
theorem spec_WithLand_ok : ConOk Try.prog 28 spec_WithLand_con := (ans_ok (N := 1000) (by kernel_rfl) (mkΓ_cons (con_ok spec_l01Dry_ok) spec_l01Dry_enter (mkΓ_cons (con_ok spec_l01Asked_ok) spec_l01Asked_enter mkΓ_nil)) (fn := Try.f28) (by kernel_rfl) (by kernel_rfl) []).of (by
  intro ρ h w args vals r e hA hH hr
  unfold spec_WithLand_con at hr
  split at hr
  · rename_i a0 a1
    obtain ⟨rfl, hg⟩ := Prod.mk.inj (Option.some.inj hr)
    obtain ⟨rfl, hg2⟩ := Prod.mk.inj hg
    exact spec_WithLand_main a0 a1 (hA.wt 0 rfl) (hA.rng 1 rfl) hg2
  · cases hr)

theorem impl_WithLand_ans (N : Nat) (a0 : Array Value) (a1 : Int) : ansV Try.prog (mkΓ [(54, con impl_setBoth_con), (63, con impl_isLand_con), (69, con impl_cellCode_con), (70, con impl_bitOf_con)]) N Try.f29 [] [.g a0 35, .i .i64 (a1)] [] = (bif ((impl_cellCode_v0 a0 a1) != (0 : Int)) then (some (.t [.g (zc Try.prog 35) 35, .i .i64 (impl_cellCode_v0 a0 a1)], .none, true))
    else (bif decide (0 ≤ a1) then (bif (impl_isLand_v0 a0 a1) then (some (.t [.g (zc Try.prog 35) 35, .i .i64 (4 : Int)], .none, true))
        else (bif decide (0 ≤ a1) then (bif (impl_setBoth_gd a1 (#[.int .u8 (0 : Int), .int .u8 (0 : Int), .int .u8 (0 : Int), .int .u8 (0 : Int), .int .u8 (0 : Int)] : Array Value) (a0.setIfInBounds 2 (.int .u64 (IntKind.u64.wrap (BitVec.ofInt IntKind.u64.bits (num a0 2) ||| BitVec.ofInt IntKind.u64.bits (impl_bitOf_v0 a1)).toNat)))) then (some (.t [.g (impl_setBoth_v0 a1 (#[.int .u8 (0 : Int), .int .u8 (0 : Int), .int .u8 (0 : Int), .int .u8 (0 : Int), .int .u8 (0 : Int)] : Array Value) (a0.setIfInBounds 2 (.int .u64 (IntKind.u64.wrap (BitVec.ofInt IntKind.u64.bits (num a0 2) ||| BitVec.ofInt IntKind.u64.bits (impl_bitOf_v0 a1)).toNat)))) 35, .i .i64 (0 : Int)], .none, true))
            else (none))
          else (none)))
      else (none))) := by kernel_rfl

noncomputable def impl_WithLand_v0 (P : Program) (a0 : Array Value) (a1 : Int) : Array Value := (bif ((impl_cellCode_v0 a0 a1) != (0 : Int)) then (zc P 35) else (bif (impl_isLand_v0 a0 a1) then (zc P 35) else (impl_setBoth_v0 a1 (#[.int .u8 (0 : Int), .int .u8 (0 : Int), .int .u8 (0 : Int), .int .u8 (0 : Int), .int .u8 (0 : Int)] : Array Value) (a0.setIfInBounds 2 (.int .u64 (IntKind.u64.wrap (BitVec.ofInt IntKind.u64.bits (num a0 2) ||| BitVec.ofInt IntKind.u64.bits (impl_bitOf_v0 a1)).toNat))))))
noncomputable def impl_WithLand_v1 (a0 : Array Value) (a1 : Int) : Int := (bif ((impl_cellCode_v0 a0 a1) != (0 : Int)) then (impl_cellCode_v0 a0 a1) else (bif (impl_isLand_v0 a0 a1) then (4 : Int) else (0 : Int)))
noncomputable def impl_WithLand_gd (a0 : Array Value) (a1 : Int) : Bool := (bif ((impl_cellCode_v0 a0 a1) != (0 : Int)) then true else (bif decide (0 ≤ a1) then (bif (impl_isLand_v0 a0 a1) then true else (bif decide (0 ≤ a1) then (impl_setBoth_gd a1 (#[.int .u8 (0 : Int), .int .u8 (0 : Int), .int .u8 (0 : Int), .int .u8 (0 : Int), .int .u8 (0 : Int)] : Array Value) (a0.setIfInBounds 2 (.int .u64 (IntKind.u64.wrap (BitVec.ofInt IntKind.u64.bits (num a0 2) ||| BitVec.ofInt IntKind.u64.bits (impl_bitOf_v0 a1)).toNat)))) else false)) else false))

theorem impl_WithLand_main (a0 : Array Value) (a1 : Int) (h_a0 : WT Try.prog 35 a0) (h_a1 : IntKind.i64.min ≤ a1 ∧ a1 ≤ IntKind.i64.max) (hg : ((impl_WithLand_gd a0 a1)) = true) : ansV Try.prog (mkΓ [(54, con impl_setBoth_con), (63, con impl_isLand_con), (69, con impl_cellCode_con), (70, con impl_bitOf_con)]) 1000 Try.f29 [] [.g a0 35, .i .i64 (a1)] [] = some (.t [.g (impl_WithLand_v0 Try.prog a0 a1) 35, .i .i64 (impl_WithLand_v1 a0 a1)], .none, true) := by
  refine (impl_WithLand_ans 1000 a0 a1).trans ?_
  unfold impl_WithLand_gd at hg
  unfold impl_WithLand_v0 impl_WithLand_v1
  revert hg
  generalize (((impl_cellCode_v0 a0 a1) != (0 : Int))) = b2
  intro hg
  cases b2
  · skip
    revert hg
    generalize (decide (0 ≤ a1)) = b4
    intro hg
    cases b4
    · skip
      first | exact (nomatch (hg : false = true)) | (simp only [cond_true, cond_false]; done) | rfl
    · skip
      revert hg
      generalize ((impl_isLand_v0 a0 a1)) = b6
      intro hg
      cases b6
      · skip
        revert hg
        generalize ((impl_setBoth_gd a1 (#[.int .u8 (0 : Int), .int .u8 (0 : Int), .int .u8 (0 : Int), .int .u8 (0 : Int), .int .u8 (0 : Int)] : Array Value) (a0.setIfInBounds 2 (.int .u64 (IntKind.u64.wrap (BitVec.ofInt IntKind.u64.bits (num a0 2) ||| BitVec.ofInt IntKind.u64.bits (impl_bitOf_v0 a1)).toNat))))) = b8
        intro hg
        cases b8
        · skip
          first | exact (nomatch (hg : false = true)) | (simp only [cond_true, cond_false]; done) | rfl
        · skip
          first | (simp only [cond_true, cond_false]; done) | rfl | exact (nomatch (hg : false = true))
      · skip
        first | (simp only [cond_true, cond_false]; done) | rfl | exact (nomatch (hg : false = true))
  · skip
    first | (simp only [cond_true, cond_false]; done) | rfl | exact (nomatch (hg : false = true))
noncomputable def impl_WithLand_con : Con := fun args h => match args, h with
  | [.g a0 35, .i .i64 a1], [] => some (.t [.g (impl_WithLand_v0 Try.prog a0 a1) 35, .i .i64 (impl_WithLand_v1 a0 a1)], .none, (impl_WithLand_gd a0 a1))
  | _, _ => none
theorem impl_WithLand_enter : ∀ args w, (callFunc 29 args).run Try.prog w = .ok (.enter 29 args) w := enter_ok (fn := Try.f29) (by kernel_rfl) (by kernel_rfl) (by kernel_rfl)
theorem impl_WithLand_ok : ConOk Try.prog 29 impl_WithLand_con := (ans_ok (N := 1000) (by kernel_rfl) (mkΓ_cons (con_ok impl_setBoth_ok) impl_setBoth_enter (mkΓ_cons (con_ok impl_isLand_ok) impl_isLand_enter (mkΓ_cons (con_ok impl_cellCode_ok) impl_cellCode_enter (mkΓ_cons (con_ok impl_bitOf_ok) impl_bitOf_enter mkΓ_nil)))) (fn := Try.f29) (by kernel_rfl) (by kernel_rfl) []).of (by
  intro ρ h w args vals r e hA hH hr
  unfold impl_WithLand_con at hr
  split at hr
  · rename_i a0 a1
    obtain ⟨rfl, hg⟩ := Prod.mk.inj (Option.some.inj hr)
    obtain ⟨rfl, hg2⟩ := Prod.mk.inj hg
    exact impl_WithLand_main a0 a1 (hA.wt 0 rfl) (hA.rng 1 rfl) hg2
  · cases hr)

theorem laws_FnExactWithLand_ans (N : Nat) (a0 : Array Value) (a1 : Int) : ansV Try.prog (mkΓ [(16, con laws_toSea_con), (22, con laws_eqSea_con), (28, con spec_WithLand_con), (29, con impl_WithLand_con)]) N Try.f8 [] [.g a0 28, .i .i64 (a1)] [] = (bif (spec_WithLand_gd a0 a1) then (bif (impl_WithLand_gd a0 a1) then (bif (!(sameB (impl_WithLand_v0 Try.prog a0 a1) (spec_WithLand_v0 Try.prog a0 a1))) then (some (.a (.b (false)), .none, true))
        else (bif ((impl_WithLand_v1 a0 a1) != (spec_WithLand_v1 a0 a1)) then (some (.a (.b (false)), .none, true))
          else (some (.a (.b (true)), .none, true))))
      else (none))
    else (none)) := by kernel_rfl

noncomputable def laws_FnExactWithLand_v0 (P : Program) (a0 : Array Value) (a1 : Int) : Bool := (bif (!(sameB (impl_WithLand_v0 P a0 a1) (spec_WithLand_v0 P a0 a1))) then false else (bif ((impl_WithLand_v1 a0 a1) != (spec_WithLand_v1 a0 a1)) then false else true))
noncomputable def laws_FnExactWithLand_gd (a0 : Array Value) (a1 : Int) : Bool := (bif (spec_WithLand_gd a0 a1) then (impl_WithLand_gd a0 a1) else false)

theorem laws_FnExactWithLand_main (a0 : Array Value) (a1 : Int) (h_a0 : WT Try.prog 28 a0) (h_a1 : IntKind.i64.min ≤ a1 ∧ a1 ≤ IntKind.i64.max) (hg : ((laws_FnExactWithLand_gd a0 a1)) = true) : ansV Try.prog (mkΓ [(16, con laws_toSea_con), (22, con laws_eqSea_con), (28, con spec_WithLand_con), (29, con impl_WithLand_con)]) 1000 Try.f8 [] [.g a0 28, .i .i64 (a1)] [] = some (.a (.b ((laws_FnExactWithLand_v0 Try.prog a0 a1))), .none, true) := by
  refine (laws_FnExactWithLand_ans 1000 a0 a1).trans ?_
  unfold laws_FnExactWithLand_gd at hg
  unfold laws_FnExactWithLand_v0
  revert hg
  generalize ((spec_WithLand_gd a0 a1)) = b2
  intro hg
  cases b2
  · skip
    first | exact (nomatch (hg : false = true)) | (simp only [cond_true, cond_false]; done) | rfl
  · skip
    revert hg
    generalize ((impl_WithLand_gd a0 a1)) = b4
    intro hg
    cases b4
    · skip
      first | exact (nomatch (hg : false = true)) | (simp only [cond_true, cond_false]; done) | rfl
    · skip
      revert hg
      generalize ((!(sameB (impl_WithLand_v0 Try.prog a0 a1) (spec_WithLand_v0 Try.prog a0 a1)))) = b6
      intro hg
      cases b6
      · skip
        revert hg
        generalize (((impl_WithLand_v1 a0 a1) != (spec_WithLand_v1 a0 a1))) = b8
        intro hg
        cases b8
        · skip
          first | (simp only [cond_true, cond_false]; done) | rfl | exact (nomatch (hg : false = true))
        · skip
          first | (simp only [cond_true, cond_false]; done) | rfl | exact (nomatch (hg : false = true))
      · skip
        first | (simp only [cond_true, cond_false]; done) | rfl | exact (nomatch (hg : false = true))
noncomputable def laws_FnExactWithLand_con : Con := fun args h => match args, h with
  | [.g a0 28, .i .i64 a1], [] => some (.a (.b ((laws_FnExactWithLand_v0 Try.prog a0 a1))), .none, (laws_FnExactWithLand_gd a0 a1))
  | _, _ => none
theorem laws_FnExactWithLand_enter : ∀ args w, (callFunc 8 args).run Try.prog w = .ok (.enter 8 args) w := enter_ok (fn := Try.f8) (by kernel_rfl) (by kernel_rfl) (by kernel_rfl)
theorem laws_FnExactWithLand_ok : ConOk Try.prog 8 laws_FnExactWithLand_con := (ans_ok (N := 1000) (by kernel_rfl) (mkΓ_cons (con_ok laws_toSea_ok) laws_toSea_enter (mkΓ_cons (con_ok laws_eqSea_ok) laws_eqSea_enter (mkΓ_cons (con_ok spec_WithLand_ok) spec_WithLand_enter (mkΓ_cons (con_ok impl_WithLand_ok) impl_WithLand_enter mkΓ_nil)))) (fn := Try.f8) (by kernel_rfl) (by kernel_rfl) []).of (by
  intro ρ h w args vals r e hA hH hr
  unfold laws_FnExactWithLand_con at hr
  split at hr
  · rename_i a0 a1
    obtain ⟨rfl, hg⟩ := Prod.mk.inj (Option.some.inj hr)
    obtain ⟨rfl, hg2⟩ := Prod.mk.inj hg
    exact laws_FnExactWithLand_main a0 a1 (hA.wt 0 rfl) (hA.rng 1 rfl) hg2
  · cases hr)

theorem laws_FnExactWithLand_true (a0 : Array Value) (a1 : Int) (h_a0 : WT Try.prog 28 a0) (h_a1 : IntKind.i64.min ≤ a1 ∧ a1 ≤ IntKind.i64.max) : ((laws_FnExactWithLand_gd a0 a1)) = true ∧ ((laws_FnExactWithLand_v0 Try.prog a0 a1)) = true := by
  have hS := wt_land lay_lawsea h_a0
  cases hA : (spec_l01Asked_v0 a1 a0 != 0)
  · have hc := asked_range hA
    have d1 : decide (0 ≤ a1) = true := decide_eq_true hc.1
    have d2 : decide (a1 < 36) = true := decide_eq_true (by omega)
    have d3 : decide (0 ≤ IntKind.u64.wrap a1) = true := by rw [u64_c hc]; exact d1
    have e0 : impl_WithLand_v0 Try.prog a0 a1 = spec_WithLand_v0 Try.prog a0 a1 := by
      unfold impl_WithLand_v0 spec_WithLand_v0 impl_setBoth_v0
      rw [cell_code, land_dry hS hc, bit_of hc]
    have e1 : impl_WithLand_v1 a0 a1 = spec_WithLand_v1 a0 a1 := by
      unfold impl_WithLand_v1 spec_WithLand_v1
      rw [cell_code, land_dry hS hc]
    unfold laws_FnExactWithLand_gd laws_FnExactWithLand_v0
    rw [e0, e1, sameB_self]
    refine ⟨?_, by simp only [bne_self_eq_false, cond_false, Bool.not_true]⟩
    unfold spec_WithLand_gd impl_WithLand_gd impl_setBoth_gd
    rw [cell_code, hA, d1, d2, d3, land_dry hS hc]
    cases spec_l01Dry_v0 a1 a0 <;> rfl
  · have e0 : impl_WithLand_v0 Try.prog a0 a1 = spec_WithLand_v0 Try.prog a0 a1 := by
      unfold impl_WithLand_v0 spec_WithLand_v0
      rw [cell_code, hA]; rfl
    have e1 : impl_WithLand_v1 a0 a1 = spec_WithLand_v1 a0 a1 := by
      unfold impl_WithLand_v1 spec_WithLand_v1
      rw [cell_code, hA]; rfl
    unfold laws_FnExactWithLand_gd laws_FnExactWithLand_v0
    rw [e0, e1, sameB_self]
    refine ⟨?_, by simp only [bne_self_eq_false, cond_false, Bool.not_true]⟩
    unfold spec_WithLand_gd impl_WithLand_gd
    rw [cell_code, hA]; rfl

namespace lawFnExactWithLand
theorem lifted (os : Os) (started : os.Started) (H : Type) (enc : TypeId × Value → H) :
    ReturnsInHanded {} Try.checked os 8 .any (Rows.fnExactWithLandSpec.pre6 enc Try.prog Try.f8 Rows.fnExactWithLandRow.domain false) (Rows.fnExactWithLandSpec.post enc Try.prog Try.f8 false true false false) := by
  refine law_lifted (C := Try.checked) (tb := 4) (by kernel_rfl) (by kernel_rfl) (by kernel_rfl) Try.func8 (by kernel_rfl) Try.underlying4 (of_decide_eq_true (by kernel_rfl)) rfl ?_ os started H enc
    (ChangeSpec.witness6 (enc := enc) (C := Try.checked) false ⟨#[], #[.agg (zc Try.prog 28), .int .i64 0], []⟩ 8 (by kernel_rfl) (by kernel_rfl) (by kernel_rfl) (by kernel_rfl)) ?_
  · intro H ds hds
    rw [show Try.f8.params.toList.length = 2 by kernel_rfl] at hds
    match ds, hds with
    | [_, _], _ => rfl
  · intro W base args ds ps hval hA
    rw [Try.params8] at hA hval
    obtain ⟨v0, v1, d0, d1, p0, p1, hargs, rfl, rfl, h0, h1⟩ := trodAll_two hA
    obtain ⟨a0, e0, w0⟩ := open_data (t := 28) 8 (by kernel_rfl) (by kernel_rfl) (hval 0 28 v0 rfl (by rw [hargs]; rfl)) h0
    obtain ⟨a1, e1, _, _, w1⟩ := open_int Try.underlying2 (hval 1 2 v1 rfl (by rw [hargs]; rfl)) h1
    obtain rfl : args = #[.agg a0, .int .i64 a1] := by rw [hargs, e0, e1]
    obtain ⟨hg, hv⟩ := laws_FnExactWithLand_true a0 a1 w0 (wfb w1)
    have hr : laws_FnExactWithLand_con [.g a0 28, .i .i64 a1] [] = some (.a (.b true), .none, true) := by
      show (some (SV.a (SA.b ((laws_FnExactWithLand_v0 Try.prog a0 a1))), Eff.none, (laws_FnExactWithLand_gd a0 a1)) : Option (SV × Eff × Bool)) = _
      rw [hg, hv]
    exact calls_con laws_FnExactWithLand_ok hr W (vals := [.agg a0, .int .i64 a1]) (allCons ⟨rfl, w0⟩ (allCons ⟨rfl, wfb w1⟩ allNil))

theorem over : Rows.fnExactWithLandRow.holds Try.pinned (OpenSpec.ofChange Rows.fnExactWithLandSpec) :=
  OpenClaim.holds_of_wide 8 Try.f8 rfl rfl rfl rfl rfl rfl rfl ⟨rfl, rfl, rfl, rfl, rfl⟩ rfl rfl rfl rfl rfl (by kernel_rfl) Try.func8 (by kernel_rfl)
    (of_decide_eq_true (by kernel_rfl)) (by unfold Func.isWrapper; first | (rw [if_pos (by decide +kernel)]; kernel_rfl) | (rw [if_neg (by decide +kernel)]; exact ⟨rfl, rfl⟩))
    (fun os started H enc _ => lifted os started H enc)

theorem proved : Rows.FnExactWithLandSaid := over
#print axioms proved
end lawFnExactWithLand

end
end Go.Proofs.Ytbgkcfgdedhclaa
