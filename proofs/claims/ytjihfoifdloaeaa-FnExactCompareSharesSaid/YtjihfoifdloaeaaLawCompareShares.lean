/- For every two shares spec and program compare alike. -/
import Derived.Test.YtjihfoifdloaeaaRows
import Derived.Test.YtjihfoifdloaeaaChecked
import Derived.Test.YtjihfoifdloaeaaBase
import Derived.Test.YtjihfoifdloaeaaVeD
namespace Go.Proofs.Ytjihfoifdloaeaa
open Go.ChangeShapes Go.WideShapes Go.ChangeAt Go.RowKit Ve
set_option linter.unusedVariables false
set_option linter.unusedSimpArgs false
set_option maxRecDepth 100000

theorem spec_l00In_ans (N : Nat) (a0 : Int) (a1 : Int) (a2 : Int) : ansV Try.prog (mkΓ []) N Try.f44 [] [.i .i64 (a0), .i .i64 (a1), .i .i64 (a2)] [] = (bif decide (a0 ≥ a1) then (some (.a (.b (decide (a0 ≤ a2))), .none, true))
    else (some (.a (.b (false)), .none, true))) := by kernel_rfl

def spec_l00In_v0 (a0 : Int) (a1 : Int) (a2 : Int) : Bool := (bif decide (a0 ≥ a1) then decide (a0 ≤ a2) else false)

theorem spec_l00In_main (a0 : Int) (a1 : Int) (a2 : Int) (h_a0 : IntKind.i64.min ≤ a0 ∧ a0 ≤ IntKind.i64.max) (h_a1 : IntKind.i64.min ≤ a1 ∧ a1 ≤ IntKind.i64.max) (h_a2 : IntKind.i64.min ≤ a2 ∧ a2 ≤ IntKind.i64.max) (hg : (true) = true) : ansV Try.prog (mkΓ []) 1000 Try.f44 [] [.i .i64 (a0), .i .i64 (a1), .i .i64 (a2)] [] = some (.a (.b ((spec_l00In_v0 a0 a1 a2))), .none, true) := by
  refine (spec_l00In_ans 1000 a0 a1 a2).trans ?_
  unfold spec_l00In_v0
  revert hg
  generalize (decide (a0 ≥ a1)) = b2
  intro hg
  cases b2
  · skip
    rfl
  · skip
    rfl
def spec_l00In_con : Con := fun args h => match args, h with
  | [.i .i64 a0, .i .i64 a1, .i .i64 a2], [] => some (.a (.b ((spec_l00In_v0 a0 a1 a2))), .none, true)
  | _, _ => none
theorem spec_l00In_enter : ∀ args w, (callFunc 44 args).run Try.prog w = .ok (.enter 44 args) w := enter_ok (fn := Try.f44) (by kernel_rfl) (by kernel_rfl) (by kernel_rfl)
theorem spec_l00In_ok : ConOk Try.prog 44 spec_l00In_con := (ans_ok (N := 1000) (by kernel_rfl) mkΓ_nil (fn := Try.f44) (by kernel_rfl) (by kernel_rfl) []).of (by
  intro ρ h w args vals r e hA hH hr
  unfold spec_l00In_con at hr
  split at hr
  · rename_i a0 a1 a2
    obtain ⟨rfl, hg⟩ := Prod.mk.inj (Option.some.inj hr)
    obtain ⟨rfl, hg2⟩ := Prod.mk.inj hg
    exact spec_l00In_main a0 a1 a2 (hA.rng 0 rfl) (hA.rng 1 rfl) (hA.rng 2 rfl) hg2
  · cases hr)

theorem spec_l02Fraction_ans (N : Nat) (a0 : Array Value) : ansV Try.prog (mkΓ [(44, con spec_l00In_con)]) N Try.f76 [] [.g a0 53] [] = (bif (spec_l00In_v0 (num a0 0) (0 : Int) (1000000000 : Int)) then (some (.a (.b ((spec_l00In_v0 (num a0 1) (1 : Int) (1000000000 : Int)))), .none, true))
    else (some (.a (.b (false)), .none, true))) := by kernel_rfl

def spec_l02Fraction_v0 (a0 : Array Value) : Bool := (bif (spec_l00In_v0 (num a0 0) (0 : Int) (1000000000 : Int)) then (spec_l00In_v0 (num a0 1) (1 : Int) (1000000000 : Int)) else false)

theorem spec_l02Fraction_main (a0 : Array Value) (h_a0 : WT Try.prog 53 a0) (hg : (true) = true) : ansV Try.prog (mkΓ [(44, con spec_l00In_con)]) 1000 Try.f76 [] [.g a0 53] [] = some (.a (.b ((spec_l02Fraction_v0 a0))), .none, true) := by
  refine (spec_l02Fraction_ans 1000 a0).trans ?_
  unfold spec_l02Fraction_v0
  revert hg
  generalize ((spec_l00In_v0 (num a0 0) (0 : Int) (1000000000 : Int))) = b2
  intro hg
  cases b2
  · skip
    rfl
  · skip
    rfl
def spec_l02Fraction_con : Con := fun args h => match args, h with
  | [.g a0 53], [] => some (.a (.b ((spec_l02Fraction_v0 a0))), .none, true)
  | _, _ => none
theorem spec_l02Fraction_enter : ∀ args w, (callFunc 76 args).run Try.prog w = .ok (.enter 76 args) w := enter_ok (fn := Try.f76) (by kernel_rfl) (by kernel_rfl) (by kernel_rfl)
theorem spec_l02Fraction_ok : ConOk Try.prog 76 spec_l02Fraction_con := (ans_ok (N := 1000) (by kernel_rfl) (mkΓ_cons (con_ok spec_l00In_ok) spec_l00In_enter mkΓ_nil) (fn := Try.f76) (by kernel_rfl) (by kernel_rfl) []).of (by
  intro ρ h w args vals r e hA hH hr
  unfold spec_l02Fraction_con at hr
  split at hr
  · rename_i a0
    obtain ⟨rfl, hg⟩ := Prod.mk.inj (Option.some.inj hr)
    obtain ⟨rfl, hg2⟩ := Prod.mk.inj hg
    exact spec_l02Fraction_main a0 (hA.wt 0 rfl) hg2
  · cases hr)

theorem spec_CompareShares_ans (N : Nat) (a0 : Array Value) (a1 : Array Value) : ansV Try.prog (mkΓ [(76, con spec_l02Fraction_con)]) N Try.f41 [] [.g a0 53, .g a1 53] [] = (bif (!((spec_l02Fraction_v0 a0))) then (some (.t [.i .i64 (0 : Int), .i .i64 (1 : Int)], .none, true))
    else (bif (!((spec_l02Fraction_v0 a1))) then (some (.t [.i .i64 (0 : Int), .i .i64 (1 : Int)], .none, true))
      else (bif decide ((IntKind.i64.wrap ((num a0 0) * (num a1 1))) < (IntKind.i64.wrap ((num a1 0) * (num a0 1)))) then (some (.t [.i .i64 (-1 : Int), .i .i64 (0 : Int)], .none, true))
        else (bif decide ((IntKind.i64.wrap ((num a0 0) * (num a1 1))) > (IntKind.i64.wrap ((num a1 0) * (num a0 1)))) then (some (.t [.i .i64 (1 : Int), .i .i64 (0 : Int)], .none, true))
          else (some (.t [.i .i64 (0 : Int), .i .i64 (0 : Int)], .none, true)))))) := by kernel_rfl

def spec_CompareShares_v0 (a0 : Array Value) (a1 : Array Value) : Int := (bif (!((spec_l02Fraction_v0 a0))) then (0 : Int) else (bif (!((spec_l02Fraction_v0 a1))) then (0 : Int) else (bif decide ((IntKind.i64.wrap ((num a0 0) * (num a1 1))) < (IntKind.i64.wrap ((num a1 0) * (num a0 1)))) then (-1 : Int) else (bif decide ((IntKind.i64.wrap ((num a0 0) * (num a1 1))) > (IntKind.i64.wrap ((num a1 0) * (num a0 1)))) then (1 : Int) else (0 : Int)))))
def spec_CompareShares_v1 (a0 : Array Value) (a1 : Array Value) : Int := (bif (!((spec_l02Fraction_v0 a0))) then (1 : Int) else (bif (!((spec_l02Fraction_v0 a1))) then (1 : Int) else (0 : Int)))

theorem spec_CompareShares_main (a0 : Array Value) (a1 : Array Value) (h_a0 : WT Try.prog 53 a0) (h_a1 : WT Try.prog 53 a1) (hg : (true) = true) : ansV Try.prog (mkΓ [(76, con spec_l02Fraction_con)]) 1000 Try.f41 [] [.g a0 53, .g a1 53] [] = some (.t [.i .i64 (spec_CompareShares_v0 a0 a1), .i .i64 (spec_CompareShares_v1 a0 a1)], .none, true) := by
  refine (spec_CompareShares_ans 1000 a0 a1).trans ?_
  unfold spec_CompareShares_v0 spec_CompareShares_v1
  revert hg
  generalize ((!((spec_l02Fraction_v0 a0)))) = b2
  intro hg
  cases b2
  · skip
    revert hg
    generalize ((!((spec_l02Fraction_v0 a1)))) = b4
    intro hg
    cases b4
    · skip
      revert hg
      generalize (decide ((IntKind.i64.wrap ((num a0 0) * (num a1 1))) < (IntKind.i64.wrap ((num a1 0) * (num a0 1))))) = b6
      intro hg
      cases b6
      · skip
        revert hg
        generalize (decide ((IntKind.i64.wrap ((num a0 0) * (num a1 1))) > (IntKind.i64.wrap ((num a1 0) * (num a0 1))))) = b8
        intro hg
        cases b8
        · skip
          rfl
        · skip
          rfl
      · skip
        rfl
    · skip
      rfl
  · skip
    rfl
def spec_CompareShares_con : Con := fun args h => match args, h with
  | [.g a0 53, .g a1 53], [] => some (.t [.i .i64 (spec_CompareShares_v0 a0 a1), .i .i64 (spec_CompareShares_v1 a0 a1)], .none, true)
  | _, _ => none
theorem spec_CompareShares_enter : ∀ args w, (callFunc 41 args).run Try.prog w = .ok (.enter 41 args) w := enter_ok (fn := Try.f41) (by kernel_rfl) (by kernel_rfl) (by kernel_rfl)
theorem spec_CompareShares_ok : ConOk Try.prog 41 spec_CompareShares_con := (ans_ok (N := 1000) (by kernel_rfl) (mkΓ_cons (con_ok spec_l02Fraction_ok) spec_l02Fraction_enter mkΓ_nil) (fn := Try.f41) (by kernel_rfl) (by kernel_rfl) []).of (by
  intro ρ h w args vals r e hA hH hr
  unfold spec_CompareShares_con at hr
  split at hr
  · rename_i a0 a1
    obtain ⟨rfl, hg⟩ := Prod.mk.inj (Option.some.inj hr)
    obtain ⟨rfl, hg2⟩ := Prod.mk.inj hg
    exact spec_CompareShares_main a0 a1 (hA.wt 0 rfl) (hA.wt 1 rfl) hg2
  · cases hr)

theorem laws_toShare_ans (N : Nat) (a0 : Array Value) : ansV Try.prog (mkΓ []) N Try.f42 [] [.g a0 65] [] = (some (.a (.g #[.int .i64 (num a0 0), .int .i64 (num a0 1)] 53), .none, true)) := by kernel_rfl



theorem laws_toShare_main (a0 : Array Value) (h_a0 : WT Try.prog 65 a0) (hg : (true) = true) : ansV Try.prog (mkΓ []) 1000 Try.f42 [] [.g a0 65] [] = some (.a (.g #[.int .i64 (num a0 0), .int .i64 (num a0 1)] 53), .none, true) := by
  refine (laws_toShare_ans 1000 a0).trans ?_
  rfl
def laws_toShare_con : Con := fun args h => match args, h with
  | [.g a0 65], [] => some (.a (.g #[.int .i64 (num a0 0), .int .i64 (num a0 1)] 53), .none, true)
  | _, _ => none
theorem laws_toShare_enter : ∀ args w, (callFunc 42 args).run Try.prog w = .ok (.enter 42 args) w := enter_ok (fn := Try.f42) (by kernel_rfl) (by kernel_rfl) (by kernel_rfl)
theorem laws_toShare_ok : ConOk Try.prog 42 laws_toShare_con := (ans_ok (N := 1000) (by kernel_rfl) mkΓ_nil (fn := Try.f42) (by kernel_rfl) (by kernel_rfl) []).of (by
  intro ρ h w args vals r e hA hH hr
  unfold laws_toShare_con at hr
  split at hr
  · rename_i a0
    obtain ⟨rfl, hg⟩ := Prod.mk.inj (Option.some.inj hr)
    obtain ⟨rfl, hg2⟩ := Prod.mk.inj hg
    exact laws_toShare_main a0 (hA.wt 0 rfl) hg2
  · cases hr)

theorem impl_canCompare_ans (N : Nat) (a0 : Array Value) : ansV Try.prog (mkΓ []) N Try.f77 [] [.g a0 53] [] = (bif decide ((num a0 0) ≥ (0 : Int)) then (bif decide ((num a0 0) ≤ (1000000000 : Int)) then (bif decide ((num a0 1) ≥ (1 : Int)) then (some (.a (.b (decide ((num a0 1) ≤ (1000000000 : Int)))), .none, true))
        else (some (.a (.b (false)), .none, true)))
      else (some (.a (.b (false)), .none, true)))
    else (some (.a (.b (false)), .none, true))) := by kernel_rfl

def impl_canCompare_v0 (a0 : Array Value) : Bool := (bif decide ((num a0 0) ≥ (0 : Int)) then (bif decide ((num a0 0) ≤ (1000000000 : Int)) then (bif decide ((num a0 1) ≥ (1 : Int)) then decide ((num a0 1) ≤ (1000000000 : Int)) else false) else false) else false)

theorem impl_canCompare_main (a0 : Array Value) (h_a0 : WT Try.prog 53 a0) (hg : (true) = true) : ansV Try.prog (mkΓ []) 1000 Try.f77 [] [.g a0 53] [] = some (.a (.b ((impl_canCompare_v0 a0))), .none, true) := by
  refine (impl_canCompare_ans 1000 a0).trans ?_
  unfold impl_canCompare_v0
  revert hg
  generalize (decide ((num a0 0) ≥ (0 : Int))) = b2
  intro hg
  cases b2
  · skip
    rfl
  · skip
    revert hg
    generalize (decide ((num a0 0) ≤ (1000000000 : Int))) = b4
    intro hg
    cases b4
    · skip
      rfl
    · skip
      revert hg
      generalize (decide ((num a0 1) ≥ (1 : Int))) = b6
      intro hg
      cases b6
      · skip
        rfl
      · skip
        rfl
def impl_canCompare_con : Con := fun args h => match args, h with
  | [.g a0 53], [] => some (.a (.b ((impl_canCompare_v0 a0))), .none, true)
  | _, _ => none
theorem impl_canCompare_enter : ∀ args w, (callFunc 77 args).run Try.prog w = .ok (.enter 77 args) w := enter_ok (fn := Try.f77) (by kernel_rfl) (by kernel_rfl) (by kernel_rfl)
theorem impl_canCompare_ok : ConOk Try.prog 77 impl_canCompare_con := (ans_ok (N := 1000) (by kernel_rfl) mkΓ_nil (fn := Try.f77) (by kernel_rfl) (by kernel_rfl) []).of (by
  intro ρ h w args vals r e hA hH hr
  unfold impl_canCompare_con at hr
  split at hr
  · rename_i a0
    obtain ⟨rfl, hg⟩ := Prod.mk.inj (Option.some.inj hr)
    obtain ⟨rfl, hg2⟩ := Prod.mk.inj hg
    exact impl_canCompare_main a0 (hA.wt 0 rfl) hg2
  · cases hr)

theorem cmp_isNaN_int64_ans (N : Nat) (a0 : Int) : ansV Try.prog (mkΓ []) N Try.f96 [] [.i .i64 (a0)] [] = (some (.a (.b ((a0 != a0))), .none, true)) := by kernel_rfl



theorem cmp_isNaN_int64_main (a0 : Int) (h_a0 : IntKind.i64.min ≤ a0 ∧ a0 ≤ IntKind.i64.max) (hg : (true) = true) : ansV Try.prog (mkΓ []) 1000 Try.f96 [] [.i .i64 (a0)] [] = some (.a (.b ((a0 != a0))), .none, true) := by
  refine (cmp_isNaN_int64_ans 1000 a0).trans ?_
  rfl
def cmp_isNaN_int64_con : Con := fun args h => match args, h with
  | [.i .i64 a0], [] => some (.a (.b ((a0 != a0))), .none, true)
  | _, _ => none
theorem cmp_isNaN_int64_enter : ∀ args w, (callFunc 96 args).run Try.prog w = .ok (.enter 96 args) w := enter_ok (fn := Try.f96) (by kernel_rfl) (by kernel_rfl) (by kernel_rfl)
theorem cmp_isNaN_int64_ok : ConOk Try.prog 96 cmp_isNaN_int64_con := (ans_ok (N := 1000) (by kernel_rfl) mkΓ_nil (fn := Try.f96) (by kernel_rfl) (by kernel_rfl) []).of (by
  intro ρ h w args vals r e hA hH hr
  unfold cmp_isNaN_int64_con at hr
  split at hr
  · rename_i a0
    obtain ⟨rfl, hg⟩ := Prod.mk.inj (Option.some.inj hr)
    obtain ⟨rfl, hg2⟩ := Prod.mk.inj hg
    exact cmp_isNaN_int64_main a0 (hA.rng 0 rfl) hg2
  · cases hr)

theorem cmp_Compare_int64_ans (N : Nat) (a0 : Int) (a1 : Int) : ansV Try.prog (mkΓ [(96, con cmp_isNaN_int64_con)]) N Try.f90 [] [.i .i64 (a0), .i .i64 (a1)] [] = (bif (a0 != a0) then (bif (a1 != a1) then (some (.a (.i .i64 (0 : Int)), .none, true))
      else (some (.a (.i .i64 (-1 : Int)), .none, true)))
    else (bif (a1 != a1) then (some (.a (.i .i64 (1 : Int)), .none, true))
      else (bif decide (a0 < a1) then (some (.a (.i .i64 (-1 : Int)), .none, true))
        else (bif decide (a0 > a1) then (some (.a (.i .i64 (1 : Int)), .none, true))
          else (some (.a (.i .i64 (0 : Int)), .none, true)))))) := by kernel_rfl

def cmp_Compare_int64_v0 (a0 : Int) (a1 : Int) : Int := (bif (a0 != a0) then (bif (a1 != a1) then (0 : Int) else (-1 : Int)) else (bif (a1 != a1) then (1 : Int) else (bif decide (a0 < a1) then (-1 : Int) else (bif decide (a0 > a1) then (1 : Int) else (0 : Int)))))

theorem cmp_Compare_int64_main (a0 : Int) (a1 : Int) (h_a0 : IntKind.i64.min ≤ a0 ∧ a0 ≤ IntKind.i64.max) (h_a1 : IntKind.i64.min ≤ a1 ∧ a1 ≤ IntKind.i64.max) (hg : (true) = true) : ansV Try.prog (mkΓ [(96, con cmp_isNaN_int64_con)]) 1000 Try.f90 [] [.i .i64 (a0), .i .i64 (a1)] [] = some (.a (.i .i64 (cmp_Compare_int64_v0 a0 a1)), .none, true) := by
  refine (cmp_Compare_int64_ans 1000 a0 a1).trans ?_
  unfold cmp_Compare_int64_v0
  revert hg
  generalize ((a0 != a0)) = b2
  intro hg
  cases b2
  · skip
    revert hg
    generalize ((a1 != a1)) = b4
    intro hg
    cases b4
    · skip
      revert hg
      generalize (decide (a0 < a1)) = b6
      intro hg
      cases b6
      · skip
        revert hg
        generalize (decide (a0 > a1)) = b8
        intro hg
        cases b8
        · skip
          rfl
        · skip
          rfl
      · skip
        rfl
    · skip
      rfl
  · skip
    revert hg
    generalize ((a1 != a1)) = b4
    intro hg
    cases b4
    · skip
      rfl
    · skip
      rfl
def cmp_Compare_int64_con : Con := fun args h => match args, h with
  | [.i .i64 a0, .i .i64 a1], [] => some (.a (.i .i64 (cmp_Compare_int64_v0 a0 a1)), .none, true)
  | _, _ => none
theorem cmp_Compare_int64_enter : ∀ args w, (callFunc 90 args).run Try.prog w = .ok (.enter 90 args) w := enter_ok (fn := Try.f90) (by kernel_rfl) (by kernel_rfl) (by kernel_rfl)
theorem cmp_Compare_int64_ok : ConOk Try.prog 90 cmp_Compare_int64_con := (ans_ok (N := 1000) (by kernel_rfl) (mkΓ_cons (con_ok cmp_isNaN_int64_ok) cmp_isNaN_int64_enter mkΓ_nil) (fn := Try.f90) (by kernel_rfl) (by kernel_rfl) []).of (by
  intro ρ h w args vals r e hA hH hr
  unfold cmp_Compare_int64_con at hr
  split at hr
  · rename_i a0 a1
    obtain ⟨rfl, hg⟩ := Prod.mk.inj (Option.some.inj hr)
    obtain ⟨rfl, hg2⟩ := Prod.mk.inj hg
    exact cmp_Compare_int64_main a0 a1 (hA.rng 0 rfl) (hA.rng 1 rfl) hg2
  · cases hr)

theorem impl_fraction_int64_compare_ans (N : Nat) (a0 : Array Value) (a1 : Array Value) : ansV Try.prog (mkΓ [(90, con cmp_Compare_int64_con)]) N Try.f78 [] [.g a0 103, .g a1 103] [] = (some (.a (.i .i64 (cmp_Compare_int64_v0 (IntKind.i64.wrap ((num a0 0) * (num a1 1))) (IntKind.i64.wrap ((num a1 0) * (num a0 1))))), .none, true)) := by kernel_rfl



theorem impl_fraction_int64_compare_main (a0 : Array Value) (a1 : Array Value) (h_a0 : WT Try.prog 103 a0) (h_a1 : WT Try.prog 103 a1) (hg : (true) = true) : ansV Try.prog (mkΓ [(90, con cmp_Compare_int64_con)]) 1000 Try.f78 [] [.g a0 103, .g a1 103] [] = some (.a (.i .i64 (cmp_Compare_int64_v0 (IntKind.i64.wrap ((num a0 0) * (num a1 1))) (IntKind.i64.wrap ((num a1 0) * (num a0 1))))), .none, true) := by
  refine (impl_fraction_int64_compare_ans 1000 a0 a1).trans ?_
  rfl
def impl_fraction_int64_compare_con : Con := fun args h => match args, h with
  | [.g a0 103, .g a1 103], [] => some (.a (.i .i64 (cmp_Compare_int64_v0 (IntKind.i64.wrap ((num a0 0) * (num a1 1))) (IntKind.i64.wrap ((num a1 0) * (num a0 1))))), .none, true)
  | _, _ => none
theorem impl_fraction_int64_compare_enter : ∀ args w, (callFunc 78 args).run Try.prog w = .ok (.enter 78 args) w := enter_ok (fn := Try.f78) (by kernel_rfl) (by kernel_rfl) (by kernel_rfl)
theorem impl_fraction_int64_compare_ok : ConOk Try.prog 78 impl_fraction_int64_compare_con := (ans_ok (N := 1000) (by kernel_rfl) (mkΓ_cons (con_ok cmp_Compare_int64_ok) cmp_Compare_int64_enter mkΓ_nil) (fn := Try.f78) (by kernel_rfl) (by kernel_rfl) []).of (by
  intro ρ h w args vals r e hA hH hr
  unfold impl_fraction_int64_compare_con at hr
  split at hr
  · rename_i a0 a1
    obtain ⟨rfl, hg⟩ := Prod.mk.inj (Option.some.inj hr)
    obtain ⟨rfl, hg2⟩ := Prod.mk.inj hg
    exact impl_fraction_int64_compare_main a0 a1 (hA.wt 0 rfl) (hA.wt 1 rfl) hg2
  · cases hr)

theorem impl_CompareShares_ans (N : Nat) (a0 : Array Value) (a1 : Array Value) : ansV Try.prog (mkΓ [(77, con impl_canCompare_con), (78, con (rel Try.prog [103, 103] impl_fraction_int64_compare_con))]) N Try.f43 [] [.g a0 53, .g a1 53] [] = (bif (!((impl_canCompare_v0 a0))) then (some (.t [.i .i64 (0 : Int), .i .i64 (1 : Int)], .none, true))
    else (bif (!((impl_canCompare_v0 a1))) then (some (.t [.i .i64 (0 : Int), .i .i64 (1 : Int)], .none, true))
      else (some (.t [.i .i64 (cmp_Compare_int64_v0 (IntKind.i64.wrap ((num a0 0) * (num a1 1))) (IntKind.i64.wrap ((num a1 0) * (num a0 1)))), .i .i64 (0 : Int)], .none, true)))) := by kernel_rfl

def impl_CompareShares_v0 (a0 : Array Value) (a1 : Array Value) : Int := (bif (!((impl_canCompare_v0 a0))) then (0 : Int) else (bif (!((impl_canCompare_v0 a1))) then (0 : Int) else (cmp_Compare_int64_v0 (IntKind.i64.wrap ((num a0 0) * (num a1 1))) (IntKind.i64.wrap ((num a1 0) * (num a0 1))))))
def impl_CompareShares_v1 (a0 : Array Value) (a1 : Array Value) : Int := (bif (!((impl_canCompare_v0 a0))) then (1 : Int) else (bif (!((impl_canCompare_v0 a1))) then (1 : Int) else (0 : Int)))

theorem impl_CompareShares_main (a0 : Array Value) (a1 : Array Value) (h_a0 : WT Try.prog 53 a0) (h_a1 : WT Try.prog 53 a1) (hg : (true) = true) : ansV Try.prog (mkΓ [(77, con impl_canCompare_con), (78, con (rel Try.prog [103, 103] impl_fraction_int64_compare_con))]) 1000 Try.f43 [] [.g a0 53, .g a1 53] [] = some (.t [.i .i64 (impl_CompareShares_v0 a0 a1), .i .i64 (impl_CompareShares_v1 a0 a1)], .none, true) := by
  refine (impl_CompareShares_ans 1000 a0 a1).trans ?_
  unfold impl_CompareShares_v0 impl_CompareShares_v1
  revert hg
  generalize ((!((impl_canCompare_v0 a0)))) = b2
  intro hg
  cases b2
  · skip
    revert hg
    generalize ((!((impl_canCompare_v0 a1)))) = b4
    intro hg
    cases b4
    · skip
      rfl
    · skip
      rfl
  · skip
    rfl
def impl_CompareShares_con : Con := fun args h => match args, h with
  | [.g a0 53, .g a1 53], [] => some (.t [.i .i64 (impl_CompareShares_v0 a0 a1), .i .i64 (impl_CompareShares_v1 a0 a1)], .none, true)
  | _, _ => none
theorem impl_CompareShares_enter : ∀ args w, (callFunc 43 args).run Try.prog w = .ok (.enter 43 args) w := enter_ok (fn := Try.f43) (by kernel_rfl) (by kernel_rfl) (by kernel_rfl)
theorem impl_CompareShares_ok : ConOk Try.prog 43 impl_CompareShares_con := (ans_ok (N := 1000) (by kernel_rfl) (mkΓ_cons (con_ok impl_canCompare_ok) impl_canCompare_enter (mkΓ_cons (con_ok (rel_ok [103, 103] impl_fraction_int64_compare_ok)) impl_fraction_int64_compare_enter mkΓ_nil)) (fn := Try.f43) (by kernel_rfl) (by kernel_rfl) []).of (by
  intro ρ h w args vals r e hA hH hr
  unfold impl_CompareShares_con at hr
  split at hr
  · rename_i a0 a1
    obtain ⟨rfl, hg⟩ := Prod.mk.inj (Option.some.inj hr)
    obtain ⟨rfl, hg2⟩ := Prod.mk.inj hg
    exact impl_CompareShares_main a0 a1 (hA.wt 0 rfl) (hA.wt 1 rfl) hg2
  · cases hr)

theorem laws_FnExactCompareShares_ans (N : Nat) (a0 : Array Value) (a1 : Array Value) : ansV Try.prog (mkΓ [(41, con spec_CompareShares_con), (42, con laws_toShare_con), (43, con impl_CompareShares_con)]) N Try.f14 [] [.g a0 65, .g a1 65] [] = (bif ((impl_CompareShares_v0 (#[.int .i64 (num a0 0), .int .i64 (num a0 1)] : Array Value) (#[.int .i64 (num a1 0), .int .i64 (num a1 1)] : Array Value)) != (spec_CompareShares_v0 (#[.int .i64 (num a0 0), .int .i64 (num a0 1)] : Array Value) (#[.int .i64 (num a1 0), .int .i64 (num a1 1)] : Array Value))) then (some (.a (.b (false)), .none, true))
    else (bif ((impl_CompareShares_v1 (#[.int .i64 (num a0 0), .int .i64 (num a0 1)] : Array Value) (#[.int .i64 (num a1 0), .int .i64 (num a1 1)] : Array Value)) != (spec_CompareShares_v1 (#[.int .i64 (num a0 0), .int .i64 (num a0 1)] : Array Value) (#[.int .i64 (num a1 0), .int .i64 (num a1 1)] : Array Value))) then (some (.a (.b (false)), .none, true))
      else (some (.a (.b (true)), .none, true)))) := by kernel_rfl

def laws_FnExactCompareShares_v0 (a0 : Array Value) (a1 : Array Value) : Bool := (bif ((impl_CompareShares_v0 (#[.int .i64 (num a0 0), .int .i64 (num a0 1)] : Array Value) (#[.int .i64 (num a1 0), .int .i64 (num a1 1)] : Array Value)) != (spec_CompareShares_v0 (#[.int .i64 (num a0 0), .int .i64 (num a0 1)] : Array Value) (#[.int .i64 (num a1 0), .int .i64 (num a1 1)] : Array Value))) then false else (bif ((impl_CompareShares_v1 (#[.int .i64 (num a0 0), .int .i64 (num a0 1)] : Array Value) (#[.int .i64 (num a1 0), .int .i64 (num a1 1)] : Array Value)) != (spec_CompareShares_v1 (#[.int .i64 (num a0 0), .int .i64 (num a0 1)] : Array Value) (#[.int .i64 (num a1 0), .int .i64 (num a1 1)] : Array Value))) then false else true))

theorem laws_FnExactCompareShares_main (a0 : Array Value) (a1 : Array Value) (h_a0 : WT Try.prog 65 a0) (h_a1 : WT Try.prog 65 a1) (hg : (true) = true) : ansV Try.prog (mkΓ [(41, con spec_CompareShares_con), (42, con laws_toShare_con), (43, con impl_CompareShares_con)]) 1000 Try.f14 [] [.g a0 65, .g a1 65] [] = some (.a (.b ((laws_FnExactCompareShares_v0 a0 a1))), .none, true) := by
  refine (laws_FnExactCompareShares_ans 1000 a0 a1).trans ?_
  unfold laws_FnExactCompareShares_v0
  revert hg
  generalize (((impl_CompareShares_v0 (#[.int .i64 (num a0 0), .int .i64 (num a0 1)] : Array Value) (#[.int .i64 (num a1 0), .int .i64 (num a1 1)] : Array Value)) != (spec_CompareShares_v0 (#[.int .i64 (num a0 0), .int .i64 (num a0 1)] : Array Value) (#[.int .i64 (num a1 0), .int .i64 (num a1 1)] : Array Value)))) = b2
  intro hg
  cases b2
  · skip
    revert hg
    generalize (((impl_CompareShares_v1 (#[.int .i64 (num a0 0), .int .i64 (num a0 1)] : Array Value) (#[.int .i64 (num a1 0), .int .i64 (num a1 1)] : Array Value)) != (spec_CompareShares_v1 (#[.int .i64 (num a0 0), .int .i64 (num a0 1)] : Array Value) (#[.int .i64 (num a1 0), .int .i64 (num a1 1)] : Array Value)))) = b4
    intro hg
    cases b4
    · skip
      rfl
    · skip
      rfl
  · skip
    rfl
def laws_FnExactCompareShares_con : Con := fun args h => match args, h with
  | [.g a0 65, .g a1 65], [] => some (.a (.b ((laws_FnExactCompareShares_v0 a0 a1))), .none, true)
  | _, _ => none
theorem laws_FnExactCompareShares_enter : ∀ args w, (callFunc 14 args).run Try.prog w = .ok (.enter 14 args) w := enter_ok (fn := Try.f14) (by kernel_rfl) (by kernel_rfl) (by kernel_rfl)
theorem laws_FnExactCompareShares_ok : ConOk Try.prog 14 laws_FnExactCompareShares_con := (ans_ok (N := 1000) (by kernel_rfl) (mkΓ_cons (con_ok spec_CompareShares_ok) spec_CompareShares_enter (mkΓ_cons (con_ok laws_toShare_ok) laws_toShare_enter (mkΓ_cons (con_ok impl_CompareShares_ok) impl_CompareShares_enter mkΓ_nil))) (fn := Try.f14) (by kernel_rfl) (by kernel_rfl) []).of (by
  intro ρ h w args vals r e hA hH hr
  unfold laws_FnExactCompareShares_con at hr
  split at hr
  · rename_i a0 a1
    obtain ⟨rfl, hg⟩ := Prod.mk.inj (Option.some.inj hr)
    obtain ⟨rfl, hg2⟩ := Prod.mk.inj hg
    exact laws_FnExactCompareShares_main a0 a1 (hA.wt 0 rfl) (hA.wt 1 rfl) hg2
  · cases hr)

theorem canCompare_eq (a : Array Value) : impl_canCompare_v0 a = spec_l02Fraction_v0 a := by
  unfold impl_canCompare_v0 spec_l02Fraction_v0 spec_l00In_v0
  simp only [ge_iff_le]
  cases decide ((0 : Int) ≤ num a 0) <;> cases decide (num a 0 ≤ 1000000000) <;> rfl
theorem compare_eq (a b : Int) : cmp_Compare_int64_v0 a b = (bif decide (a < b) then (-1 : Int) else (bif decide (a > b) then (1 : Int) else (0 : Int))) := by
  unfold cmp_Compare_int64_v0
  simp only [bne_self_eq_false, cond_false]

theorem laws_FnExactCompareShares_true (a0 : Array Value) (a1 : Array Value) (h_a0 : WT Try.prog 65 a0) (h_a1 : WT Try.prog 65 a1) : (true) = true ∧ ((laws_FnExactCompareShares_v0 a0 a1)) = true := by
  have e0 : ∀ a b, impl_CompareShares_v0 a b = spec_CompareShares_v0 a b := fun a b => by
    unfold impl_CompareShares_v0 spec_CompareShares_v0
    rw [compare_eq, canCompare_eq, canCompare_eq]
  have e1 : ∀ a b, impl_CompareShares_v1 a b = spec_CompareShares_v1 a b := fun a b => by
    unfold impl_CompareShares_v1 spec_CompareShares_v1
    rw [canCompare_eq, canCompare_eq]
  refine ⟨rfl, ?_⟩
  unfold laws_FnExactCompareShares_v0
  rw [e0, e1]
  simp only [bne_self_eq_false, cond_false]

namespace lawFnExactCompareShares
theorem lifted (os : Os) (started : os.Started) (H : Type) (enc : TypeId × Value → H) :
    ReturnsInHanded {} Try.checked os 14 .any (Rows.fnExactCompareSharesSpec.pre6 enc Try.prog Try.f14 Rows.fnExactCompareSharesRow.domain false) (Rows.fnExactCompareSharesSpec.post enc Try.prog Try.f14 false true false false) := by
  refine law_lifted (C := Try.checked) (tb := 4) (by kernel_rfl) (by kernel_rfl) (by kernel_rfl) Try.func14 (by kernel_rfl) Try.underlying4 (of_decide_eq_true (by kernel_rfl)) rfl ?_ os started H enc
    (ChangeSpec.witness6 (enc := enc) (C := Try.checked) false ⟨#[], #[.agg (zc Try.prog 65), .agg (zc Try.prog 65)], []⟩ 8 (by kernel_rfl) (by kernel_rfl) (by kernel_rfl) (by kernel_rfl)) ?_
  · intro H ds hds
    rw [show Try.f14.params.toList.length = 2 by kernel_rfl] at hds
    match ds, hds with
    | [_, _], _ => rfl
  · intro W base args ds ps hval hA
    rw [Try.params14] at hA hval
    obtain ⟨v0, v1, d0, d1, p0, p1, hargs, rfl, rfl, h0, h1⟩ := trodAll_two hA
    obtain ⟨a0, e0, w0⟩ := open_data (t := 65) 8 (by kernel_rfl) (by kernel_rfl) (hval 0 65 v0 rfl (by rw [hargs]; rfl)) h0
    obtain ⟨a1, e1, w1⟩ := open_data (t := 65) 8 (by kernel_rfl) (by kernel_rfl) (hval 1 65 v1 rfl (by rw [hargs]; rfl)) h1
    obtain rfl : args = #[.agg a0, .agg a1] := by rw [hargs, e0, e1]
    obtain ⟨hg, hv⟩ := laws_FnExactCompareShares_true a0 a1 w0 w1
    have hr : laws_FnExactCompareShares_con [.g a0 65, .g a1 65] [] = some (.a (.b true), .none, true) := by
      show (some (SV.a (SA.b ((laws_FnExactCompareShares_v0 a0 a1))), Eff.none, true) : Option (SV × Eff × Bool)) = _
      rw [hg, hv]
    exact calls_con laws_FnExactCompareShares_ok hr W (vals := [.agg a0, .agg a1]) (allCons ⟨rfl, w0⟩ (allCons ⟨rfl, w1⟩ allNil))

theorem over : Rows.fnExactCompareSharesRow.holds Try.pinned (OpenSpec.ofChange Rows.fnExactCompareSharesSpec) :=
  OpenClaim.holds_of_wide 14 Try.f14 rfl rfl rfl rfl rfl rfl rfl ⟨rfl, rfl, rfl, rfl, rfl⟩ rfl rfl rfl rfl rfl (by kernel_rfl) Try.func14 (by kernel_rfl)
    (of_decide_eq_true (by kernel_rfl)) (by unfold Func.isWrapper; first | (rw [if_pos (by decide +kernel)]; kernel_rfl) | (rw [if_neg (by decide +kernel)]; exact ⟨rfl, rfl⟩))
    (fun os started H enc _ => lifted os started H enc)

theorem proved : Rows.FnExactCompareSharesSaid := over
#print axioms proved
end lawFnExactCompareShares

end Go.Proofs.Ytjihfoifdloaeaa
