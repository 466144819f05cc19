/- For every sea spec and program swap the tides alike. -/
import Derived.Test.YtbgkcfgdedhclaaRows
import Derived.Test.YtbgkcfgdedhclaaChecked
import Derived.Test.YtbgkcfgdedhclaaBase
import Derived.Test.YtbgkcfgdedhclaaVeSeaA
namespace Go.Proofs.Ytbgkcfgdedhclaa
open Go.ChangeShapes Go.WideShapes Go.ChangeAt Go.RowKit Ve
set_option linter.unusedVariables false
set_option linter.unusedSimpArgs false
set_option maxRecDepth 100000
noncomputable section
theorem spec_SwapTides_ans (N : Nat) (a0 : Array Value) : ansV Try.prog (mkΓ [(42, con spec_l01Ok_con)]) N Try.f34 [] [.g a0 35] [] = (bif (!((okS a0))) then (some (.t [.g (zc Try.prog 35) 35, .i .i64 (1 : Int)], .none, true))
    else (some (.t [.g (spl (spl a0 3 (a0.extract 183 (183 + 180)).toList) 183 (a0.extract 3 (3 + 180)).toList) 35, .i .i64 (0 : Int)], .none, true))) := by kernel_rfl

def spec_SwapTides_v0 (P : Program) (a0 : Array Value) : Array Value := (bif (!((okS a0))) then (zc P 35) else (spl (spl a0 3 (a0.extract 183 (183 + 180)).toList) 183 (a0.extract 3 (3 + 180)).toList))
def spec_SwapTides_v1 (a0 : Array Value) : Int := (bif (!((okS a0))) then (1 : Int) else (0 : Int))

theorem spec_SwapTides_main (a0 : Array Value) (h_a0 : WT Try.prog 35 a0) (hg : (true) = true) : ansV Try.prog (mkΓ [(42, con spec_l01Ok_con)]) 1000 Try.f34 [] [.g a0 35] [] = some (.t [.g (spec_SwapTides_v0 Try.prog a0) 35, .i .i64 (spec_SwapTides_v1 a0)], .none, true) := by
  refine (spec_SwapTides_ans 1000 a0).trans ?_
  unfold spec_SwapTides_v0 spec_SwapTides_v1
  revert hg
  generalize ((!((okS a0)))) = b2
  intro hg
  cases b2
  · skip
    first | rfl | exact (nomatch (hg : false = true))
  · skip
    first | rfl | exact (nomatch (hg : false = true))
def spec_SwapTides_con : Con := fun args h => match args, h with
  | [.g a0 35], [] => some (.t [.g (spec_SwapTides_v0 Try.prog a0) 35, .i .i64 (spec_SwapTides_v1 a0)], .none, true)
  | _, _ => none
theorem spec_SwapTides_enter : ∀ args w, (callFunc 34 args).run Try.prog w = .ok (.enter 34 args) w := enter_ok (fn := Try.f34) (by kernel_rfl) (by kernel_rfl) (by kernel_rfl)
theorem spec_SwapTides_ok : ConOk Try.prog 34 spec_SwapTides_con := (ans_ok (N := 1000) (by kernel_rfl) (mkΓ_cons (con_ok spec_l01Ok_ok) spec_l01Ok_enter mkΓ_nil) (fn := Try.f34) (by kernel_rfl) (by kernel_rfl) []).of (by
  intro ρ h w args vals r e hA hH hr
  unfold spec_SwapTides_con at hr
  split at hr
  · rename_i a0
    obtain ⟨rfl, hg⟩ := Prod.mk.inj (Option.some.inj hr)
    obtain ⟨rfl, hg2⟩ := Prod.mk.inj hg
    exact spec_SwapTides_main a0 (hA.wt 0 rfl) hg2
  · cases hr)

theorem impl_SwapTides_ans (N : Nat) (a0 : Array Value) : ansV Try.prog (mkΓ [(45, con impl_seaCode_con)]) N Try.f35 [] [.g a0 35] [] = (bif ((bif okS a0 then 0 else 1) != (0 : Int)) then (some (.t [.g (zc Try.prog 35) 35, .i .i64 (bif okS a0 then 0 else 1)], .none, true))
    else (some (.t [.g (spl (spl a0 3 (a0.extract 183 (183 + 180)).toList) 183 (a0.extract 3 (3 + 180)).toList) 35, .i .i64 (0 : Int)], .none, true))) := by kernel_rfl

def impl_SwapTides_v0 (P : Program) (a0 : Array Value) : Array Value := (bif ((bif okS a0 then 0 else 1) != (0 : Int)) then (zc P 35) else (spl (spl a0 3 (a0.extract 183 (183 + 180)).toList) 183 (a0.extract 3 (3 + 180)).toList))
def impl_SwapTides_v1 (a0 : Array Value) : Int := (bif ((bif okS a0 then 0 else 1) != (0 : Int)) then (bif okS a0 then 0 else 1) else (0 : Int))

theorem impl_SwapTides_main (a0 : Array Value) (h_a0 : WT Try.prog 35 a0) (hg : (true) = true) : ansV Try.prog (mkΓ [(45, con impl_seaCode_con)]) 1000 Try.f35 [] [.g a0 35] [] = some (.t [.g (impl_SwapTides_v0 Try.prog a0) 35, .i .i64 (impl_SwapTides_v1 a0)], .none, true) := by
  refine (impl_SwapTides_ans 1000 a0).trans ?_
  unfold impl_SwapTides_v0 impl_SwapTides_v1
  revert hg
  generalize (((bif okS a0 then 0 else 1) != (0 : Int))) = b2
  intro hg
  cases b2
  · skip
    first | rfl | exact (nomatch (hg : false = true))
  · skip
    first | rfl | exact (nomatch (hg : false = true))
def impl_SwapTides_con : Con := fun args h => match args, h with
  | [.g a0 35], [] => some (.t [.g (impl_SwapTides_v0 Try.prog a0) 35, .i .i64 (impl_SwapTides_v1 a0)], .none, true)
  | _, _ => none
theorem impl_SwapTides_enter : ∀ args w, (callFunc 35 args).run Try.prog w = .ok (.enter 35 args) w := enter_ok (fn := Try.f35) (by kernel_rfl) (by kernel_rfl) (by kernel_rfl)
theorem impl_SwapTides_ok : ConOk Try.prog 35 impl_SwapTides_con := (ans_ok (N := 1000) (by kernel_rfl) (mkΓ_cons (con_ok impl_seaCode_ok) impl_seaCode_enter mkΓ_nil) (fn := Try.f35) (by kernel_rfl) (by kernel_rfl) []).of (by
  intro ρ h w args vals r e hA hH hr
  unfold impl_SwapTides_con at hr
  split at hr
  · rename_i a0
    obtain ⟨rfl, hg⟩ := Prod.mk.inj (Option.some.inj hr)
    obtain ⟨rfl, hg2⟩ := Prod.mk.inj hg
    exact impl_SwapTides_main a0 (hA.wt 0 rfl) hg2
  · cases hr)

theorem laws_FnExactSwapTides_ans (N : Nat) (a0 : Array Value) : ansV Try.prog (mkΓ [(16, con laws_toSea_con), (22, con laws_eqSea_con), (34, con spec_SwapTides_con), (35, con impl_SwapTides_con)]) N Try.f11 [] [.g a0 28] [] = (bif (!(sameB (impl_SwapTides_v0 Try.prog a0) (spec_SwapTides_v0 Try.prog a0))) then (some (.a (.b (false)), .none, true))
    else (bif ((impl_SwapTides_v1 a0) != (spec_SwapTides_v1 a0)) then (some (.a (.b (false)), .none, true))
      else (some (.a (.b (true)), .none, true)))) := by kernel_rfl

def laws_FnExactSwapTides_v0 (P : Program) (a0 : Array Value) : Bool := (bif (!(sameB (impl_SwapTides_v0 P a0) (spec_SwapTides_v0 P a0))) then false else (bif ((impl_SwapTides_v1 a0) != (spec_SwapTides_v1 a0)) then false else true))

theorem laws_FnExactSwapTides_main (a0 : Array Value) (h_a0 : WT Try.prog 28 a0) (hg : (true) = true) : ansV Try.prog (mkΓ [(16, con laws_toSea_con), (22, con laws_eqSea_con), (34, con spec_SwapTides_con), (35, con impl_SwapTides_con)]) 1000 Try.f11 [] [.g a0 28] [] = some (.a (.b ((laws_FnExactSwapTides_v0 Try.prog a0))), .none, true) := by
  refine (laws_FnExactSwapTides_ans 1000 a0).trans ?_
  unfold laws_FnExactSwapTides_v0
  revert hg
  generalize ((!(sameB (impl_SwapTides_v0 Try.prog a0) (spec_SwapTides_v0 Try.prog a0)))) = b2
  intro hg
  cases b2
  · skip
    revert hg
    generalize (((impl_SwapTides_v1 a0) != (spec_SwapTides_v1 a0))) = b4
    intro hg
    cases b4
    · skip
      first | rfl | exact (nomatch (hg : false = true))
    · skip
      first | rfl | exact (nomatch (hg : false = true))
  · skip
    first | rfl | exact (nomatch (hg : false = true))
def laws_FnExactSwapTides_con : Con := fun args h => match args, h with
  | [.g a0 28], [] => some (.a (.b ((laws_FnExactSwapTides_v0 Try.prog a0))), .none, true)
  | _, _ => none
theorem laws_FnExactSwapTides_enter : ∀ args w, (callFunc 11 args).run Try.prog w = .ok (.enter 11 args) w := enter_ok (fn := Try.f11) (by kernel_rfl) (by kernel_rfl) (by kernel_rfl)
theorem laws_FnExactSwapTides_ok : ConOk Try.prog 11 laws_FnExactSwapTides_con := (ans_ok (N := 1000) (by kernel_rfl) (mkΓ_cons (con_ok laws_toSea_ok) laws_toSea_enter (mkΓ_cons (con_ok laws_eqSea_ok) laws_eqSea_enter (mkΓ_cons (con_ok spec_SwapTides_ok) spec_SwapTides_enter (mkΓ_cons (con_ok impl_SwapTides_ok) impl_SwapTides_enter mkΓ_nil)))) (fn := Try.f11) (by kernel_rfl) (by kernel_rfl) []).of (by
  intro ρ h w args vals r e hA hH hr
  unfold laws_FnExactSwapTides_con at hr
  split at hr
  · rename_i a0
    obtain ⟨rfl, hg⟩ := Prod.mk.inj (Option.some.inj hr)
    obtain ⟨rfl, hg2⟩ := Prod.mk.inj hg
    exact laws_FnExactSwapTides_main a0 (hA.wt 0 rfl) hg2
  · cases hr)

theorem laws_FnExactSwapTides_true (a0 : Array Value) (h_a0 : WT Try.prog 28 a0) : (true) = true ∧ ((laws_FnExactSwapTides_v0 Try.prog a0)) = true := by
  have e0 : impl_SwapTides_v0 Try.prog a0 = spec_SwapTides_v0 Try.prog a0 := by unfold impl_SwapTides_v0 spec_SwapTides_v0; cases okS a0 <;> rfl
  have e1 : impl_SwapTides_v1 a0 = spec_SwapTides_v1 a0 := by unfold impl_SwapTides_v1 spec_SwapTides_v1; cases okS a0 <;> rfl
  refine ⟨rfl, ?_⟩
  unfold laws_FnExactSwapTides_v0
  rw [e0, e1, sameB_self]
  simp only [bne_self_eq_false, cond_false, Bool.not_true]

namespace lawFnExactSwapTides
theorem lifted (os : Os) (started : os.Started) (H : Type) (enc : TypeId × Value → H) :
    ReturnsInHanded {} Try.checked os 11 .any (Rows.fnExactSwapTidesSpec.pre6 enc Try.prog Try.f11 Rows.fnExactSwapTidesRow.domain false) (Rows.fnExactSwapTidesSpec.post enc Try.prog Try.f11 false true false false) := by
  refine law_lifted (C := Try.checked) (tb := 4) (by kernel_rfl) (by kernel_rfl) (by kernel_rfl) Try.func11 (by kernel_rfl) Try.underlying4 (of_decide_eq_true (by kernel_rfl)) rfl ?_ os started H enc
    (ChangeSpec.witness6 (enc := enc) (C := Try.checked) false ⟨#[], #[.agg (zc Try.prog 28)], []⟩ 8 (by kernel_rfl) (by kernel_rfl) (by kernel_rfl) (by kernel_rfl)) ?_
  · intro H ds hds
    rw [show Try.f11.params.toList.length = 1 by kernel_rfl] at hds
    match ds, hds with
    | [_], _ => rfl
  · intro W base args ds ps hval hA
    rw [Try.params11] at hA hval
    obtain ⟨v0, d0, hargs, rfl, h0⟩ := trodAll_one hA
    obtain ⟨a0, e0, w0⟩ := open_data (t := 28) 8 (by kernel_rfl) (by kernel_rfl) (hval 0 28 v0 rfl (by rw [hargs]; rfl)) h0
    obtain rfl : args = #[.agg a0] := by rw [hargs, e0]
    obtain ⟨hg, hv⟩ := laws_FnExactSwapTides_true a0 w0
    have hr : laws_FnExactSwapTides_con [.g a0 28] [] = some (.a (.b true), .none, true) := by
      show (some (SV.a (SA.b ((laws_FnExactSwapTides_v0 Try.prog a0))), Eff.none, true) : Option (SV × Eff × Bool)) = _
      rw [hg, hv]
    exact calls_con laws_FnExactSwapTides_ok hr W (vals := [.agg a0]) (allCons ⟨rfl, w0⟩ allNil)

theorem over : Rows.fnExactSwapTidesRow.holds Try.pinned (OpenSpec.ofChange Rows.fnExactSwapTidesSpec) :=
  OpenClaim.holds_of_wide 11 Try.f11 rfl rfl rfl rfl rfl rfl rfl ⟨rfl, rfl, rfl, rfl, rfl⟩ rfl rfl rfl rfl rfl (by kernel_rfl) Try.func11 (by kernel_rfl)
    (of_decide_eq_true (by kernel_rfl)) (by unfold Func.isWrapper; first | (rw [if_pos (by decide +kernel)]; kernel_rfl) | (rw [if_neg (by decide +kernel)]; exact ⟨rfl, rfl⟩))
    (fun os started H enc _ => lifted os started H enc)

theorem proved : Rows.FnExactSwapTidesSaid := over
#print axioms proved
end lawFnExactSwapTides

end
end Go.Proofs.Ytbgkcfgdedhclaa
