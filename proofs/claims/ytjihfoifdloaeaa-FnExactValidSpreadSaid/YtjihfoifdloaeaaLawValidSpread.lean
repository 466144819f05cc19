/- For every sea and spread spec and program answer alike whether the spread is valid. -/
import Derived.Test.YtjihfoifdloaeaaRows
import Derived.Test.YtjihfoifdloaeaaChecked
import Derived.Test.YtjihfoifdloaeaaBase
import Derived.Test.YtjihfoifdloaeaaVeSpreadB
namespace Go.Proofs.Ytjihfoifdloaeaa
open Go.ChangeShapes Go.WideShapes Go.ChangeAt Go.RowKit Ve
set_option linter.unusedVariables false
set_option linter.unusedSimpArgs false
set_option maxRecDepth 100000
noncomputable section
theorem laws_FnExactValidSpread_ans (N : Nat) (a0 : Array Value) (a1 : Array Value) : ansV Try.prog (mkΓ [(17, con spec_ValidSpread_con), (18, con laws_toSea_con), (19, con laws_toSpread_con), (20, con impl_ValidSpread_con)]) N Try.f4 [] [.g a0 31, .g a1 34] [] = (bif (impl_ValidSpread_gd a0 a1) then (bif (((impl_ValidSpread_v0 a0 a1)) != ((spec_ValidSpread_v0 a0 a1))) then (some (.a (.b (false)), .none, true))
      else (some (.a (.b (true)), .none, true)))
    else (none)) := by kernel_rfl

noncomputable def laws_FnExactValidSpread_v0 (a0 : Array Value) (a1 : Array Value) : Bool := (bif (((impl_ValidSpread_v0 a0 a1)) != ((spec_ValidSpread_v0 a0 a1))) then false else true)

theorem laws_FnExactValidSpread_main (a0 : Array Value) (a1 : Array Value) (h_a0 : WT Try.prog 31 a0) (h_a1 : WT Try.prog 34 a1) (hg : ((impl_ValidSpread_gd a0 a1)) = true) : ansV Try.prog (mkΓ [(17, con spec_ValidSpread_con), (18, con laws_toSea_con), (19, con laws_toSpread_con), (20, con impl_ValidSpread_con)]) 1000 Try.f4 [] [.g a0 31, .g a1 34] [] = some (.a (.b ((laws_FnExactValidSpread_v0 a0 a1))), .none, true) := by
  refine (laws_FnExactValidSpread_ans 1000 a0 a1).trans ?_
  unfold laws_FnExactValidSpread_v0
  revert hg
  generalize ((impl_ValidSpread_gd a0 a1)) = b2
  intro hg
  cases b2
  · skip
    first | exact (nomatch (hg : false = true)) | (simp only [cond_true, cond_false, Bool.and_true, Bool.true_and, Bool.and_false, Bool.false_and]; done) | rfl
  · skip
    revert hg
    generalize ((((impl_ValidSpread_v0 a0 a1)) != ((spec_ValidSpread_v0 a0 a1)))) = b4
    intro hg
    cases b4
    · skip
      first | (simp only [cond_true, cond_false, Bool.and_true, Bool.true_and, Bool.and_false, Bool.false_and]; done) | rfl | exact (nomatch (hg : false = true))
    · skip
      first | (simp only [cond_true, cond_false, Bool.and_true, Bool.true_and, Bool.and_false, Bool.false_and]; done) | rfl | exact (nomatch (hg : false = true))
noncomputable def laws_FnExactValidSpread_con : Con := fun args h => match args, h with
  | [.g a0 31, .g a1 34], [] => some (.a (.b ((laws_FnExactValidSpread_v0 a0 a1))), .none, (impl_ValidSpread_gd a0 a1))
  | _, _ => none
theorem laws_FnExactValidSpread_enter : ∀ args w, (callFunc 4 args).run Try.prog w = .ok (.enter 4 args) w := enter_ok (fn := Try.f4) (by kernel_rfl) (by kernel_rfl) (by kernel_rfl)
theorem laws_FnExactValidSpread_ok : ConOk Try.prog 4 laws_FnExactValidSpread_con := (ans_ok (N := 1000) (by kernel_rfl) (mkΓ_cons (con_ok spec_ValidSpread_ok) spec_ValidSpread_enter (mkΓ_cons (con_ok laws_toSea_ok) laws_toSea_enter (mkΓ_cons (con_ok laws_toSpread_ok) laws_toSpread_enter (mkΓ_cons (con_ok impl_ValidSpread_ok) impl_ValidSpread_enter mkΓ_nil)))) (fn := Try.f4) (by kernel_rfl) (by kernel_rfl) []).of (by
  intro ρ h w args vals r e hA hH hr
  unfold laws_FnExactValidSpread_con at hr
  split at hr
  · rename_i a0 a1
    obtain ⟨rfl, hg⟩ := Prod.mk.inj (Option.some.inj hr)
    obtain ⟨rfl, hg2⟩ := Prod.mk.inj hg
    exact laws_FnExactValidSpread_main a0 a1 (hA.wt 0 rfl) (hA.wt 1 rfl) hg2
  · cases hr)

theorem laws_FnExactValidSpread_true (a0 : Array Value) (a1 : Array Value) (h_a0 : WT Try.prog 31 a0) (h_a1 : WT Try.prog 34 a1) : ((impl_ValidSpread_gd a0 a1)) = true ∧ ((laws_FnExactValidSpread_v0 a0 a1)) = true := by
  obtain ⟨e, g⟩ := valid_spread a0 a1
  refine ⟨g, ?_⟩
  unfold laws_FnExactValidSpread_v0
  rw [e]
  simp only [bne_self_eq_false, cond_false]

namespace lawFnExactValidSpread
theorem lifted (os : Os) (started : os.Started) (H : Type) (enc : TypeId × Value → H) :
    ReturnsInHanded {} Try.checked os 4 .any (Rows.fnExactValidSpreadSpec.pre6 enc Try.prog Try.f4 Rows.fnExactValidSpreadRow.domain false) (Rows.fnExactValidSpreadSpec.post enc Try.prog Try.f4 false true false false) := by
  refine law_lifted (C := Try.checked) (tb := 4) (by kernel_rfl) (by kernel_rfl) (by kernel_rfl) Try.func4 (by kernel_rfl) Try.underlying4 (of_decide_eq_true (by kernel_rfl)) rfl ?_ os started H enc
    (ChangeSpec.witness6 (enc := enc) (C := Try.checked) false ⟨#[], #[.agg (zc Try.prog 31), .agg (zc Try.prog 34)], []⟩ 8 (by kernel_rfl) (by kernel_rfl) (by kernel_rfl) (by kernel_rfl)) ?_
  · intro H ds hds
    rw [show Try.f4.params.toList.length = 2 by kernel_rfl] at hds
    match ds, hds with
    | [_, _], _ => rfl
  · intro W base args ds ps hval hA
    rw [Try.params4] at hA hval
    obtain ⟨v0, v1, d0, d1, p0, p1, hargs, rfl, rfl, h0, h1⟩ := trodAll_two hA
    obtain ⟨a0, e0, w0⟩ := open_data (t := 31) 8 (by kernel_rfl) (by kernel_rfl) (hval 0 31 v0 rfl (by rw [hargs]; rfl)) h0
    obtain ⟨a1, e1, w1⟩ := open_data (t := 34) 8 (by kernel_rfl) (by kernel_rfl) (hval 1 34 v1 rfl (by rw [hargs]; rfl)) h1
    obtain rfl : args = #[.agg a0, .agg a1] := by rw [hargs, e0, e1]
    obtain ⟨hg, hv⟩ := laws_FnExactValidSpread_true a0 a1 w0 w1
    have hr : laws_FnExactValidSpread_con [.g a0 31, .g a1 34] [] = some (.a (.b true), .none, true) := by
      show (some (SV.a (SA.b ((laws_FnExactValidSpread_v0 a0 a1))), Eff.none, (impl_ValidSpread_gd a0 a1)) : Option (SV × Eff × Bool)) = _
      rw [hg, hv]
    exact calls_con laws_FnExactValidSpread_ok hr W (vals := [.agg a0, .agg a1]) (allCons ⟨rfl, w0⟩ (allCons ⟨rfl, w1⟩ allNil))

theorem over : Rows.fnExactValidSpreadRow.holds Try.pinned (OpenSpec.ofChange Rows.fnExactValidSpreadSpec) :=
  OpenClaim.holds_of_wide 4 Try.f4 rfl rfl rfl rfl rfl rfl rfl ⟨rfl, rfl, rfl, rfl, rfl⟩ rfl rfl rfl rfl rfl (by kernel_rfl) Try.func4 (by kernel_rfl)
    (of_decide_eq_true (by kernel_rfl)) (by unfold Func.isWrapper; first | (rw [if_pos (by decide +kernel)]; kernel_rfl) | (rw [if_neg (by decide +kernel)]; exact ⟨rfl, rfl⟩))
    (fun os started H enc _ => lifted os started H enc)

theorem proved : Rows.FnExactValidSpreadSaid := over
#print axioms proved
end lawFnExactValidSpread

end
end Go.Proofs.Ytjihfoifdloaeaa
