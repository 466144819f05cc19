/- For every sea and spread spec and program count the same parts afloat. -/
import Derived.Test.YtjihfoifdloaeaaRows
import Derived.Test.YtjihfoifdloaeaaChecked
import Derived.Test.YtjihfoifdloaeaaBase
import Derived.Test.YtjihfoifdloaeaaVeSpreadC
namespace Go.Proofs.Ytjihfoifdloaeaa
open Go.ChangeShapes Go.WideShapes Go.ChangeAt Go.RowKit Ve
set_option linter.unusedVariables false
set_option linter.unusedSimpArgs false
set_option maxRecDepth 100000
noncomputable section
theorem spec_AfloatIn_ans (N : Nat) (a0 : Array Value) (a1 : Array Value) : ansV Try.prog (mkΓ [(60, con spec_l01Cells_con), (65, con spec_l02Asked_con), (66, con spec_l02Sum_con)]) N Try.f26 [] [.g a0 40, .g a1 42] [] = (bif ((spec_l02Asked_v0 a0 a1) != (0 : Int)) then (some (.t [.i .i64 (0 : Int), .i .i64 (spec_l02Asked_v0 a0 a1)], .none, true))
    else (some (.t [.i .i64 (maskW (bitS (IntKind.u64.wrap (BitVec.ofInt IntKind.u64.bits (cellsOf a0) &&& ~~~(BitVec.ofInt IntKind.u64.bits (num a0 2))).toNat)) a1 36), .i .i64 (0 : Int)], .none, true))) := by kernel_rfl

noncomputable def spec_AfloatIn_v0 (a0 : Array Value) (a1 : Array Value) : Int := (bif ((spec_l02Asked_v0 a0 a1) != (0 : Int)) then (0 : Int) else (maskW (bitS (IntKind.u64.wrap (BitVec.ofInt IntKind.u64.bits (cellsOf a0) &&& ~~~(BitVec.ofInt IntKind.u64.bits (num a0 2))).toNat)) a1 36))
noncomputable def spec_AfloatIn_v1 (a0 : Array Value) (a1 : Array Value) : Int := (bif ((spec_l02Asked_v0 a0 a1) != (0 : Int)) then (spec_l02Asked_v0 a0 a1) else (0 : Int))

theorem spec_AfloatIn_main (a0 : Array Value) (a1 : Array Value) (h_a0 : WT Try.prog 40 a0) (h_a1 : WT Try.prog 42 a1) (hg : (true) = true) : ansV Try.prog (mkΓ [(60, con spec_l01Cells_con), (65, con spec_l02Asked_con), (66, con spec_l02Sum_con)]) 1000 Try.f26 [] [.g a0 40, .g a1 42] [] = some (.t [.i .i64 (spec_AfloatIn_v0 a0 a1), .i .i64 (spec_AfloatIn_v1 a0 a1)], .none, true) := by
  refine (spec_AfloatIn_ans 1000 a0 a1).trans ?_
  unfold spec_AfloatIn_v0 spec_AfloatIn_v1
  revert hg
  generalize (((spec_l02Asked_v0 a0 a1) != (0 : Int))) = b2
  intro hg
  cases b2
  · skip
    first | (simp only [cond_true, cond_false, Bool.and_true, Bool.true_and, Bool.and_false, Bool.false_and]; done) | rfl | exact (nomatch (hg : false = true))
  · skip
    first | (simp only [cond_true, cond_false, Bool.and_true, Bool.true_and, Bool.and_false, Bool.false_and]; done) | rfl | exact (nomatch (hg : false = true))
noncomputable def spec_AfloatIn_con : Con := fun args h => match args, h with
  | [.g a0 40, .g a1 42], [] => some (.t [.i .i64 (spec_AfloatIn_v0 a0 a1), .i .i64 (spec_AfloatIn_v1 a0 a1)], .none, true)
  | _, _ => none
theorem spec_AfloatIn_enter : ∀ args w, (callFunc 26 args).run Try.prog w = .ok (.enter 26 args) w := enter_ok (fn := Try.f26) (by kernel_rfl) (by kernel_rfl) (by kernel_rfl)
theorem spec_AfloatIn_ok : ConOk Try.prog 26 spec_AfloatIn_con := (ans_ok (N := 1000) (by kernel_rfl) (mkΓ_cons (con_ok spec_l01Cells_ok) spec_l01Cells_enter (mkΓ_cons (con_ok spec_l02Asked_ok) spec_l02Asked_enter (mkΓ_cons (con_ok spec_l02Sum_ok) spec_l02Sum_enter mkΓ_nil))) (fn := Try.f26) (by kernel_rfl) (by kernel_rfl) []).of (by
  intro ρ h w args vals r e hA hH hr
  unfold spec_AfloatIn_con at hr
  split at hr
  · rename_i a0 a1
    obtain ⟨rfl, hg⟩ := Prod.mk.inj (Option.some.inj hr)
    obtain ⟨rfl, hg2⟩ := Prod.mk.inj hg
    exact spec_AfloatIn_main a0 a1 (hA.wt 0 rfl) (hA.wt 1 rfl) hg2
  · cases hr)

theorem impl_AfloatIn_ans (N : Nat) (a0 : Array Value) (a1 : Array Value) : ansV Try.prog (mkΓ [(67, con impl_spreadCode_con), (68, con impl_amountIn_con), (69, con impl_waterBits_con)]) N Try.f27 [] [.g a0 40, .g a1 42] [] = (bif (impl_ValidSpread_gd a0 a1) then (bif ((impl_spreadCode_v0 a0 a1) != (0 : Int)) then (some (.t [.i .i64 (0 : Int), .i .i64 (impl_spreadCode_v0 a0 a1)], .none, true))
      else (bif (okS a0) then (some (.t [.i .i64 (maskW (bitI (waterOf a0)) a1 36), .i .i64 (0 : Int)], .none, true))
        else (none)))
    else (none)) := by kernel_rfl

noncomputable def impl_AfloatIn_v0 (a0 : Array Value) (a1 : Array Value) : Int := (bif ((impl_spreadCode_v0 a0 a1) != (0 : Int)) then (0 : Int) else (maskW (bitI (waterOf a0)) a1 36))
noncomputable def impl_AfloatIn_v1 (a0 : Array Value) (a1 : Array Value) : Int := (bif ((impl_spreadCode_v0 a0 a1) != (0 : Int)) then (impl_spreadCode_v0 a0 a1) else (0 : Int))
noncomputable def impl_AfloatIn_gd (a0 : Array Value) (a1 : Array Value) : Bool := (bif (impl_ValidSpread_gd a0 a1) then (bif ((impl_spreadCode_v0 a0 a1) != (0 : Int)) then true else (okS a0)) else false)

theorem impl_AfloatIn_main (a0 : Array Value) (a1 : Array Value) (h_a0 : WT Try.prog 40 a0) (h_a1 : WT Try.prog 42 a1) (hg : ((impl_AfloatIn_gd a0 a1)) = true) : ansV Try.prog (mkΓ [(67, con impl_spreadCode_con), (68, con impl_amountIn_con), (69, con impl_waterBits_con)]) 1000 Try.f27 [] [.g a0 40, .g a1 42] [] = some (.t [.i .i64 (impl_AfloatIn_v0 a0 a1), .i .i64 (impl_AfloatIn_v1 a0 a1)], .none, true) := by
  refine (impl_AfloatIn_ans 1000 a0 a1).trans ?_
  unfold impl_AfloatIn_gd at hg
  unfold impl_AfloatIn_v0 impl_AfloatIn_v1
  revert hg
  generalize ((impl_ValidSpread_gd a0 a1)) = b2
  intro hg
  cases b2
  · skip
    first | exact (nomatch (hg : false = true)) | (simp only [cond_true, cond_false, Bool.and_true, Bool.true_and, Bool.and_false, Bool.false_and]; done) | rfl
  · skip
    revert hg
    generalize (((impl_spreadCode_v0 a0 a1) != (0 : Int))) = b4
    intro hg
    cases b4
    · skip
      revert hg
      generalize ((okS a0)) = b6
      intro hg
      cases b6
      · skip
        first | exact (nomatch (hg : false = true)) | (simp only [cond_true, cond_false, Bool.and_true, Bool.true_and, Bool.and_false, Bool.false_and]; done) | rfl
      · skip
        first | (simp only [cond_true, cond_false, Bool.and_true, Bool.true_and, Bool.and_false, Bool.false_and]; done) | rfl | exact (nomatch (hg : false = true))
    · skip
      first | (simp only [cond_true, cond_false, Bool.and_true, Bool.true_and, Bool.and_false, Bool.false_and]; done) | rfl | exact (nomatch (hg : false = true))
noncomputable def impl_AfloatIn_con : Con := fun args h => match args, h with
  | [.g a0 40, .g a1 42], [] => some (.t [.i .i64 (impl_AfloatIn_v0 a0 a1), .i .i64 (impl_AfloatIn_v1 a0 a1)], .none, (impl_AfloatIn_gd a0 a1))
  | _, _ => none
theorem impl_AfloatIn_enter : ∀ args w, (callFunc 27 args).run Try.prog w = .ok (.enter 27 args) w := enter_ok (fn := Try.f27) (by kernel_rfl) (by kernel_rfl) (by kernel_rfl)
theorem impl_AfloatIn_ok : ConOk Try.prog 27 impl_AfloatIn_con := (ans_ok (N := 1000) (by kernel_rfl) (mkΓ_cons (con_ok impl_spreadCode_ok) impl_spreadCode_enter (mkΓ_cons (con_ok impl_amountIn_ok) impl_amountIn_enter (mkΓ_cons (con_ok impl_waterBits_ok) impl_waterBits_enter mkΓ_nil))) (fn := Try.f27) (by kernel_rfl) (by kernel_rfl) []).of (by
  intro ρ h w args vals r e hA hH hr
  unfold impl_AfloatIn_con at hr
  split at hr
  · rename_i a0 a1
    obtain ⟨rfl, hg⟩ := Prod.mk.inj (Option.some.inj hr)
    obtain ⟨rfl, hg2⟩ := Prod.mk.inj hg
    exact impl_AfloatIn_main a0 a1 (hA.wt 0 rfl) (hA.wt 1 rfl) hg2
  · cases hr)

theorem laws_FnExactAfloatIn_ans (N : Nat) (a0 : Array Value) (a1 : Array Value) : ansV Try.prog (mkΓ [(18, con laws_toSea_con), (19, con laws_toSpread_con), (26, con spec_AfloatIn_con), (27, con impl_AfloatIn_con)]) N Try.f7 [] [.g a0 31, .g a1 34] [] = (bif (impl_AfloatIn_gd a0 a1) then (bif ((impl_AfloatIn_v0 a0 a1) != (spec_AfloatIn_v0 a0 a1)) then (some (.a (.b (false)), .none, true))
      else (bif ((impl_AfloatIn_v1 a0 a1) != (spec_AfloatIn_v1 a0 a1)) then (some (.a (.b (false)), .none, true))
        else (some (.a (.b (true)), .none, true))))
    else (none)) := by kernel_rfl

noncomputable def laws_FnExactAfloatIn_v0 (a0 : Array Value) (a1 : Array Value) : Bool := (bif ((impl_AfloatIn_v0 a0 a1) != (spec_AfloatIn_v0 a0 a1)) then false else (bif ((impl_AfloatIn_v1 a0 a1) != (spec_AfloatIn_v1 a0 a1)) then false else true))

theorem laws_FnExactAfloatIn_main (a0 : Array Value) (a1 : Array Value) (h_a0 : WT Try.prog 31 a0) (h_a1 : WT Try.prog 34 a1) (hg : ((impl_AfloatIn_gd a0 a1)) = true) : ansV Try.prog (mkΓ [(18, con laws_toSea_con), (19, con laws_toSpread_con), (26, con spec_AfloatIn_con), (27, con impl_AfloatIn_con)]) 1000 Try.f7 [] [.g a0 31, .g a1 34] [] = some (.a (.b ((laws_FnExactAfloatIn_v0 a0 a1))), .none, true) := by
  refine (laws_FnExactAfloatIn_ans 1000 a0 a1).trans ?_
  unfold laws_FnExactAfloatIn_v0
  revert hg
  generalize ((impl_AfloatIn_gd a0 a1)) = b2
  intro hg
  cases b2
  · skip
    first | exact (nomatch (hg : false = true)) | (simp only [cond_true, cond_false, Bool.and_true, Bool.true_and, Bool.and_false, Bool.false_and]; done) | rfl
  · skip
    revert hg
    generalize (((impl_AfloatIn_v0 a0 a1) != (spec_AfloatIn_v0 a0 a1))) = b4
    intro hg
    cases b4
    · skip
      revert hg
      generalize (((impl_AfloatIn_v1 a0 a1) != (spec_AfloatIn_v1 a0 a1))) = b6
      intro hg
      cases b6
      · skip
        first | (simp only [cond_true, cond_false, Bool.and_true, Bool.true_and, Bool.and_false, Bool.false_and]; done) | rfl | exact (nomatch (hg : false = true))
      · skip
        first | (simp only [cond_true, cond_false, Bool.and_true, Bool.true_and, Bool.and_false, Bool.false_and]; done) | rfl | exact (nomatch (hg : false = true))
    · skip
      first | (simp only [cond_true, cond_false, Bool.and_true, Bool.true_and, Bool.and_false, Bool.false_and]; done) | rfl | exact (nomatch (hg : false = true))
noncomputable def laws_FnExactAfloatIn_con : Con := fun args h => match args, h with
  | [.g a0 31, .g a1 34], [] => some (.a (.b ((laws_FnExactAfloatIn_v0 a0 a1))), .none, (impl_AfloatIn_gd a0 a1))
  | _, _ => none
theorem laws_FnExactAfloatIn_enter : ∀ args w, (callFunc 7 args).run Try.prog w = .ok (.enter 7 args) w := enter_ok (fn := Try.f7) (by kernel_rfl) (by kernel_rfl) (by kernel_rfl)
theorem laws_FnExactAfloatIn_ok : ConOk Try.prog 7 laws_FnExactAfloatIn_con := (ans_ok (N := 1000) (by kernel_rfl) (mkΓ_cons (con_ok laws_toSea_ok) laws_toSea_enter (mkΓ_cons (con_ok laws_toSpread_ok) laws_toSpread_enter (mkΓ_cons (con_ok spec_AfloatIn_ok) spec_AfloatIn_enter (mkΓ_cons (con_ok impl_AfloatIn_ok) impl_AfloatIn_enter mkΓ_nil)))) (fn := Try.f7) (by kernel_rfl) (by kernel_rfl) []).of (by
  intro ρ h w args vals r e hA hH hr
  unfold laws_FnExactAfloatIn_con at hr
  split at hr
  · rename_i a0 a1
    obtain ⟨rfl, hg⟩ := Prod.mk.inj (Option.some.inj hr)
    obtain ⟨rfl, hg2⟩ := Prod.mk.inj hg
    exact laws_FnExactAfloatIn_main a0 a1 (hA.wt 0 rfl) (hA.wt 1 rfl) hg2
  · cases hr)

theorem laws_FnExactAfloatIn_true (a0 : Array Value) (a1 : Array Value) (h_a0 : WT Try.prog 31 a0) (h_a1 : WT Try.prog 34 a1) : ((impl_AfloatIn_gd a0 a1)) = true ∧ ((laws_FnExactAfloatIn_v0 a0 a1)) = true := by
  have hm := wt_land lay_lawsea h_a0
  have hl : (Lit.int .u64 (num a0 2)).wf = true := by show (decide _ && decide _) = true; rw [decide_eq_true (show IntKind.u64.min ≤ num a0 2 from hm.1), decide_eq_true (show num a0 2 ≤ IntKind.u64.max from hm.2)]; rfl
  have hw := waterOf_range a0 hl
  have e0 : impl_AfloatIn_v0 a0 a1 = spec_AfloatIn_v0 a0 a1 := by
    unfold impl_AfloatIn_v0 spec_AfloatIn_v0
    rw [asked_eq, maskW_congr 36 fun k hk => bit_eq hw hk]
    rfl
  have e1 : impl_AfloatIn_v1 a0 a1 = spec_AfloatIn_v1 a0 a1 := by
    unfold impl_AfloatIn_v1 spec_AfloatIn_v1
    rw [asked_eq]
  have g : impl_AfloatIn_gd a0 a1 = true := by
    unfold impl_AfloatIn_gd
    rw [(valid_spread a0 a1).2, asked_eq]
    unfold spec_l02Asked_v0
    cases okS a0 <;> cases specSp a0 a1 <;> rfl
  refine ⟨?_, ?_⟩
  · exact g
  · unfold laws_FnExactAfloatIn_v0
    rw [e0, e1]
    simp only [bne_self_eq_false, cond_false]

namespace lawFnExactAfloatIn
theorem lifted (os : Os) (started : os.Started) (H : Type) (enc : TypeId × Value → H) :
    ReturnsInHanded {} Try.checked os 7 .any (Rows.fnExactAfloatInSpec.pre6 enc Try.prog Try.f7 Rows.fnExactAfloatInRow.domain false) (Rows.fnExactAfloatInSpec.post enc Try.prog Try.f7 false true false false) := by
  refine law_lifted (C := Try.checked) (tb := 4) (by kernel_rfl) (by kernel_rfl) (by kernel_rfl) Try.func7 (by kernel_rfl) Try.underlying4 (of_decide_eq_true (by kernel_rfl)) rfl ?_ os started H enc
    (ChangeSpec.witness6 (enc := enc) (C := Try.checked) false ⟨#[], #[.agg (zc Try.prog 31), .agg (zc Try.prog 34)], []⟩ 8 (by kernel_rfl) (by kernel_rfl) (by kernel_rfl) (by kernel_rfl)) ?_
  · intro H ds hds
    rw [show Try.f7.params.toList.length = 2 by kernel_rfl] at hds
    match ds, hds with
    | [_, _], _ => rfl
  · intro W base args ds ps hval hA
    rw [Try.params7] at hA hval
    obtain ⟨v0, v1, d0, d1, p0, p1, hargs, rfl, rfl, h0, h1⟩ := trodAll_two hA
    obtain ⟨a0, e0, w0⟩ := open_data (t := 31) 8 (by kernel_rfl) (by kernel_rfl) (hval 0 31 v0 rfl (by rw [hargs]; rfl)) h0
    obtain ⟨a1, e1, w1⟩ := open_data (t := 34) 8 (by kernel_rfl) (by kernel_rfl) (hval 1 34 v1 rfl (by rw [hargs]; rfl)) h1
    obtain rfl : args = #[.agg a0, .agg a1] := by rw [hargs, e0, e1]
    obtain ⟨hg, hv⟩ := laws_FnExactAfloatIn_true a0 a1 w0 w1
    have hr : laws_FnExactAfloatIn_con [.g a0 31, .g a1 34] [] = some (.a (.b true), .none, true) := by
      show (some (SV.a (SA.b ((laws_FnExactAfloatIn_v0 a0 a1))), Eff.none, (impl_AfloatIn_gd a0 a1)) : Option (SV × Eff × Bool)) = _
      rw [hg, hv]
    exact calls_con laws_FnExactAfloatIn_ok hr W (vals := [.agg a0, .agg a1]) (allCons ⟨rfl, w0⟩ (allCons ⟨rfl, w1⟩ allNil))

theorem over : Rows.fnExactAfloatInRow.holds Try.pinned (OpenSpec.ofChange Rows.fnExactAfloatInSpec) :=
  OpenClaim.holds_of_wide 7 Try.f7 rfl rfl rfl rfl rfl rfl rfl ⟨rfl, rfl, rfl, rfl, rfl⟩ rfl rfl rfl rfl rfl (by kernel_rfl) Try.func7 (by kernel_rfl)
    (of_decide_eq_true (by kernel_rfl)) (by unfold Func.isWrapper; first | (rw [if_pos (by decide +kernel)]; kernel_rfl) | (rw [if_neg (by decide +kernel)]; exact ⟨rfl, rfl⟩))
    (fun os started H enc _ => lifted os started H enc)

theorem proved : Rows.FnExactAfloatInSaid := over
#print axioms proved
end lawFnExactAfloatIn

end
end Go.Proofs.Ytjihfoifdloaeaa
