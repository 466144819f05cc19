/- For every two seas and spot spec and program tell the same repaired sea. -/
import Derived.Test.YtjnbhnofffhclaaRows
import Derived.Test.YtjnbhnofffhclaaChecked
import Derived.Test.YtjnbhnofffhclaaBase
import Derived.Test.YtjnbhnofffhclaaVeMp
namespace Go.Proofs.Ytjnbhnofffhclaa
open Go.ChangeShapes Go.WideShapes Go.ChangeAt Go.RowKit Ve
set_option linter.unusedVariables false
set_option linter.unusedSimpArgs false
set_option maxRecDepth 100000
noncomputable section
theorem laws_toSpot_ans (N : Nat) (a0 : Array Value) : ansV Try.prog (mkΓ []) N Try.f24 [] [.g a0 57] [] = (some (.a (.g #[.int .i8 (num a0 0), .int .i8 (num a0 1)] 60), .none, true)) := by kernel_rfl

theorem laws_toSpot_main (a0 : Array Value) (h_a0 : WT Try.prog 57 a0) (hg : (true) = true) : ansV Try.prog (mkΓ []) 1000 Try.f24 [] [.g a0 57] [] = some (.a (.g a0 60), .none, true) := by
  have hz : a0.size = 2 := by rw [h_a0.layLen]; kernel_rfl
  have e0 := (h_a0.int (o := 0) (k := .i8) (by kernel_rfl)).1
  have e1 := (h_a0.int (o := 1) (k := .i8) (by kernel_rfl)).1
  have he : (#[.int .i8 (num a0 0), .int .i8 (num a0 1)] : Array Value) = a0 := arr_ext fun i => by
    match i with
    | 0 => exact e0.symm
    | 1 => exact e1.symm
    | i + 2 => rw [Array.getElem?_eq_none (by simp), Array.getElem?_eq_none (by omega)]
  refine (laws_toSpot_ans 1000 a0).trans ?_
  rw [he]
noncomputable def laws_toSpot_con : Con := fun args h => match args, h with
  | [.g a0 57], [] => some (.a (.g a0 60), .none, true)
  | _, _ => none
theorem laws_toSpot_enter : ∀ args w, (callFunc 24 args).run Try.prog w = .ok (.enter 24 args) w := enter_ok (fn := Try.f24) (by kernel_rfl) (by kernel_rfl) (by kernel_rfl)
theorem laws_toSpot_ok : ConOk Try.prog 24 laws_toSpot_con := (ans_ok (N := 1000) (by kernel_rfl) mkΓ_nil (fn := Try.f24) (by kernel_rfl) (by kernel_rfl) []).of (by
  intro ρ h w args vals r e hA hH hr
  unfold laws_toSpot_con at hr
  split at hr
  · rename_i a0
    obtain ⟨rfl, hg⟩ := Prod.mk.inj (Option.some.inj hr)
    obtain ⟨rfl, hg2⟩ := Prod.mk.inj hg
    exact laws_toSpot_main a0 (hA.wt 0 rfl) hg2
  · cases hr)

noncomputable def laws_FnExactRepairAt_G : Cons := (mkΓ [(10, con laws_toSea_con), (23, con spec_RepairAt_con), (24, con laws_toSpot_con), (25, con impl_RepairAt_con), (26, con laws_eqSea_con)])
theorem laws_FnExactRepairAt_ans (N : Nat) (a0 : Array Value) (a1 : Array Value) (a2 : Array Value) : ansV Try.prog laws_FnExactRepairAt_G N Try.f7 [] [.g a0 28, .g a1 28, .g a2 57] [] = (bif (spec_RepairAt_gd a0 a1 a2) then (bif (impl_RepairAt_gd a0 a1 a2) then (bif (!(sameB (impl_RepairAt_v0 Try.prog a0 a1 a2) (spec_RepairAt_v0 Try.prog a0 a1 a2))) then (some (.a (.b (false)), .none, true))
        else (bif ((impl_RepairAt_v1 a0 a1 a2) != (spec_RepairAt_v1 a0 a1 a2)) then (some (.a (.b (false)), .none, true))
          else (some (.a (.b (true)), .none, true))))
      else (none))
    else (none)) := by kernel_rfl

noncomputable def laws_FnExactRepairAt_v0 (P : Program) (a0 : Array Value) (a1 : Array Value) (a2 : Array Value) : Bool := (bif (!(sameB (impl_RepairAt_v0 P a0 a1 a2) (spec_RepairAt_v0 P a0 a1 a2))) then false else (bif ((impl_RepairAt_v1 a0 a1 a2) != (spec_RepairAt_v1 a0 a1 a2)) then false else true))
noncomputable def laws_FnExactRepairAt_gd (a0 : Array Value) (a1 : Array Value) (a2 : Array Value) : Bool := (bif (spec_RepairAt_gd a0 a1 a2) then (impl_RepairAt_gd a0 a1 a2) else false)

theorem laws_FnExactRepairAt_main (a0 : Array Value) (a1 : Array Value) (a2 : Array Value) (h_a0 : WT Try.prog 28 a0) (h_a1 : WT Try.prog 28 a1) (h_a2 : WT Try.prog 57 a2) (hg : ((laws_FnExactRepairAt_gd a0 a1 a2)) = true) : ansV Try.prog laws_FnExactRepairAt_G 1000 Try.f7 [] [.g a0 28, .g a1 28, .g a2 57] [] = some (.a (.b ((laws_FnExactRepairAt_v0 Try.prog a0 a1 a2))), .none, true) := by
  refine (laws_FnExactRepairAt_ans 1000 a0 a1 a2).trans ?_
  unfold laws_FnExactRepairAt_gd at hg
  unfold laws_FnExactRepairAt_v0
  revert hg
  generalize ((spec_RepairAt_gd a0 a1 a2)) = b2
  intro hg
  cases b2
  · skip
    first | exact (nomatch (hg : false = true)) | (simp only [cond_true, cond_false, Bool.and_true, Bool.true_and, Bool.and_false, Bool.false_and]; done) | rfl
  · skip
    revert hg
    generalize ((impl_RepairAt_gd a0 a1 a2)) = b4
    intro hg
    cases b4
    · skip
      first | exact (nomatch (hg : false = true)) | (simp only [cond_true, cond_false, Bool.and_true, Bool.true_and, Bool.and_false, Bool.false_and]; done) | rfl
    · skip
      revert hg
      generalize ((!(sameB (impl_RepairAt_v0 Try.prog a0 a1 a2) (spec_RepairAt_v0 Try.prog a0 a1 a2)))) = b6
      intro hg
      cases b6
      · skip
        revert hg
        generalize (((impl_RepairAt_v1 a0 a1 a2) != (spec_RepairAt_v1 a0 a1 a2))) = b8
        intro hg
        cases b8
        · skip
          first | (simp only [cond_true, cond_false, Bool.and_true, Bool.true_and, Bool.and_false, Bool.false_and]; done) | rfl | exact (nomatch (hg : false = true))
        · skip
          first | (simp only [cond_true, cond_false, Bool.and_true, Bool.true_and, Bool.and_false, Bool.false_and]; done) | rfl | exact (nomatch (hg : false = true))
      · skip
        first | (simp only [cond_true, cond_false, Bool.and_true, Bool.true_and, Bool.and_false, Bool.false_and]; done) | rfl | exact (nomatch (hg : false = true))
noncomputable def laws_FnExactRepairAt_con : Con := fun args h => match args, h with
  | [.g a0 28, .g a1 28, .g a2 57], [] => some (.a (.b ((laws_FnExactRepairAt_v0 Try.prog a0 a1 a2))), .none, (laws_FnExactRepairAt_gd a0 a1 a2))
  | _, _ => none
theorem laws_FnExactRepairAt_enter : ∀ args w, (callFunc 7 args).run Try.prog w = .ok (.enter 7 args) w := enter_ok (fn := Try.f7) (by kernel_rfl) (by kernel_rfl) (by kernel_rfl)
theorem laws_FnExactRepairAt_ok : ConOk Try.prog 7 laws_FnExactRepairAt_con := (ans_ok (N := 1000) (by kernel_rfl) (mkΓ_cons (con_ok laws_toSea_ok) laws_toSea_enter (mkΓ_cons (con_ok spec_RepairAt_ok) spec_RepairAt_enter (mkΓ_cons (con_ok laws_toSpot_ok) laws_toSpot_enter (mkΓ_cons (con_ok impl_RepairAt_ok) impl_RepairAt_enter (mkΓ_cons (con_ok laws_eqSea_ok) laws_eqSea_enter mkΓ_nil))))) (fn := Try.f7) (by kernel_rfl) (by kernel_rfl) []).of (by
  intro ρ h w args vals r e hA hH hr
  unfold laws_FnExactRepairAt_con at hr
  split at hr
  · rename_i a0 a1 a2
    obtain ⟨rfl, hg⟩ := Prod.mk.inj (Option.some.inj hr)
    obtain ⟨rfl, hg2⟩ := Prod.mk.inj hg
    exact laws_FnExactRepairAt_main a0 a1 a2 (hA.wt 0 rfl) (hA.wt 1 rfl) (hA.wt 2 rfl) hg2
  · cases hr)

theorem laws_FnExactRepairAt_true (a0 : Array Value) (a1 : Array Value) (a2 : Array Value) (h_a0 : WT Try.prog 28 a0) (h_a1 : WT Try.prog 28 a1) (h_a2 : WT Try.prog 57 a2) : ((laws_FnExactRepairAt_gd a0 a1 a2)) = true ∧ ((laws_FnExactRepairAt_v0 Try.prog a0 a1 a2)) = true := by
  have hA := wt_land lay_lawsea h_a0
  have m8 : IntKind.i8.min = -128 ∧ IntKind.i8.max = 127 := ⟨rfl, rfl⟩
  have h0 := (h_a2.int (o := 0) (k := .i8) (by kernel_rfl)).2
  have h1 := (h_a2.int (o := 1) (k := .i8) (by kernel_rfl)).2
  rw [m8.1, m8.2] at h0 h1
  obtain ⟨r0, r1, r2, r3⟩ := repair_eq (C := a1) (x := a2) hA (IntWalk.i64_in _ (by omega)) (IntWalk.i64_in _ (by omega))
  unfold laws_FnExactRepairAt_gd laws_FnExactRepairAt_v0
  rw [r0, r1, r2, r3, sameB_self]
  simp only [bne_self_eq_false, cond_true, cond_false, Bool.not_true, and_self]

namespace lawFnExactRepairAt
theorem lifted (os : Os) (started : os.Started) (H : Type) (enc : TypeId × Value → H) :
    ReturnsInHanded {} Try.checked os 7 .any (Rows.fnExactRepairAtSpec.pre6 enc Try.prog Try.f7 Rows.fnExactRepairAtRow.domain false) (Rows.fnExactRepairAtSpec.post enc Try.prog Try.f7 false true false false) := by
  refine law_lifted (C := Try.checked) (tb := 4) (by kernel_rfl) (by kernel_rfl) (by kernel_rfl) Try.func7 (by kernel_rfl) Try.underlying4 (of_decide_eq_true (by kernel_rfl)) rfl ?_ os started H enc
    (ChangeSpec.witness6 (enc := enc) (C := Try.checked) false ⟨#[], #[.agg (zc Try.prog 28), .agg (zc Try.prog 28), .agg (zc Try.prog 57)], []⟩ 8 (by kernel_rfl) (by kernel_rfl) (by kernel_rfl) (by kernel_rfl)) ?_
  · intro H ds hds
    rw [show Try.f7.params.toList.length = 3 by kernel_rfl] at hds
    match ds, hds with
    | [_, _, _], _ => rfl
  · intro W base args ds ps hval hA
    rw [Try.params7] at hA hval
    obtain ⟨v0, v1, v2, d0, d1, d2, p0, p1, p2, hargs, rfl, rfl, h0, h1, h2⟩ := trodAll_three hA
    obtain ⟨a0, e0, w0⟩ := open_data (t := 28) 8 (by kernel_rfl) (by kernel_rfl) (hval 0 28 v0 rfl (by rw [hargs]; rfl)) h0
    obtain ⟨a1, e1, w1⟩ := open_data (t := 28) 8 (by kernel_rfl) (by kernel_rfl) (hval 1 28 v1 rfl (by rw [hargs]; rfl)) h1
    obtain ⟨a2, e2, w2⟩ := open_data (t := 57) 8 (by kernel_rfl) (by kernel_rfl) (hval 2 57 v2 rfl (by rw [hargs]; rfl)) h2
    obtain rfl : args = #[.agg a0, .agg a1, .agg a2] := by rw [hargs, e0, e1, e2]
    obtain ⟨hg, hv⟩ := laws_FnExactRepairAt_true a0 a1 a2 w0 w1 w2
    have hr : laws_FnExactRepairAt_con [.g a0 28, .g a1 28, .g a2 57] [] = some (.a (.b true), .none, true) := by
      show (some (SV.a (SA.b ((laws_FnExactRepairAt_v0 Try.prog a0 a1 a2))), Eff.none, (laws_FnExactRepairAt_gd a0 a1 a2)) : Option (SV × Eff × Bool)) = _
      rw [hg, hv]
    exact calls_con laws_FnExactRepairAt_ok hr W (vals := [.agg a0, .agg a1, .agg a2]) (allCons ⟨rfl, w0⟩ (allCons ⟨rfl, w1⟩ (allCons ⟨rfl, w2⟩ allNil)))

theorem over : Rows.fnExactRepairAtRow.holds Try.pinned (OpenSpec.ofChange Rows.fnExactRepairAtSpec) :=
  OpenClaim.holds_of_wide 7 Try.f7 rfl rfl rfl rfl rfl rfl rfl ⟨rfl, rfl, rfl, rfl, rfl⟩ rfl rfl rfl rfl rfl (by kernel_rfl) Try.func7 (by kernel_rfl)
    (of_decide_eq_true (by kernel_rfl)) (by unfold Func.isWrapper; first | (rw [if_pos (by decide +kernel)]; kernel_rfl) | (rw [if_neg (by decide +kernel)]; exact ⟨rfl, rfl⟩))
    (fun os started H enc _ => lifted os started H enc)

theorem proved : Rows.FnExactRepairAtSaid := over
#print axioms proved
end lawFnExactRepairAt

end
end Go.Proofs.Ytjnbhnofffhclaa
