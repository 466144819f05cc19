/- For every sea and all numbers spec and program tell the same parts backward. -/
import Derived.Test.YtmkkckhfghomfaaRows
import Derived.Test.YtmkkckhfghomfaaChecked
import Derived.Test.YtmkkckhfghomfaaBase
import Derived.Test.YtmkkckhfghomfaaVePbE
namespace Go.Proofs.Ytmkkckhfghomfaa
open Go.ChangeShapes Go.WideShapes Go.ChangeAt Go.RowKit Ve
set_option linter.unusedVariables false
set_option linter.unusedSimpArgs false
set_option maxRecDepth 100000
noncomputable section
noncomputable def laws_eqInt64A36_e0 : Bool × Int → LS
  | (y0_4, y0_5) => ([.a (.b (y0_4)), .a (.i .i64 (y0_5))], [])

noncomputable def laws_eqInt64A36_x0 : (Stp (Bool × Int) (Bool × Int)) → Exit × LS
  | .more t => (.ret, laws_eqInt64A36_e0 t)
  | .done t => ((.exit 0), laws_eqInt64A36_e0 t)

noncomputable def laws_eqInt64A36_g0 (P : Program) (a0 : Array Value) (a1 : Array Value) : Bool × Int → Option (Stp (Bool × Int) (Stp (Bool × Int) (Bool × Int)))
  | (y0_4, y0_5) => bif decide (y0_5 < (36 : Int)) then (bif (decide (0 ≤ y0_5) && decide (y0_5 < 36)) then (bif (decide (0 ≤ y0_5) && decide (y0_5 < 36)) then (bif ((num a0 ((y0_5).toNat * 1)) != (num a1 ((y0_5).toNat * 1))) then (some (.done (.more (false, y0_5))))
          else (some (.more (y0_4, (IntKind.i64.wrap (y0_5 + (1 : Int)))))))
        else (none))
      else (none))
    else (some (.done (.done (y0_4, y0_5))))

theorem laws_eqInt64A36_s0 (N : Nat) (a0 : Array Value) (a1 : Array Value) : ∀ t : Bool × Int, stepV Try.prog (mkΓ []) N (cAt (codeOf Try.f37) [1, 0, 1, 0, 0]) (pAt (mkPlan (codeOf Try.f37) [([4, 5], [])]).1 [1, 0, 1, 0]) [4, 5] [] (⟨.a (.g a0 61) :: .a (.g a1 61) :: .a (.w 0) :: .a (.w 1) :: .a (.b (false)) :: .a (.i .i64 (0 : Int)) :: us 11 ([]), [.row a0 61, .row a1 61, .no], []⟩ : St) (laws_eqInt64A36_e0 t) = mapS laws_eqInt64A36_e0 laws_eqInt64A36_x0 (laws_eqInt64A36_g0 Try.prog a0 a1 t) := by
  rintro ⟨y0_4, y0_5⟩
  refine Eq.trans (b := (bif decide (y0_5 < (36 : Int)) then (bif (decide (0 ≤ y0_5) && decide (y0_5 < 36)) then (bif (decide (0 ≤ y0_5) && decide (y0_5 < 36)) then (bif ((num a0 ((y0_5).toNat * 1)) != (num a1 ((y0_5).toNat * 1))) then (some (.done (.ret, ([.a (.b (false)), .a (.i .i64 (y0_5))], []))))
          else (some (.more ([.a (.b (y0_4)), .a (.i .i64 (IntKind.i64.wrap (y0_5 + (1 : Int))))], []))))
        else (none))
      else (none))
    else (some (.done ((.exit 0), ([.a (.b (y0_4)), .a (.i .i64 (y0_5))], [])))))) (by kernel_rfl) ?_
  simp only [laws_eqInt64A36_g0, mapS_cond, mapS_more, mapS_done, mapS_none, laws_eqInt64A36_e0, laws_eqInt64A36_x0]

noncomputable def laws_eqInt64A36_k0_0 (P : Program) (N : Nat) (a0 : Array Value) (a1 : Array Value) (z0_4 : Bool) (z0_5 : Int) : Option (SV × Eff × Bool) := some (.a (.b (z0_4)), .none, true)

theorem laws_eqInt64A36_k0_0_eq (N : Nat) (a0 : Array Value) (a1 : Array Value) (z0_4 : Bool) (z0_5 : Int) : (kBlock 0 (kSeq (veC Try.prog (mkΓ []) N (cAt (codeOf Try.f37) [1, 1]) (pAt (mkPlan (codeOf Try.f37) [([4, 5], [])]).1 [1, 1]) (SV × Eff × Bool)) (finK Try.prog [] [.tmp 4]))) .ret (left (writes (cAt (codeOf Try.f37) [1, 0, 1, 0, 0])) [4, 5] [] (⟨.a (.g a0 61) :: .a (.g a1 61) :: .a (.w 0) :: .a (.w 1) :: .a (.b (false)) :: .a (.i .i64 (0 : Int)) :: us 11 ([]), [.row a0 61, .row a1 61, .no], []⟩ : St) ([.a (.b (z0_4)), .a (.i .i64 (z0_5))], [])) = laws_eqInt64A36_k0_0 Try.prog N a0 a1 z0_4 z0_5 := by
  refine Eq.trans (b := (some (.a (.b (z0_4)), .none, true))) (by kernel_rfl) ?_
  rfl

noncomputable def laws_eqInt64A36_k0_1 (P : Program) (N : Nat) (a0 : Array Value) (a1 : Array Value) (z0_4 : Bool) (z0_5 : Int) : Option (SV × Eff × Bool) := some (.a (.b (true)), .none, true)

theorem laws_eqInt64A36_k0_1_eq (N : Nat) (a0 : Array Value) (a1 : Array Value) (z0_4 : Bool) (z0_5 : Int) : (kBlock 0 (kSeq (veC Try.prog (mkΓ []) N (cAt (codeOf Try.f37) [1, 1]) (pAt (mkPlan (codeOf Try.f37) [([4, 5], [])]).1 [1, 1]) (SV × Eff × Bool)) (finK Try.prog [] [.tmp 4]))) (.exit 0) (left (writes (cAt (codeOf Try.f37) [1, 0, 1, 0, 0])) [4, 5] [] (⟨.a (.g a0 61) :: .a (.g a1 61) :: .a (.w 0) :: .a (.w 1) :: .a (.b (false)) :: .a (.i .i64 (0 : Int)) :: us 11 ([]), [.row a0 61, .row a1 61, .no], []⟩ : St) ([.a (.b (z0_4)), .a (.i .i64 (z0_5))], [])) = laws_eqInt64A36_k0_1 Try.prog N a0 a1 z0_4 z0_5 := by
  refine Eq.trans (b := (some (.a (.b (true)), .none, true))) (by kernel_rfl) ?_
  rfl

theorem laws_eqInt64A36_n0 (N : Nat) (a0 : Array Value) (a1 : Array Value) : bindX (iterO (stepV Try.prog (mkΓ []) N (cAt (codeOf Try.f37) [1, 0, 1, 0, 0]) (pAt (mkPlan (codeOf Try.f37) [([4, 5], [])]).1 [1, 0, 1, 0]) [4, 5] [] (⟨.a (.g a0 61) :: .a (.g a1 61) :: .a (.w 0) :: .a (.w 1) :: .a (.b (false)) :: .a (.i .i64 (0 : Int)) :: us 11 ([]), [.row a0 61, .row a1 61, .no], []⟩ : St)) N ([.a (.b (false)), .a (.i .i64 (0 : Int))], [])) (fun e s => (kBlock 0 (kSeq (veC Try.prog (mkΓ []) N (cAt (codeOf Try.f37) [1, 1]) (pAt (mkPlan (codeOf Try.f37) [([4, 5], [])]).1 [1, 1]) (SV × Eff × Bool)) (finK Try.prog [] [.tmp 4]))) e (left (writes (cAt (codeOf Try.f37) [1, 0, 1, 0, 0])) [4, 5] [] (⟨.a (.g a0 61) :: .a (.g a1 61) :: .a (.w 0) :: .a (.w 1) :: .a (.b (false)) :: .a (.i .i64 (0 : Int)) :: us 11 ([]), [.row a0 61, .row a1 61, .no], []⟩ : St) s)) = nodeX (iterO (laws_eqInt64A36_g0 Try.prog a0 a1) N (false, (0 : Int))) (st2 (fun x => laws_eqInt64A36_k0_0 Try.prog N a0 a1 x.1 x.2) (fun x => laws_eqInt64A36_k0_1 Try.prog N a0 a1 x.1 x.2)) := by
  refine loop_node laws_eqInt64A36_e0 laws_eqInt64A36_x0 _ _ (laws_eqInt64A36_s0 N a0 a1) N (false, (0 : Int)) _ _ ?_
  intro x
  cases x with
  | more x => exact laws_eqInt64A36_k0_0_eq N a0 a1 x.1 x.2
  | done x => exact laws_eqInt64A36_k0_1_eq N a0 a1 x.1 x.2

theorem laws_eqInt64A36_ans (N : Nat) (a0 : Array Value) (a1 : Array Value) : ansV Try.prog (mkΓ []) N Try.f37 [([4, 5], [])] [.g a0 61, .g a1 61] [] = (nodeX (iterO (laws_eqInt64A36_g0 Try.prog a0 a1) N (false, (0 : Int))) (st2 (fun x => laws_eqInt64A36_k0_0 Try.prog N a0 a1 x.1 x.2) (fun x => laws_eqInt64A36_k0_1 Try.prog N a0 a1 x.1 x.2))) := by
  refine Eq.trans (b := (bindX (iterO (stepV Try.prog (mkΓ []) N (cAt (codeOf Try.f37) [1, 0, 1, 0, 0]) (pAt (mkPlan (codeOf Try.f37) [([4, 5], [])]).1 [1, 0, 1, 0]) [4, 5] [] (⟨.a (.g a0 61) :: .a (.g a1 61) :: .a (.w 0) :: .a (.w 1) :: .a (.b (false)) :: .a (.i .i64 (0 : Int)) :: us 11 ([]), [.row a0 61, .row a1 61, .no], []⟩ : St)) N ([.a (.b (false)), .a (.i .i64 (0 : Int))], [])) (fun e s => (kBlock 0 (kSeq (veC Try.prog (mkΓ []) N (cAt (codeOf Try.f37) [1, 1]) (pAt (mkPlan (codeOf Try.f37) [([4, 5], [])]).1 [1, 1]) (SV × Eff × Bool)) (finK Try.prog [] [.tmp 4]))) e (left (writes (cAt (codeOf Try.f37) [1, 0, 1, 0, 0])) [4, 5] [] (⟨.a (.g a0 61) :: .a (.g a1 61) :: .a (.w 0) :: .a (.w 1) :: .a (.b (false)) :: .a (.i .i64 (0 : Int)) :: us 11 ([]), [.row a0 61, .row a1 61, .no], []⟩ : St) s)))) (by kernel_rfl) ?_
  simp only [laws_eqInt64A36_n0 N a0 a1]

theorem laws_eqInt64A36_main (a0 : Array Value) (a1 : Array Value) (h_a0 : WT Try.prog 61 a0) (h_a1 : WT Try.prog 61 a1) (hg : (true) = true) : ansV Try.prog (mkΓ []) 1000 Try.f37 [([4, 5], [])] [.g a0 61, .g a1 61] [] = some (.a (.b (sameB a0 a1)), .none, true) := by
  have hz : a0.size = 36 * 1 := by rw [h_a0.layLen]; kernel_rfl
  have hy : a1.size = 36 * 1 := by rw [h_a1.layLen]; kernel_rfl
  have hL : ∀ k, k < 36 → (lay Try.prog 61)[k * 1]? = some 3 := by
    intro k hk
    have h : (List.range 36).all (fun k => (lay Try.prog 61)[k * 1]? == some 3) = true := by kernel_rfl
    exact eq_of_beq (List.all_eq_true.1 h k (List.mem_range.2 hk))
  have hb : sameB a0 a1 = true ↔ ∀ k, k < 36 → (fun k => (num a0 (k * 1) == num a1 (k * 1))) k = true := by
    constructor
    · intro h k hk
      rw [sameB_iff.1 h]
      exact beq_self_eq_true _
    · intro h
      refine sameB_iff.2 ?_
      refine ext_parts (n := 36) (m := 1) (by omega) hz hy (fun k hk => ?_)
      have e0 := (h_a0.int (k := .i64) (hL k hk)).1
      have e1 := (h_a1.int (k := .i64) (hL k hk)).1
      rw [eq_of_beq (h k hk)] at e0
      refine arr_ext fun i => ?_
      rw [Array.getElem?_extract, Array.getElem?_extract, hz, hy]
      by_cases hi : i = 0
      · subst hi; simp only [Nat.add_zero]; rw [e0, e1]
      · rw [if_neg (by omega), if_neg (by omega)]
  refine (laws_eqInt64A36_ans 1000 a0 a1).trans ?_
  refine (iter_first (g := laws_eqInt64A36_g0 Try.prog a0 a1) (fun k => (false, (k : Int))) (fun k => (num a0 (k * 1) == num a1 (k * 1))) 36 (N := 1000) (xd := .done (false, ((36 : Nat) : Int))) (by omega) (fun k hk hp => by
    have h1 : decide ((k : Int) < 36) = true := decide_eq_true (by omega)
    have h0 : decide (0 ≤ (k : Int)) = true := decide_eq_true (by omega)
    have h3 : IntKind.i64.wrap ((k : Int) + 1) = ((k + 1 : Nat) : Int) := by rw [IntWalk.i64_in _ (by omega)]; omega
    have h4 : ((k : Int)).toNat = k := Int.toNat_natCast k
    have hp' : (num a0 (k * 1) == num a1 (k * 1)) = true := hp
    simp only [laws_eqInt64A36_g0, h1, h0, Bool.and_self, h4, cond_true, h3, bne, hp', Bool.not_true, cond_false]) (by
    have h1 : decide (((36 : Nat) : Int) < 36) = false := by decide
    simp only [laws_eqInt64A36_g0, h1, cond_false]) (sameB a0 a1) hb (some (.a (.b true), .none, true)) (some (.a (.b false), .none, true)) rfl (fun k hk hp => by
    refine ⟨.more (false, (k : Int)), ?_, rfl⟩
    have h1 : decide ((k : Int) < 36) = true := decide_eq_true (by omega)
    have h0 : decide (0 ≤ (k : Int)) = true := decide_eq_true (by omega)
    have h4 : ((k : Int)).toNat = k := Int.toNat_natCast k
    have hp' : (num a0 (k * 1) == num a1 (k * 1)) = false := hp
    simp only [laws_eqInt64A36_g0, h1, h0, Bool.and_self, h4, cond_true, bne, hp', Bool.not_false])).trans ?_
  cases sameB a0 a1 <;> rfl
noncomputable def laws_eqInt64A36_con : Con := fun args h => match args, h with
  | [.g a0 61, .g a1 61], [] => some (.a (.b (sameB a0 a1)), .none, true)
  | _, _ => none
theorem laws_eqInt64A36_enter : ∀ args w, (callFunc 37 args).run Try.prog w = .ok (.enter 37 args) w := enter_ok (fn := Try.f37) (by kernel_rfl) (by kernel_rfl) (by kernel_rfl)
theorem laws_eqInt64A36_ok : ConOk Try.prog 37 laws_eqInt64A36_con := (ans_ok (N := 1000) (by kernel_rfl) mkΓ_nil (fn := Try.f37) (by kernel_rfl) (by kernel_rfl) [([4, 5], [])]).of (by
  intro ρ h w args vals r e hA hH hr
  unfold laws_eqInt64A36_con at hr
  split at hr
  · rename_i a0 a1
    obtain ⟨rfl, hg⟩ := Prod.mk.inj (Option.some.inj hr)
    obtain ⟨rfl, hg2⟩ := Prod.mk.inj hg
    exact laws_eqInt64A36_main a0 a1 (hA.wt 0 rfl) (hA.wt 1 rfl) hg2
  · cases hr)

theorem laws_FnExactPartsBack_ans (N : Nat) (a0 : Array Value) (a1 : Int) (a2 : Int) (a3 : Int) : ansV Try.prog (mkΓ [(12, con laws_toSea_con), (35, con spec_PartsBack_con), (36, con impl_PartsBack_con), (37, con laws_eqInt64A36_con)]) N Try.f10 [] [.g a0 28, .i .i64 (a1), .i .i64 (a2), .i .i64 (a3)] [] = (bif (!(sameB (pkV Try.prog a0 a1 a2 a3) (pkV Try.prog a0 a1 a2 a3))) then (some (.a (.b (false)), .none, true))
    else (bif ((pkC a0 a1 a2 a3) != (pkC a0 a1 a2 a3)) then (some (.a (.b (false)), .none, true))
      else (some (.a (.b (true)), .none, true)))) := by kernel_rfl

noncomputable def laws_FnExactPartsBack_v0 (P : Program) (a0 : Array Value) (a1 : Int) (a2 : Int) (a3 : Int) : Bool := (bif (!(sameB (pkV P a0 a1 a2 a3) (pkV P a0 a1 a2 a3))) then false else (bif ((pkC a0 a1 a2 a3) != (pkC a0 a1 a2 a3)) then false else true))

theorem laws_FnExactPartsBack_main (a0 : Array Value) (a1 : Int) (a2 : Int) (a3 : Int) (h_a0 : WT Try.prog 28 a0) (h_a1 : IntKind.i64.min ≤ a1 ∧ a1 ≤ IntKind.i64.max) (h_a2 : IntKind.i64.min ≤ a2 ∧ a2 ≤ IntKind.i64.max) (h_a3 : IntKind.i64.min ≤ a3 ∧ a3 ≤ IntKind.i64.max) (hg : (true) = true) : ansV Try.prog (mkΓ [(12, con laws_toSea_con), (35, con spec_PartsBack_con), (36, con impl_PartsBack_con), (37, con laws_eqInt64A36_con)]) 1000 Try.f10 [] [.g a0 28, .i .i64 (a1), .i .i64 (a2), .i .i64 (a3)] [] = some (.a (.b ((laws_FnExactPartsBack_v0 Try.prog a0 a1 a2 a3))), .none, true) := by
  refine (laws_FnExactPartsBack_ans 1000 a0 a1 a2 a3).trans ?_
  unfold laws_FnExactPartsBack_v0
  revert hg
  generalize ((!(sameB (pkV Try.prog a0 a1 a2 a3) (pkV Try.prog a0 a1 a2 a3)))) = b2
  intro hg
  cases b2
  · skip
    revert hg
    generalize (((pkC a0 a1 a2 a3) != (pkC a0 a1 a2 a3))) = b4
    intro hg
    cases b4
    · skip
      first | (simp only [cond_true, cond_false, Bool.and_true, Bool.true_and, Bool.and_false, Bool.false_and]; done) | rfl | exact (nomatch (hg : false = true))
    · skip
      first | (simp only [cond_true, cond_false, Bool.and_true, Bool.true_and, Bool.and_false, Bool.false_and]; done) | rfl | exact (nomatch (hg : false = true))
  · skip
    first | (simp only [cond_true, cond_false, Bool.and_true, Bool.true_and, Bool.and_false, Bool.false_and]; done) | rfl | exact (nomatch (hg : false = true))
noncomputable def laws_FnExactPartsBack_con : Con := fun args h => match args, h with
  | [.g a0 28, .i .i64 a1, .i .i64 a2, .i .i64 a3], [] => some (.a (.b ((laws_FnExactPartsBack_v0 Try.prog a0 a1 a2 a3))), .none, true)
  | _, _ => none
theorem laws_FnExactPartsBack_enter : ∀ args w, (callFunc 10 args).run Try.prog w = .ok (.enter 10 args) w := enter_ok (fn := Try.f10) (by kernel_rfl) (by kernel_rfl) (by kernel_rfl)
theorem laws_FnExactPartsBack_ok : ConOk Try.prog 10 laws_FnExactPartsBack_con := (ans_ok (N := 1000) (by kernel_rfl) (mkΓ_cons (con_ok laws_toSea_ok) laws_toSea_enter (mkΓ_cons (con_ok spec_PartsBack_ok) spec_PartsBack_enter (mkΓ_cons (con_ok impl_PartsBack_ok) impl_PartsBack_enter (mkΓ_cons (con_ok laws_eqInt64A36_ok) laws_eqInt64A36_enter mkΓ_nil)))) (fn := Try.f10) (by kernel_rfl) (by kernel_rfl) []).of (by
  intro ρ h w args vals r e hA hH hr
  unfold laws_FnExactPartsBack_con at hr
  split at hr
  · rename_i a0 a1 a2 a3
    obtain ⟨rfl, hg⟩ := Prod.mk.inj (Option.some.inj hr)
    obtain ⟨rfl, hg2⟩ := Prod.mk.inj hg
    exact laws_FnExactPartsBack_main a0 a1 a2 a3 (hA.wt 0 rfl) (hA.rng 1 rfl) (hA.rng 2 rfl) (hA.rng 3 rfl) hg2
  · cases hr)

theorem laws_FnExactPartsBack_true (a0 : Array Value) (a1 : Int) (a2 : Int) (a3 : Int) (h_a0 : WT Try.prog 28 a0) (h_a1 : IntKind.i64.min ≤ a1 ∧ a1 ≤ IntKind.i64.max) (h_a2 : IntKind.i64.min ≤ a2 ∧ a2 ≤ IntKind.i64.max) (h_a3 : IntKind.i64.min ≤ a3 ∧ a3 ≤ IntKind.i64.max) : (true) = true ∧ ((laws_FnExactPartsBack_v0 Try.prog a0 a1 a2 a3)) = true := by
  unfold laws_FnExactPartsBack_v0
  simp only [sameB_self, bne_self_eq_false, cond_false, Bool.not_true, cond_true]
  exact ⟨trivial, trivial⟩

namespace lawFnExactPartsBack
theorem lifted (os : Os) (started : os.Started) (H : Type) (enc : TypeId × Value → H) :
    ReturnsInHanded {} Try.checked os 10 .any (Rows.fnExactPartsBackSpec.pre6 enc Try.prog Try.f10 Rows.fnExactPartsBackRow.domain false) (Rows.fnExactPartsBackSpec.post enc Try.prog Try.f10 false true false false) := by
  refine law_lifted (C := Try.checked) (tb := 4) (by kernel_rfl) (by kernel_rfl) (by kernel_rfl) Try.func10 (by kernel_rfl) Try.underlying4 (of_decide_eq_true (by kernel_rfl)) rfl ?_ os started H enc
    (ChangeSpec.witness6 (enc := enc) (C := Try.checked) false ⟨#[], #[.agg (zc Try.prog 28), .int .i64 0, .int .i64 0, .int .i64 0], []⟩ 8 (by kernel_rfl) (by kernel_rfl) (by kernel_rfl) (by kernel_rfl)) ?_
  · intro H ds hds
    rw [show Try.f10.params.toList.length = 4 by kernel_rfl] at hds
    match ds, hds with
    | [_, _, _, _], _ => rfl
  · intro W base args ds ps hval hA
    rw [Try.params10] at hA hval
    obtain ⟨v0, v1, v2, v3, d0, d1, d2, d3, p0, p1, p2, p3, hargs, rfl, rfl, h0, h1, h2, h3⟩ := trodAll_four hA
    obtain ⟨a0, e0, w0⟩ := open_data (t := 28) 8 (by kernel_rfl) (by kernel_rfl) (hval 0 28 v0 rfl (by rw [hargs]; rfl)) h0
    obtain ⟨a1, e1, _, _, w1⟩ := open_int Try.underlying2 (hval 1 2 v1 rfl (by rw [hargs]; rfl)) h1
    obtain ⟨a2, e2, _, _, w2⟩ := open_int Try.underlying2 (hval 2 2 v2 rfl (by rw [hargs]; rfl)) h2
    obtain ⟨a3, e3, _, _, w3⟩ := open_int Try.underlying2 (hval 3 2 v3 rfl (by rw [hargs]; rfl)) h3
    obtain rfl : args = #[.agg a0, .int .i64 a1, .int .i64 a2, .int .i64 a3] := by rw [hargs, e0, e1, e2, e3]
    obtain ⟨hg, hv⟩ := laws_FnExactPartsBack_true a0 a1 a2 a3 w0 (wfb w1) (wfb w2) (wfb w3)
    have hr : laws_FnExactPartsBack_con [.g a0 28, .i .i64 a1, .i .i64 a2, .i .i64 a3] [] = some (.a (.b true), .none, true) := by
      show (some (SV.a (SA.b ((laws_FnExactPartsBack_v0 Try.prog a0 a1 a2 a3))), Eff.none, true) : Option (SV × Eff × Bool)) = _
      rw [hg, hv]
    exact calls_con laws_FnExactPartsBack_ok hr W (vals := [.agg a0, .int .i64 a1, .int .i64 a2, .int .i64 a3]) (allCons ⟨rfl, w0⟩ (allCons ⟨rfl, wfb w1⟩ (allCons ⟨rfl, wfb w2⟩ (allCons ⟨rfl, wfb w3⟩ allNil))))

theorem over : Rows.fnExactPartsBackRow.holds Try.pinned (OpenSpec.ofChange Rows.fnExactPartsBackSpec) :=
  OpenClaim.holds_of_wide 10 Try.f10 rfl rfl rfl rfl rfl rfl rfl ⟨rfl, rfl, rfl, rfl, rfl⟩ rfl rfl rfl rfl rfl (by kernel_rfl) Try.func10 (by kernel_rfl)
    (of_decide_eq_true (by kernel_rfl)) (by unfold Func.isWrapper; first | (rw [if_pos (by decide +kernel)]; kernel_rfl) | (rw [if_neg (by decide +kernel)]; exact ⟨rfl, rfl⟩))
    (fun os started H enc _ => lifted os started H enc)

theorem proved : Rows.FnExactPartsBackSaid := over
#print axioms proved
end lawFnExactPartsBack

end
end Go.Proofs.Ytmkkckhfghomfaa
