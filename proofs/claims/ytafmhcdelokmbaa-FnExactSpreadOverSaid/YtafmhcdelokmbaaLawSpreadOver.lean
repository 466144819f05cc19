/- For every sea, cells and tide spec and program set the same spread. -/
import Derived.Test.YtafmhcdelokmbaaRows
import Derived.Test.YtafmhcdelokmbaaChecked
import Derived.Test.YtafmhcdelokmbaaBase
import Derived.Test.YtafmhcdelokmbaaVeGrid
namespace Go.Proofs.Ytafmhcdelokmbaa
open Go.ChangeShapes Go.WideShapes Go.ChangeAt Go.RowKit Ve
set_option linter.unusedVariables false
set_option linter.unusedSimpArgs false
set_option maxRecDepth 100000
noncomputable section
noncomputable def laws_eqInt64A36_e0 : Bool × Int → LS
  | (y0_4, y0_5) => ([.a (.b (y0_4)), .a (.i .i64 (y0_5))], [])

noncomputable def laws_eqInt64A36_x0 : (Stp (Bool × Int) (Bool × Int)) → Exit × LS
  | .more t => (.ret, laws_eqInt64A36_e0 t)
  | .done t => ((.exit 0), laws_eqInt64A36_e0 t)

noncomputable def laws_eqInt64A36_g0 (P : Program) (a0 : Array Value) (a1 : Array Value) : Bool × Int → Option (Stp (Bool × Int) (Stp (Bool × Int) (Bool × Int)))
  | (y0_4, y0_5) => bif decide (y0_5 < (36 : Int)) then (bif (decide (0 ≤ y0_5) && decide (y0_5 < 36)) then (bif (decide (0 ≤ y0_5) && decide (y0_5 < 36)) then (bif ((num a0 ((y0_5).toNat * 1)) != (num a1 ((y0_5).toNat * 1))) then (some (.done (.more (false, y0_5))))
          else (some (.more (y0_4, (IntKind.i64.wrap (y0_5 + (1 : Int)))))))
        else (none))
      else (none))
    else (some (.done (.done (y0_4, y0_5))))

theorem laws_eqInt64A36_s0 (N : Nat) (a0 : Array Value) (a1 : Array Value) : ∀ t : Bool × Int, stepV Try.prog (mkΓ []) N (cAt (codeOf Try.f43) [1, 0, 1, 0, 0]) (pAt (mkPlan (codeOf Try.f43) [([4, 5], [])]).1 [1, 0, 1, 0]) [4, 5] [] (⟨[.a (.g a0 48), .a (.g a1 48), .a (.w 0), .a (.w 1), .a (.b (false)), .a (.i .i64 (0 : Int)), .a (.u), .a (.u), .a (.u), .a (.u), .a (.u), .a (.u), .a (.u), .a (.u), .a (.u), .a (.u), .a (.u)], [.row a0 48, .row a1 48, .no], []⟩ : St) (laws_eqInt64A36_e0 t) = mapS laws_eqInt64A36_e0 laws_eqInt64A36_x0 (laws_eqInt64A36_g0 Try.prog a0 a1 t) := by
  rintro ⟨y0_4, y0_5⟩
  have h : stepV Try.prog (mkΓ []) N (cAt (codeOf Try.f43) [1, 0, 1, 0, 0]) (pAt (mkPlan (codeOf Try.f43) [([4, 5], [])]).1 [1, 0, 1, 0]) [4, 5] [] (⟨[.a (.g a0 48), .a (.g a1 48), .a (.w 0), .a (.w 1), .a (.b (false)), .a (.i .i64 (0 : Int)), .a (.u), .a (.u), .a (.u), .a (.u), .a (.u), .a (.u), .a (.u), .a (.u), .a (.u), .a (.u), .a (.u)], [.row a0 48, .row a1 48, .no], []⟩ : St) ([.a (.b (y0_4)), .a (.i .i64 (y0_5))], []) = (bif decide (y0_5 < (36 : Int)) then (bif (decide (0 ≤ y0_5) && decide (y0_5 < 36)) then (bif (decide (0 ≤ y0_5) && decide (y0_5 < 36)) then (bif ((num a0 ((y0_5).toNat * 1)) != (num a1 ((y0_5).toNat * 1))) then (some (.done (.ret, ([.a (.b (false)), .a (.i .i64 (y0_5))], []))))
          else (some (.more ([.a (.b (y0_4)), .a (.i .i64 (IntKind.i64.wrap (y0_5 + (1 : Int))))], []))))
        else (none))
      else (none))
    else (some (.done ((.exit 0), ([.a (.b (y0_4)), .a (.i .i64 (y0_5))], []))))) := by kernel_rfl
  refine h.trans ?_
  simp only [laws_eqInt64A36_g0, mapS_cond, mapS_more, mapS_done, mapS_none, laws_eqInt64A36_e0, laws_eqInt64A36_x0]

noncomputable def laws_eqInt64A36_k0_0 (P : Program) (N : Nat) (a0 : Array Value) (a1 : Array Value) (z0_4 : Bool) (z0_5 : Int) : Option (SV × Eff × Bool) := some (.a (.b (z0_4)), .none, true)

theorem laws_eqInt64A36_k0_0_eq (N : Nat) (a0 : Array Value) (a1 : Array Value) (z0_4 : Bool) (z0_5 : Int) : (kBlock 0 (kSeq (veC Try.prog (mkΓ []) N (cAt (codeOf Try.f43) [1, 1]) (pAt (mkPlan (codeOf Try.f43) [([4, 5], [])]).1 [1, 1]) (SV × Eff × Bool)) (finK Try.prog [] [.tmp 4]))) .ret (left (writes (cAt (codeOf Try.f43) [1, 0, 1, 0, 0])) [4, 5] [] (⟨[.a (.g a0 48), .a (.g a1 48), .a (.w 0), .a (.w 1), .a (.b (false)), .a (.i .i64 (0 : Int)), .a (.u), .a (.u), .a (.u), .a (.u), .a (.u), .a (.u), .a (.u), .a (.u), .a (.u), .a (.u), .a (.u)], [.row a0 48, .row a1 48, .no], []⟩ : St) ([.a (.b (z0_4)), .a (.i .i64 (z0_5))], [])) = laws_eqInt64A36_k0_0 Try.prog N a0 a1 z0_4 z0_5 := by
  have h : (kBlock 0 (kSeq (veC Try.prog (mkΓ []) N (cAt (codeOf Try.f43) [1, 1]) (pAt (mkPlan (codeOf Try.f43) [([4, 5], [])]).1 [1, 1]) (SV × Eff × Bool)) (finK Try.prog [] [.tmp 4]))) .ret (left (writes (cAt (codeOf Try.f43) [1, 0, 1, 0, 0])) [4, 5] [] (⟨[.a (.g a0 48), .a (.g a1 48), .a (.w 0), .a (.w 1), .a (.b (false)), .a (.i .i64 (0 : Int)), .a (.u), .a (.u), .a (.u), .a (.u), .a (.u), .a (.u), .a (.u), .a (.u), .a (.u), .a (.u), .a (.u)], [.row a0 48, .row a1 48, .no], []⟩ : St) ([.a (.b (z0_4)), .a (.i .i64 (z0_5))], [])) = (some (.a (.b (z0_4)), .none, true)) := by kernel_rfl
  refine h.trans ?_
  rfl

noncomputable def laws_eqInt64A36_k0_1 (P : Program) (N : Nat) (a0 : Array Value) (a1 : Array Value) (z0_4 : Bool) (z0_5 : Int) : Option (SV × Eff × Bool) := some (.a (.b (true)), .none, true)

theorem laws_eqInt64A36_k0_1_eq (N : Nat) (a0 : Array Value) (a1 : Array Value) (z0_4 : Bool) (z0_5 : Int) : (kBlock 0 (kSeq (veC Try.prog (mkΓ []) N (cAt (codeOf Try.f43) [1, 1]) (pAt (mkPlan (codeOf Try.f43) [([4, 5], [])]).1 [1, 1]) (SV × Eff × Bool)) (finK Try.prog [] [.tmp 4]))) (.exit 0) (left (writes (cAt (codeOf Try.f43) [1, 0, 1, 0, 0])) [4, 5] [] (⟨[.a (.g a0 48), .a (.g a1 48), .a (.w 0), .a (.w 1), .a (.b (false)), .a (.i .i64 (0 : Int)), .a (.u), .a (.u), .a (.u), .a (.u), .a (.u), .a (.u), .a (.u), .a (.u), .a (.u), .a (.u), .a (.u)], [.row a0 48, .row a1 48, .no], []⟩ : St) ([.a (.b (z0_4)), .a (.i .i64 (z0_5))], [])) = laws_eqInt64A36_k0_1 Try.prog N a0 a1 z0_4 z0_5 := by
  have h : (kBlock 0 (kSeq (veC Try.prog (mkΓ []) N (cAt (codeOf Try.f43) [1, 1]) (pAt (mkPlan (codeOf Try.f43) [([4, 5], [])]).1 [1, 1]) (SV × Eff × Bool)) (finK Try.prog [] [.tmp 4]))) (.exit 0) (left (writes (cAt (codeOf Try.f43) [1, 0, 1, 0, 0])) [4, 5] [] (⟨[.a (.g a0 48), .a (.g a1 48), .a (.w 0), .a (.w 1), .a (.b (false)), .a (.i .i64 (0 : Int)), .a (.u), .a (.u), .a (.u), .a (.u), .a (.u), .a (.u), .a (.u), .a (.u), .a (.u), .a (.u), .a (.u)], [.row a0 48, .row a1 48, .no], []⟩ : St) ([.a (.b (z0_4)), .a (.i .i64 (z0_5))], [])) = (some (.a (.b (true)), .none, true)) := by kernel_rfl
  refine h.trans ?_
  rfl

theorem laws_eqInt64A36_n0 (N : Nat) (a0 : Array Value) (a1 : Array Value) : bindX (iterO (stepV Try.prog (mkΓ []) N (cAt (codeOf Try.f43) [1, 0, 1, 0, 0]) (pAt (mkPlan (codeOf Try.f43) [([4, 5], [])]).1 [1, 0, 1, 0]) [4, 5] [] (⟨[.a (.g a0 48), .a (.g a1 48), .a (.w 0), .a (.w 1), .a (.b (false)), .a (.i .i64 (0 : Int)), .a (.u), .a (.u), .a (.u), .a (.u), .a (.u), .a (.u), .a (.u), .a (.u), .a (.u), .a (.u), .a (.u)], [.row a0 48, .row a1 48, .no], []⟩ : St)) N ([.a (.b (false)), .a (.i .i64 (0 : Int))], [])) (fun e s => (kBlock 0 (kSeq (veC Try.prog (mkΓ []) N (cAt (codeOf Try.f43) [1, 1]) (pAt (mkPlan (codeOf Try.f43) [([4, 5], [])]).1 [1, 1]) (SV × Eff × Bool)) (finK Try.prog [] [.tmp 4]))) e (left (writes (cAt (codeOf Try.f43) [1, 0, 1, 0, 0])) [4, 5] [] (⟨[.a (.g a0 48), .a (.g a1 48), .a (.w 0), .a (.w 1), .a (.b (false)), .a (.i .i64 (0 : Int)), .a (.u), .a (.u), .a (.u), .a (.u), .a (.u), .a (.u), .a (.u), .a (.u), .a (.u), .a (.u), .a (.u)], [.row a0 48, .row a1 48, .no], []⟩ : St) s)) = nodeX (iterO (laws_eqInt64A36_g0 Try.prog a0 a1) N (false, (0 : Int))) (st2 (fun x => laws_eqInt64A36_k0_0 Try.prog N a0 a1 x.1 x.2) (fun x => laws_eqInt64A36_k0_1 Try.prog N a0 a1 x.1 x.2)) := by
  refine loop_node laws_eqInt64A36_e0 laws_eqInt64A36_x0 _ _ (laws_eqInt64A36_s0 N a0 a1) N (false, (0 : Int)) _ _ ?_
  intro x
  cases x with
  | more x => exact laws_eqInt64A36_k0_0_eq N a0 a1 x.1 x.2
  | done x => exact laws_eqInt64A36_k0_1_eq N a0 a1 x.1 x.2

theorem laws_eqInt64A36_ans (N : Nat) (a0 : Array Value) (a1 : Array Value) : ansV Try.prog (mkΓ []) N Try.f43 [([4, 5], [])] [.g a0 48, .g a1 48] [] = (nodeX (iterO (laws_eqInt64A36_g0 Try.prog a0 a1) N (false, (0 : Int))) (st2 (fun x => laws_eqInt64A36_k0_0 Try.prog N a0 a1 x.1 x.2) (fun x => laws_eqInt64A36_k0_1 Try.prog N a0 a1 x.1 x.2))) := by
  have h : ansV Try.prog (mkΓ []) N Try.f43 [([4, 5], [])] [.g a0 48, .g a1 48] [] = (bindX (iterO (stepV Try.prog (mkΓ []) N (cAt (codeOf Try.f43) [1, 0, 1, 0, 0]) (pAt (mkPlan (codeOf Try.f43) [([4, 5], [])]).1 [1, 0, 1, 0]) [4, 5] [] (⟨[.a (.g a0 48), .a (.g a1 48), .a (.w 0), .a (.w 1), .a (.b (false)), .a (.i .i64 (0 : Int)), .a (.u), .a (.u), .a (.u), .a (.u), .a (.u), .a (.u), .a (.u), .a (.u), .a (.u), .a (.u), .a (.u)], [.row a0 48, .row a1 48, .no], []⟩ : St)) N ([.a (.b (false)), .a (.i .i64 (0 : Int))], [])) (fun e s => (kBlock 0 (kSeq (veC Try.prog (mkΓ []) N (cAt (codeOf Try.f43) [1, 1]) (pAt (mkPlan (codeOf Try.f43) [([4, 5], [])]).1 [1, 1]) (SV × Eff × Bool)) (finK Try.prog [] [.tmp 4]))) e (left (writes (cAt (codeOf Try.f43) [1, 0, 1, 0, 0])) [4, 5] [] (⟨[.a (.g a0 48), .a (.g a1 48), .a (.w 0), .a (.w 1), .a (.b (false)), .a (.i .i64 (0 : Int)), .a (.u), .a (.u), .a (.u), .a (.u), .a (.u), .a (.u), .a (.u), .a (.u), .a (.u), .a (.u), .a (.u)], [.row a0 48, .row a1 48, .no], []⟩ : St) s))) := by kernel_rfl
  refine h.trans ?_
  simp only [laws_eqInt64A36_n0]

theorem laws_eqInt64A36_main (a0 : Array Value) (a1 : Array Value) (h_a0 : WT Try.prog 48 a0) (h_a1 : WT Try.prog 48 a1) (hg : (true) = true) : ansV Try.prog (mkΓ []) 1000 Try.f43 [([4, 5], [])] [.g a0 48, .g a1 48] [] = some (.a (.b (sameB a0 a1)), .none, true) := by
  have hz : a0.size = 36 * 1 := by rw [h_a0.layLen]; kernel_rfl
  have hy : a1.size = 36 * 1 := by rw [h_a1.layLen]; kernel_rfl
  have hL : ∀ k, k < 36 → (lay Try.prog 48)[k * 1]? = some 3 := by
    intro k hk
    have h : (List.range 36).all (fun k => (lay Try.prog 48)[k * 1]? == some 3) = true := by kernel_rfl
    exact eq_of_beq (List.all_eq_true.1 h k (List.mem_range.2 hk))
  have hb : sameB a0 a1 = true ↔ ∀ k, k < 36 → (fun k => (num a0 (k * 1) == num a1 (k * 1))) k = true := by
    constructor
    · intro h k hk
      rw [sameB_iff.1 h]
      exact beq_self_eq_true _
    · intro h
      refine sameB_iff.2 ?_
      refine ext_parts (n := 36) (m := 1) (by omega) hz hy (fun k hk => ?_)
      have e0 := (h_a0.int (k := .i64) (hL k hk)).1
      have e1 := (h_a1.int (k := .i64) (hL k hk)).1
      rw [eq_of_beq (h k hk)] at e0
      refine arr_ext fun i => ?_
      rw [Array.getElem?_extract, Array.getElem?_extract, hz, hy]
      by_cases hi : i = 0
      · subst hi; simp only [Nat.add_zero]; rw [e0, e1]
      · rw [if_neg (by omega), if_neg (by omega)]
  refine (laws_eqInt64A36_ans 1000 a0 a1).trans ?_
  refine (iter_first (g := laws_eqInt64A36_g0 Try.prog a0 a1) (fun k => (false, (k : Int))) (fun k => (num a0 (k * 1) == num a1 (k * 1))) 36 (N := 1000) (xd := .done (false, ((36 : Nat) : Int))) (by omega) (fun k hk hp => by
    have h1 : decide ((k : Int) < 36) = true := decide_eq_true (by omega)
    have h0 : decide (0 ≤ (k : Int)) = true := decide_eq_true (by omega)
    have h3 : IntKind.i64.wrap ((k : Int) + 1) = ((k + 1 : Nat) : Int) := by rw [IntWalk.i64_in _ (by omega)]; omega
    have h4 : ((k : Int)).toNat = k := Int.toNat_natCast k
    have hp' : (num a0 (k * 1) == num a1 (k * 1)) = true := hp
    simp only [laws_eqInt64A36_g0, h1, h0, Bool.and_self, h4, cond_true, h3, bne, hp', Bool.not_true, cond_false]) (by
    have h1 : decide (((36 : Nat) : Int) < 36) = false := by decide
    simp only [laws_eqInt64A36_g0, h1, cond_false]) (sameB a0 a1) hb (some (.a (.b true), .none, true)) (some (.a (.b false), .none, true)) rfl (fun k hk hp => by
    refine ⟨.more (false, (k : Int)), ?_, rfl⟩
    have h1 : decide ((k : Int) < 36) = true := decide_eq_true (by omega)
    have h0 : decide (0 ≤ (k : Int)) = true := decide_eq_true (by omega)
    have h4 : ((k : Int)).toNat = k := Int.toNat_natCast k
    have hp' : (num a0 (k * 1) == num a1 (k * 1)) = false := hp
    simp only [laws_eqInt64A36_g0, h1, h0, Bool.and_self, h4, cond_true, bne, hp', Bool.not_false])).trans ?_
  cases sameB a0 a1 <;> rfl
noncomputable def laws_eqInt64A36_con : Con := fun args h => match args, h with
  | [.g a0 48, .g a1 48], [] => some (.a (.b (sameB a0 a1)), .none, true)
  | _, _ => none
theorem laws_eqInt64A36_enter : ∀ args w, (callFunc 43 args).run Try.prog w = .ok (.enter 43 args) w := enter_ok (fn := Try.f43) (by kernel_rfl) (by kernel_rfl) (by kernel_rfl)
theorem laws_eqInt64A36_ok : ConOk Try.prog 43 laws_eqInt64A36_con := (ans_ok (N := 1000) (by kernel_rfl) mkΓ_nil (fn := Try.f43) (by kernel_rfl) (by kernel_rfl) [([4, 5], [])]).of (by
  intro ρ h w args vals r e hA hH hr
  unfold laws_eqInt64A36_con at hr
  split at hr
  · rename_i a0 a1
    obtain ⟨rfl, hg⟩ := Prod.mk.inj (Option.some.inj hr)
    obtain ⟨rfl, hg2⟩ := Prod.mk.inj hg
    exact laws_eqInt64A36_main a0 a1 (hA.wt 0 rfl) (hA.wt 1 rfl) hg2
  · cases hr)

theorem laws_eqSpread_ans (N : Nat) (a0 : Array Value) (a1 : Array Value) : ansV Try.prog (mkΓ [(43, con laws_eqInt64A36_con)]) N Try.f29 [] [.g a0 50, .g a1 50] [] = (bif ((num a0 0) != (num a1 0)) then (some (.a (.b (false)), .none, true))
    else (bif ((num a0 1) != (num a1 1)) then (some (.a (.b (false)), .none, true))
      else (bif ((num a0 2) != (num a1 2)) then (some (.a (.b (false)), .none, true))
        else (bif (!(sameB (a0.extract 3 (3 + 36)) (a1.extract 3 (3 + 36)))) then (some (.a (.b (false)), .none, true))
          else (bif ((num a0 39) != (num a1 39)) then (some (.a (.b (false)), .none, true))
            else (some (.a (.b (true)), .none, true))))))) := by kernel_rfl

theorem laws_eqSpread_main (a0 : Array Value) (a1 : Array Value) (h_a0 : WT Try.prog 50 a0) (h_a1 : WT Try.prog 50 a1) (hg : (true) = true) : ansV Try.prog (mkΓ [(43, con laws_eqInt64A36_con)]) 1000 Try.f29 [] [.g a0 50, .g a1 50] [] = some (.a (.b (sameB a0 a1)), .none, true) := by
  have hz : a0.size = 40 := by rw [h_a0.layLen]; kernel_rfl
  have hy : a1.size = 40 := by rw [h_a1.layLen]; kernel_rfl
  refine (laws_eqSpread_ans 1000 a0 a1).trans ?_
  cases hb : sameB a0 a1
  · have hne := sameB_false.1 hb
    cases h0 : (num a0 0 != num a1 0)
    · skip
      cases h1 : (num a0 1 != num a1 1)
      · skip
        cases h2 : (num a0 2 != num a1 2)
        · skip
          cases h3 : sameB (a0.extract 3 (3 + 36)) (a1.extract 3 (3 + 36))
          · rfl
          · skip
            cases h4 : (num a0 39 != num a1 39)
            · skip
              exfalso
              refine hne (arr_ext fun i => ?_)
              by_cases c0 : i = 0
              · subst c0
                rw [(h_a0.int (k := .i8) (o := 0) (by kernel_rfl)).1, (h_a1.int (k := .i8) (o := 0) (by kernel_rfl)).1, num_eq h0]
              by_cases c1 : i = 1
              · subst c1
                rw [(h_a0.int (k := .i8) (o := 1) (by kernel_rfl)).1, (h_a1.int (k := .i8) (o := 1) (by kernel_rfl)).1, num_eq h1]
              by_cases c2 : i = 2
              · subst c2
                rw [(h_a0.int (k := .i64) (o := 2) (by kernel_rfl)).1, (h_a1.int (k := .i64) (o := 2) (by kernel_rfl)).1, num_eq h2]
              by_cases c3 : 3 ≤ i ∧ i < 3 + 36
              · exact part_cell (o := 3) (n := 36) (by omega) (by omega) (sameB_iff.1 h3) c3.1 c3.2
              by_cases c4 : i = 39
              · subst c4
                rw [(h_a0.int (k := .i64) (o := 39) (by kernel_rfl)).1, (h_a1.int (k := .i64) (o := 39) (by kernel_rfl)).1, num_eq h4]
              rw [Array.getElem?_eq_none (by omega), Array.getElem?_eq_none (by omega)]
            · rfl
        · rfl
      · rfl
    · rfl
  · rw [sameB_iff.1 hb]
    simp only [bne_self_eq_false, cond_false, sameB_self, Bool.not_true]
noncomputable def laws_eqSpread_con : Con := fun args h => match args, h with
  | [.g a0 50, .g a1 50], [] => some (.a (.b (sameB a0 a1)), .none, true)
  | _, _ => none
theorem laws_eqSpread_enter : ∀ args w, (callFunc 29 args).run Try.prog w = .ok (.enter 29 args) w := enter_ok (fn := Try.f29) (by kernel_rfl) (by kernel_rfl) (by kernel_rfl)
theorem laws_eqSpread_ok : ConOk Try.prog 29 laws_eqSpread_con := (ans_ok (N := 1000) (by kernel_rfl) (mkΓ_cons (con_ok laws_eqInt64A36_ok) laws_eqInt64A36_enter mkΓ_nil) (fn := Try.f29) (by kernel_rfl) (by kernel_rfl) []).of (by
  intro ρ h w args vals r e hA hH hr
  unfold laws_eqSpread_con at hr
  split at hr
  · rename_i a0 a1
    obtain ⟨rfl, hg⟩ := Prod.mk.inj (Option.some.inj hr)
    obtain ⟨rfl, hg2⟩ := Prod.mk.inj hg
    exact laws_eqSpread_main a0 a1 (hA.wt 0 rfl) (hA.wt 1 rfl) hg2
  · cases hr)

theorem tide_eq (t : Int) : impl_hasTide_v0 t = spec_l00In_v0 t 0 1 := by
  unfold impl_hasTide_v0 spec_l00In_v0
  by_cases h0 : t = 0
  · subst h0; rfl
  · by_cases h1 : t = 1
    · subst h1; rfl
    · rw [show (t == 0) = false from beq_eq_false_iff_ne.2 h0, show (t == 1) = false from beq_eq_false_iff_ne.2 h1]
      by_cases h2 : t ≥ 0
      · rw [decide_eq_true h2, decide_eq_false (show ¬ t ≤ 1 by omega)]; rfl
      · rw [decide_eq_false h2]; rfl
theorem tide_range {t : Int} (h : spec_l00In_v0 t 0 1 = true) : 0 ≤ t ∧ t ≤ 1 := by
  unfold spec_l00In_v0 at h
  cases h0 : decide (t ≥ 0) with
  | false => rw [h0] at h; exact nomatch h
  | true => rw [h0] at h; exact ⟨of_decide_eq_true h0, of_decide_eq_true h⟩

noncomputable def putOne (r : Array Value) (k : Nat) : Array Value :=
  (r.setIfInBounds (3 + k * 1) (.int .i64 (1 : Int))).setIfInBounds 2 (.int .i64 (IntKind.i64.wrap ((num (r.setIfInBounds (3 + k * 1) (.int .i64 (1 : Int))) 2) + (1 : Int))))
/-- A bottle in each of some cells. -/
noncomputable def overV (P : Program) (c b : Int) : Array Value := folds (fun r k => if bitI c k then putOne r k else r) ((zc P 50).setIfInBounds 0 (.int .i8 (IntKind.i8.wrap b))) 36
noncomputable def overCode (S : Array Value) (c b : Int) : Int := bif okS S then (bif (andNotI c (gridI (num S 0) (num S 1) 36) == 0) then (bif spec_l00In_v0 b 0 1 then (bif c == 0 then 4 else 0) else 2) else 2) else 1
noncomputable def overR (P : Program) (S : Array Value) (c b : Int) : Array Value := bif overCode S c b == 0 then overV P c b else zc P 50

noncomputable def spec_SpreadOver_e0 : Int × Array Value → LS
  | (y0_9, r0_6) => ([.a (.i .i64 (y0_9))], [.row r0_6 50])

noncomputable def spec_SpreadOver_x0 : Int × Array Value → Exit × LS
  | t => ((.exit 0), spec_SpreadOver_e0 t)

noncomputable def spec_SpreadOver_g0 (P : Program) (a0 : Array Value) (a1 : Int) (a2 : Int) : Int × Array Value → Option (Stp (Int × Array Value) (Int × Array Value))
  | (y0_9, r0_6) => bif decide (y0_9 < (36 : Int)) then (bif decide (0 ≤ (IntKind.u64.wrap y0_9)) then (bif (((((a1).fdiv (2 ^ (min ((IntKind.u64.wrap y0_9)).toNat IntKind.u64.bits)))).tmod (2 : Int)) == (1 : Int)) then (bif (decide (0 ≤ y0_9) && decide (y0_9 < 36)) then (some (.more ((IntKind.i64.wrap (y0_9 + (1 : Int))), ((r0_6.setIfInBounds (3 + ((y0_9).toNat * 1)) (.int .i64 (1 : Int))).setIfInBounds 2 (.int .i64 (IntKind.i64.wrap ((num (r0_6.setIfInBounds (3 + ((y0_9).toNat * 1)) (.int .i64 (1 : Int))) 2) + (1 : Int))))))))
          else (none))
        else (some (.more ((IntKind.i64.wrap (y0_9 + (1 : Int))), r0_6))))
      else (none))
    else (some (.done (y0_9, r0_6)))

theorem spec_SpreadOver_s0 (N : Nat) (a0 : Array Value) (a1 : Int) (a2 : Int) : ∀ t : Int × Array Value, stepV Try.prog (mkΓ [(53, con spec_l01Cells_con), (61, con spec_l01Ok_con), (75, con spec_l01Tide_con)]) N (cAt (codeOf Try.f27) [1, 1, 1, 1, 1, 0, 1, 0, 0]) (pAt (mkPlan (codeOf Try.f27) [([9], [6])]).1 [1, 1, 1, 1, 1, 0, 1, 0]) [9] [6] (⟨[.a (.g a0 29), .a (.i .u64 (a1)), .a (.i .i64 (a2)), .a (.w 0), .a (.u), .a (.u), .a (.w 1), .a (.i .i64 (0 : Int)), .a (.w 6), .a (.i .i64 (0 : Int)), .a (.b ((okS a0))), .a (.b ((!((okS a0))))), .a (.u), .a (.i .u64 (a1)), .a (.i .u64 (gridI (num a0 0) (num a0 1) 36)), .a (.i .u64 (IntKind.u64.wrap (BitVec.ofInt IntKind.u64.bits a1 &&& ~~~(BitVec.ofInt IntKind.u64.bits (gridI (num a0 0) (num a0 1) 36))).toNat)), .a (.b (((IntKind.u64.wrap (BitVec.ofInt IntKind.u64.bits a1 &&& ~~~(BitVec.ofInt IntKind.u64.bits (gridI (num a0 0) (num a0 1) 36))).toNat) != (0 : Int)))), .a (.b (false)), .a (.i .i64 (a2)), .a (.b ((spec_l00In_v0 a2 (0 : Int) (1 : Int)))), .a (.b ((!((spec_l00In_v0 a2 (0 : Int) (1 : Int)))))), .a (.b ((!((spec_l00In_v0 a2 (0 : Int) (1 : Int)))))), .a (.u), .a (.i .u64 (a1)), .a (.b ((a1 == (0 : Int)))), .a (.u), .a (.i .i64 (a2)), .a (.i .i8 (IntKind.i8.wrap a2)), .a (.g ((zc Try.prog 50).setIfInBounds 0 (.int .i8 (IntKind.i8.wrap a2))) 50), .a (.u), .a (.u), .a (.u), .a (.u), .a (.u), .a (.u), .a (.u), .a (.u), .a (.u), .a (.u), .a (.u), .a (.u), .a (.u), .a (.u), .a (.u), .a (.u), .a (.u), .a (.u)], [.row a0 29, .row (zc Try.prog 50) 50, .no, .no, .no, .no, .row ((zc Try.prog 50).setIfInBounds 0 (.int .i8 (IntKind.i8.wrap a2))) 50, .no], [6]⟩ : St) (spec_SpreadOver_e0 t) = mapS spec_SpreadOver_e0 spec_SpreadOver_x0 (spec_SpreadOver_g0 Try.prog a0 a1 a2 t) := by
  rintro ⟨y0_9, r0_6⟩
  have h : stepV Try.prog (mkΓ [(53, con spec_l01Cells_con), (61, con spec_l01Ok_con), (75, con spec_l01Tide_con)]) N (cAt (codeOf Try.f27) [1, 1, 1, 1, 1, 0, 1, 0, 0]) (pAt (mkPlan (codeOf Try.f27) [([9], [6])]).1 [1, 1, 1, 1, 1, 0, 1, 0]) [9] [6] (⟨[.a (.g a0 29), .a (.i .u64 (a1)), .a (.i .i64 (a2)), .a (.w 0), .a (.u), .a (.u), .a (.w 1), .a (.i .i64 (0 : Int)), .a (.w 6), .a (.i .i64 (0 : Int)), .a (.b ((okS a0))), .a (.b ((!((okS a0))))), .a (.u), .a (.i .u64 (a1)), .a (.i .u64 (gridI (num a0 0) (num a0 1) 36)), .a (.i .u64 (IntKind.u64.wrap (BitVec.ofInt IntKind.u64.bits a1 &&& ~~~(BitVec.ofInt IntKind.u64.bits (gridI (num a0 0) (num a0 1) 36))).toNat)), .a (.b (((IntKind.u64.wrap (BitVec.ofInt IntKind.u64.bits a1 &&& ~~~(BitVec.ofInt IntKind.u64.bits (gridI (num a0 0) (num a0 1) 36))).toNat) != (0 : Int)))), .a (.b (false)), .a (.i .i64 (a2)), .a (.b ((spec_l00In_v0 a2 (0 : Int) (1 : Int)))), .a (.b ((!((spec_l00In_v0 a2 (0 : Int) (1 : Int)))))), .a (.b ((!((spec_l00In_v0 a2 (0 : Int) (1 : Int)))))), .a (.u), .a (.i .u64 (a1)), .a (.b ((a1 == (0 : Int)))), .a (.u), .a (.i .i64 (a2)), .a (.i .i8 (IntKind.i8.wrap a2)), .a (.g ((zc Try.prog 50).setIfInBounds 0 (.int .i8 (IntKind.i8.wrap a2))) 50), .a (.u), .a (.u), .a (.u), .a (.u), .a (.u), .a (.u), .a (.u), .a (.u), .a (.u), .a (.u), .a (.u), .a (.u), .a (.u), .a (.u), .a (.u), .a (.u), .a (.u), .a (.u)], [.row a0 29, .row (zc Try.prog 50) 50, .no, .no, .no, .no, .row ((zc Try.prog 50).setIfInBounds 0 (.int .i8 (IntKind.i8.wrap a2))) 50, .no], [6]⟩ : St) ([.a (.i .i64 (y0_9))], [.row r0_6 50]) = (bif decide (y0_9 < (36 : Int)) then (bif decide (0 ≤ (IntKind.u64.wrap y0_9)) then (bif (((((a1).fdiv (2 ^ (min ((IntKind.u64.wrap y0_9)).toNat IntKind.u64.bits)))).tmod (2 : Int)) == (1 : Int)) then (bif (decide (0 ≤ y0_9) && decide (y0_9 < 36)) then (some (.more ([.a (.i .i64 (IntKind.i64.wrap (y0_9 + (1 : Int))))], [.row ((r0_6.setIfInBounds (3 + ((y0_9).toNat * 1)) (.int .i64 (1 : Int))).setIfInBounds 2 (.int .i64 (IntKind.i64.wrap ((num (r0_6.setIfInBounds (3 + ((y0_9).toNat * 1)) (.int .i64 (1 : Int))) 2) + (1 : Int))))) 50])))
          else (none))
        else (some (.more ([.a (.i .i64 (IntKind.i64.wrap (y0_9 + (1 : Int))))], [.row r0_6 50]))))
      else (none))
    else (some (.done ((.exit 0), ([.a (.i .i64 (y0_9))], [.row r0_6 50]))))) := by kernel_rfl
  refine h.trans ?_
  simp only [spec_SpreadOver_g0, mapS_cond, mapS_more, mapS_done, mapS_none, spec_SpreadOver_e0, spec_SpreadOver_x0]

noncomputable def spec_SpreadOver_k0_0 (P : Program) (N : Nat) (a0 : Array Value) (a1 : Int) (a2 : Int) (z0_9 : Int) (q0_6 : Array Value) : Option (SV × Eff × Bool) := some (.t [.g q0_6 50, .i .i64 (0 : Int)], .none, true)

theorem spec_SpreadOver_k0_0_eq (N : Nat) (a0 : Array Value) (a1 : Int) (a2 : Int) (z0_9 : Int) (q0_6 : Array Value) : (kBlock 0 (kSeq (veC Try.prog (mkΓ [(53, con spec_l01Cells_con), (61, con spec_l01Ok_con), (75, con spec_l01Tide_con)]) N (cAt (codeOf Try.f27) [1, 1, 1, 1, 1, 1]) (pAt (mkPlan (codeOf Try.f27) [([9], [6])]).1 [1, 1, 1, 1, 1, 1]) (SV × Eff × Bool)) (finK Try.prog [] [.cell 6 50, .tmp 7]))) (.exit 0) (left (writes (cAt (codeOf Try.f27) [1, 1, 1, 1, 1, 0, 1, 0, 0])) [9] [6] (⟨[.a (.g a0 29), .a (.i .u64 (a1)), .a (.i .i64 (a2)), .a (.w 0), .a (.u), .a (.u), .a (.w 1), .a (.i .i64 (0 : Int)), .a (.w 6), .a (.i .i64 (0 : Int)), .a (.b ((okS a0))), .a (.b ((!((okS a0))))), .a (.u), .a (.i .u64 (a1)), .a (.i .u64 (gridI (num a0 0) (num a0 1) 36)), .a (.i .u64 (IntKind.u64.wrap (BitVec.ofInt IntKind.u64.bits a1 &&& ~~~(BitVec.ofInt IntKind.u64.bits (gridI (num a0 0) (num a0 1) 36))).toNat)), .a (.b (((IntKind.u64.wrap (BitVec.ofInt IntKind.u64.bits a1 &&& ~~~(BitVec.ofInt IntKind.u64.bits (gridI (num a0 0) (num a0 1) 36))).toNat) != (0 : Int)))), .a (.b (false)), .a (.i .i64 (a2)), .a (.b ((spec_l00In_v0 a2 (0 : Int) (1 : Int)))), .a (.b ((!((spec_l00In_v0 a2 (0 : Int) (1 : Int)))))), .a (.b ((!((spec_l00In_v0 a2 (0 : Int) (1 : Int)))))), .a (.u), .a (.i .u64 (a1)), .a (.b ((a1 == (0 : Int)))), .a (.u), .a (.i .i64 (a2)), .a (.i .i8 (IntKind.i8.wrap a2)), .a (.g ((zc Try.prog 50).setIfInBounds 0 (.int .i8 (IntKind.i8.wrap a2))) 50), .a (.u), .a (.u), .a (.u), .a (.u), .a (.u), .a (.u), .a (.u), .a (.u), .a (.u), .a (.u), .a (.u), .a (.u), .a (.u), .a (.u), .a (.u), .a (.u), .a (.u), .a (.u)], [.row a0 29, .row (zc Try.prog 50) 50, .no, .no, .no, .no, .row ((zc Try.prog 50).setIfInBounds 0 (.int .i8 (IntKind.i8.wrap a2))) 50, .no], [6]⟩ : St) ([.a (.i .i64 (z0_9))], [.row q0_6 50])) = spec_SpreadOver_k0_0 Try.prog N a0 a1 a2 z0_9 q0_6 := by
  have h : (kBlock 0 (kSeq (veC Try.prog (mkΓ [(53, con spec_l01Cells_con), (61, con spec_l01Ok_con), (75, con spec_l01Tide_con)]) N (cAt (codeOf Try.f27) [1, 1, 1, 1, 1, 1]) (pAt (mkPlan (codeOf Try.f27) [([9], [6])]).1 [1, 1, 1, 1, 1, 1]) (SV × Eff × Bool)) (finK Try.prog [] [.cell 6 50, .tmp 7]))) (.exit 0) (left (writes (cAt (codeOf Try.f27) [1, 1, 1, 1, 1, 0, 1, 0, 0])) [9] [6] (⟨[.a (.g a0 29), .a (.i .u64 (a1)), .a (.i .i64 (a2)), .a (.w 0), .a (.u), .a (.u), .a (.w 1), .a (.i .i64 (0 : Int)), .a (.w 6), .a (.i .i64 (0 : Int)), .a (.b ((okS a0))), .a (.b ((!((okS a0))))), .a (.u), .a (.i .u64 (a1)), .a (.i .u64 (gridI (num a0 0) (num a0 1) 36)), .a (.i .u64 (IntKind.u64.wrap (BitVec.ofInt IntKind.u64.bits a1 &&& ~~~(BitVec.ofInt IntKind.u64.bits (gridI (num a0 0) (num a0 1) 36))).toNat)), .a (.b (((IntKind.u64.wrap (BitVec.ofInt IntKind.u64.bits a1 &&& ~~~(BitVec.ofInt IntKind.u64.bits (gridI (num a0 0) (num a0 1) 36))).toNat) != (0 : Int)))), .a (.b (false)), .a (.i .i64 (a2)), .a (.b ((spec_l00In_v0 a2 (0 : Int) (1 : Int)))), .a (.b ((!((spec_l00In_v0 a2 (0 : Int) (1 : Int)))))), .a (.b ((!((spec_l00In_v0 a2 (0 : Int) (1 : Int)))))), .a (.u), .a (.i .u64 (a1)), .a (.b ((a1 == (0 : Int)))), .a (.u), .a (.i .i64 (a2)), .a (.i .i8 (IntKind.i8.wrap a2)), .a (.g ((zc Try.prog 50).setIfInBounds 0 (.int .i8 (IntKind.i8.wrap a2))) 50), .a (.u), .a (.u), .a (.u), .a (.u), .a (.u), .a (.u), .a (.u), .a (.u), .a (.u), .a (.u), .a (.u), .a (.u), .a (.u), .a (.u), .a (.u), .a (.u), .a (.u), .a (.u)], [.row a0 29, .row (zc Try.prog 50) 50, .no, .no, .no, .no, .row ((zc Try.prog 50).setIfInBounds 0 (.int .i8 (IntKind.i8.wrap a2))) 50, .no], [6]⟩ : St) ([.a (.i .i64 (z0_9))], [.row q0_6 50])) = (some (.t [.g q0_6 50, .i .i64 (0 : Int)], .none, true)) := by kernel_rfl
  refine h.trans ?_
  rfl

theorem spec_SpreadOver_n0 (N : Nat) (a0 : Array Value) (a1 : Int) (a2 : Int) : bindX (iterO (stepV Try.prog (mkΓ [(53, con spec_l01Cells_con), (61, con spec_l01Ok_con), (75, con spec_l01Tide_con)]) N (cAt (codeOf Try.f27) [1, 1, 1, 1, 1, 0, 1, 0, 0]) (pAt (mkPlan (codeOf Try.f27) [([9], [6])]).1 [1, 1, 1, 1, 1, 0, 1, 0]) [9] [6] (⟨[.a (.g a0 29), .a (.i .u64 (a1)), .a (.i .i64 (a2)), .a (.w 0), .a (.u), .a (.u), .a (.w 1), .a (.i .i64 (0 : Int)), .a (.w 6), .a (.i .i64 (0 : Int)), .a (.b ((okS a0))), .a (.b ((!((okS a0))))), .a (.u), .a (.i .u64 (a1)), .a (.i .u64 (gridI (num a0 0) (num a0 1) 36)), .a (.i .u64 (IntKind.u64.wrap (BitVec.ofInt IntKind.u64.bits a1 &&& ~~~(BitVec.ofInt IntKind.u64.bits (gridI (num a0 0) (num a0 1) 36))).toNat)), .a (.b (((IntKind.u64.wrap (BitVec.ofInt IntKind.u64.bits a1 &&& ~~~(BitVec.ofInt IntKind.u64.bits (gridI (num a0 0) (num a0 1) 36))).toNat) != (0 : Int)))), .a (.b (false)), .a (.i .i64 (a2)), .a (.b ((spec_l00In_v0 a2 (0 : Int) (1 : Int)))), .a (.b ((!((spec_l00In_v0 a2 (0 : Int) (1 : Int)))))), .a (.b ((!((spec_l00In_v0 a2 (0 : Int) (1 : Int)))))), .a (.u), .a (.i .u64 (a1)), .a (.b ((a1 == (0 : Int)))), .a (.u), .a (.i .i64 (a2)), .a (.i .i8 (IntKind.i8.wrap a2)), .a (.g ((zc Try.prog 50).setIfInBounds 0 (.int .i8 (IntKind.i8.wrap a2))) 50), .a (.u), .a (.u), .a (.u), .a (.u), .a (.u), .a (.u), .a (.u), .a (.u), .a (.u), .a (.u), .a (.u), .a (.u), .a (.u), .a (.u), .a (.u), .a (.u), .a (.u), .a (.u)], [.row a0 29, .row (zc Try.prog 50) 50, .no, .no, .no, .no, .row ((zc Try.prog 50).setIfInBounds 0 (.int .i8 (IntKind.i8.wrap a2))) 50, .no], [6]⟩ : St)) N ([.a (.i .i64 (0 : Int))], [.row ((zc Try.prog 50).setIfInBounds 0 (.int .i8 (IntKind.i8.wrap a2))) 50])) (fun e s => (kBlock 0 (kSeq (veC Try.prog (mkΓ [(53, con spec_l01Cells_con), (61, con spec_l01Ok_con), (75, con spec_l01Tide_con)]) N (cAt (codeOf Try.f27) [1, 1, 1, 1, 1, 1]) (pAt (mkPlan (codeOf Try.f27) [([9], [6])]).1 [1, 1, 1, 1, 1, 1]) (SV × Eff × Bool)) (finK Try.prog [] [.cell 6 50, .tmp 7]))) e (left (writes (cAt (codeOf Try.f27) [1, 1, 1, 1, 1, 0, 1, 0, 0])) [9] [6] (⟨[.a (.g a0 29), .a (.i .u64 (a1)), .a (.i .i64 (a2)), .a (.w 0), .a (.u), .a (.u), .a (.w 1), .a (.i .i64 (0 : Int)), .a (.w 6), .a (.i .i64 (0 : Int)), .a (.b ((okS a0))), .a (.b ((!((okS a0))))), .a (.u), .a (.i .u64 (a1)), .a (.i .u64 (gridI (num a0 0) (num a0 1) 36)), .a (.i .u64 (IntKind.u64.wrap (BitVec.ofInt IntKind.u64.bits a1 &&& ~~~(BitVec.ofInt IntKind.u64.bits (gridI (num a0 0) (num a0 1) 36))).toNat)), .a (.b (((IntKind.u64.wrap (BitVec.ofInt IntKind.u64.bits a1 &&& ~~~(BitVec.ofInt IntKind.u64.bits (gridI (num a0 0) (num a0 1) 36))).toNat) != (0 : Int)))), .a (.b (false)), .a (.i .i64 (a2)), .a (.b ((spec_l00In_v0 a2 (0 : Int) (1 : Int)))), .a (.b ((!((spec_l00In_v0 a2 (0 : Int) (1 : Int)))))), .a (.b ((!((spec_l00In_v0 a2 (0 : Int) (1 : Int)))))), .a (.u), .a (.i .u64 (a1)), .a (.b ((a1 == (0 : Int)))), .a (.u), .a (.i .i64 (a2)), .a (.i .i8 (IntKind.i8.wrap a2)), .a (.g ((zc Try.prog 50).setIfInBounds 0 (.int .i8 (IntKind.i8.wrap a2))) 50), .a (.u), .a (.u), .a (.u), .a (.u), .a (.u), .a (.u), .a (.u), .a (.u), .a (.u), .a (.u), .a (.u), .a (.u), .a (.u), .a (.u), .a (.u), .a (.u), .a (.u), .a (.u)], [.row a0 29, .row (zc Try.prog 50) 50, .no, .no, .no, .no, .row ((zc Try.prog 50).setIfInBounds 0 (.int .i8 (IntKind.i8.wrap a2))) 50, .no], [6]⟩ : St) s)) = nodeX (iterO (spec_SpreadOver_g0 Try.prog a0 a1 a2) N ((0 : Int), ((zc Try.prog 50).setIfInBounds 0 (.int .i8 (IntKind.i8.wrap a2))))) (fun x => spec_SpreadOver_k0_0 Try.prog N a0 a1 a2 x.1 x.2) := by
  refine loop_node spec_SpreadOver_e0 spec_SpreadOver_x0 _ _ (spec_SpreadOver_s0 N a0 a1 a2) N ((0 : Int), ((zc Try.prog 50).setIfInBounds 0 (.int .i8 (IntKind.i8.wrap a2)))) _ _ ?_
  intro x; exact spec_SpreadOver_k0_0_eq N a0 a1 a2 x.1 x.2

theorem spec_SpreadOver_ans (N : Nat) (a0 : Array Value) (a1 : Int) (a2 : Int) : ansV Try.prog (mkΓ [(53, con spec_l01Cells_con), (61, con spec_l01Ok_con), (75, con spec_l01Tide_con)]) N Try.f27 [([9], [6])] [.g a0 29, .i .u64 (a1), .i .i64 (a2)] [] = (bif (!((okS a0))) then (some (.t [.g (zc Try.prog 50) 50, .i .i64 (1 : Int)], .none, true))
    else (bif ((IntKind.u64.wrap (BitVec.ofInt IntKind.u64.bits a1 &&& ~~~(BitVec.ofInt IntKind.u64.bits (gridI (num a0 0) (num a0 1) 36))).toNat) != (0 : Int)) then (some (.t [.g (zc Try.prog 50) 50, .i .i64 (2 : Int)], .none, true))
      else (bif (!((spec_l00In_v0 a2 (0 : Int) (1 : Int)))) then (some (.t [.g (zc Try.prog 50) 50, .i .i64 (2 : Int)], .none, true))
        else (bif (a1 == (0 : Int)) then (some (.t [.g (zc Try.prog 50) 50, .i .i64 (4 : Int)], .none, true))
          else (nodeX (iterO (spec_SpreadOver_g0 Try.prog a0 a1 a2) N ((0 : Int), ((zc Try.prog 50).setIfInBounds 0 (.int .i8 (IntKind.i8.wrap a2))))) (fun x => spec_SpreadOver_k0_0 Try.prog N a0 a1 a2 x.1 x.2)))))) := by
  have h : ansV Try.prog (mkΓ [(53, con spec_l01Cells_con), (61, con spec_l01Ok_con), (75, con spec_l01Tide_con)]) N Try.f27 [([9], [6])] [.g a0 29, .i .u64 (a1), .i .i64 (a2)] [] = (bif (!((okS a0))) then (some (.t [.g (zc Try.prog 50) 50, .i .i64 (1 : Int)], .none, true))
    else (bif ((IntKind.u64.wrap (BitVec.ofInt IntKind.u64.bits a1 &&& ~~~(BitVec.ofInt IntKind.u64.bits (gridI (num a0 0) (num a0 1) 36))).toNat) != (0 : Int)) then (some (.t [.g (zc Try.prog 50) 50, .i .i64 (2 : Int)], .none, true))
      else (bif (!((spec_l00In_v0 a2 (0 : Int) (1 : Int)))) then (some (.t [.g (zc Try.prog 50) 50, .i .i64 (2 : Int)], .none, true))
        else (bif (a1 == (0 : Int)) then (some (.t [.g (zc Try.prog 50) 50, .i .i64 (4 : Int)], .none, true))
          else (bindX (iterO (stepV Try.prog (mkΓ [(53, con spec_l01Cells_con), (61, con spec_l01Ok_con), (75, con spec_l01Tide_con)]) N (cAt (codeOf Try.f27) [1, 1, 1, 1, 1, 0, 1, 0, 0]) (pAt (mkPlan (codeOf Try.f27) [([9], [6])]).1 [1, 1, 1, 1, 1, 0, 1, 0]) [9] [6] (⟨[.a (.g a0 29), .a (.i .u64 (a1)), .a (.i .i64 (a2)), .a (.w 0), .a (.u), .a (.u), .a (.w 1), .a (.i .i64 (0 : Int)), .a (.w 6), .a (.i .i64 (0 : Int)), .a (.b ((okS a0))), .a (.b ((!((okS a0))))), .a (.u), .a (.i .u64 (a1)), .a (.i .u64 (gridI (num a0 0) (num a0 1) 36)), .a (.i .u64 (IntKind.u64.wrap (BitVec.ofInt IntKind.u64.bits a1 &&& ~~~(BitVec.ofInt IntKind.u64.bits (gridI (num a0 0) (num a0 1) 36))).toNat)), .a (.b (((IntKind.u64.wrap (BitVec.ofInt IntKind.u64.bits a1 &&& ~~~(BitVec.ofInt IntKind.u64.bits (gridI (num a0 0) (num a0 1) 36))).toNat) != (0 : Int)))), .a (.b (false)), .a (.i .i64 (a2)), .a (.b ((spec_l00In_v0 a2 (0 : Int) (1 : Int)))), .a (.b ((!((spec_l00In_v0 a2 (0 : Int) (1 : Int)))))), .a (.b ((!((spec_l00In_v0 a2 (0 : Int) (1 : Int)))))), .a (.u), .a (.i .u64 (a1)), .a (.b ((a1 == (0 : Int)))), .a (.u), .a (.i .i64 (a2)), .a (.i .i8 (IntKind.i8.wrap a2)), .a (.g ((zc Try.prog 50).setIfInBounds 0 (.int .i8 (IntKind.i8.wrap a2))) 50), .a (.u), .a (.u), .a (.u), .a (.u), .a (.u), .a (.u), .a (.u), .a (.u), .a (.u), .a (.u), .a (.u), .a (.u), .a (.u), .a (.u), .a (.u), .a (.u), .a (.u), .a (.u)], [.row a0 29, .row (zc Try.prog 50) 50, .no, .no, .no, .no, .row ((zc Try.prog 50).setIfInBounds 0 (.int .i8 (IntKind.i8.wrap a2))) 50, .no], [6]⟩ : St)) N ([.a (.i .i64 (0 : Int))], [.row ((zc Try.prog 50).setIfInBounds 0 (.int .i8 (IntKind.i8.wrap a2))) 50])) (fun e s => (kBlock 0 (kSeq (veC Try.prog (mkΓ [(53, con spec_l01Cells_con), (61, con spec_l01Ok_con), (75, con spec_l01Tide_con)]) N (cAt (codeOf Try.f27) [1, 1, 1, 1, 1, 1]) (pAt (mkPlan (codeOf Try.f27) [([9], [6])]).1 [1, 1, 1, 1, 1, 1]) (SV × Eff × Bool)) (finK Try.prog [] [.cell 6 50, .tmp 7]))) e (left (writes (cAt (codeOf Try.f27) [1, 1, 1, 1, 1, 0, 1, 0, 0])) [9] [6] (⟨[.a (.g a0 29), .a (.i .u64 (a1)), .a (.i .i64 (a2)), .a (.w 0), .a (.u), .a (.u), .a (.w 1), .a (.i .i64 (0 : Int)), .a (.w 6), .a (.i .i64 (0 : Int)), .a (.b ((okS a0))), .a (.b ((!((okS a0))))), .a (.u), .a (.i .u64 (a1)), .a (.i .u64 (gridI (num a0 0) (num a0 1) 36)), .a (.i .u64 (IntKind.u64.wrap (BitVec.ofInt IntKind.u64.bits a1 &&& ~~~(BitVec.ofInt IntKind.u64.bits (gridI (num a0 0) (num a0 1) 36))).toNat)), .a (.b (((IntKind.u64.wrap (BitVec.ofInt IntKind.u64.bits a1 &&& ~~~(BitVec.ofInt IntKind.u64.bits (gridI (num a0 0) (num a0 1) 36))).toNat) != (0 : Int)))), .a (.b (false)), .a (.i .i64 (a2)), .a (.b ((spec_l00In_v0 a2 (0 : Int) (1 : Int)))), .a (.b ((!((spec_l00In_v0 a2 (0 : Int) (1 : Int)))))), .a (.b ((!((spec_l00In_v0 a2 (0 : Int) (1 : Int)))))), .a (.u), .a (.i .u64 (a1)), .a (.b ((a1 == (0 : Int)))), .a (.u), .a (.i .i64 (a2)), .a (.i .i8 (IntKind.i8.wrap a2)), .a (.g ((zc Try.prog 50).setIfInBounds 0 (.int .i8 (IntKind.i8.wrap a2))) 50), .a (.u), .a (.u), .a (.u), .a (.u), .a (.u), .a (.u), .a (.u), .a (.u), .a (.u), .a (.u), .a (.u), .a (.u), .a (.u), .a (.u), .a (.u), .a (.u), .a (.u), .a (.u)], [.row a0 29, .row (zc Try.prog 50) 50, .no, .no, .no, .no, .row ((zc Try.prog 50).setIfInBounds 0 (.int .i8 (IntKind.i8.wrap a2))) 50, .no], [6]⟩ : St) s))))))) := by kernel_rfl
  refine h.trans ?_
  simp only [spec_SpreadOver_n0]

noncomputable def impl_SpreadOver_e0 : Array Value → BS
  | r0_7 => ([.row r0_7 50] : BS)

noncomputable def impl_SpreadOver_x0 : Empty → Exit × BS := fun x => nomatch x

noncomputable def impl_SpreadOver_g0 (P : Program) (a0 : Array Value) (a1 : Int) (a2 : Int) (x0 : Int) : Array Value → Option (Stp (Array Value) Empty)
  | r0_7 => bif decide (0 ≤ x0) then (bif ((IntKind.u64.wrap (BitVec.ofInt IntKind.u64.bits a1 &&& BitVec.ofInt IntKind.u64.bits (impl_bitOf_v0 x0)).toNat) != (0 : Int)) then (bif (decide (0 ≤ x0) && decide (x0 < 36)) then (some (.more ((r0_7.setIfInBounds (3 + ((x0).toNat * 1)) (.int .i64 (1 : Int))).setIfInBounds 2 (.int .i64 (IntKind.i64.wrap ((num (r0_7.setIfInBounds (3 + ((x0).toNat * 1)) (.int .i64 (1 : Int))) 2) + (1 : Int)))))))
        else (none))
      else (some (.more r0_7)))
    else (none)

theorem impl_SpreadOver_s0 (N : Nat) (a0 : Array Value) (a1 : Int) (a2 : Int) (x0 : Int) : ∀ t : Array Value, stepI Try.prog (mkΓx [(65, con impl_seaCode_con), (73, con impl_bitOf_con), (76, con impl_hasTide_con), (79, con impl_hasCells_con)] [(69, impl_eachCell_nc)] [(105, impl_eachCell_1_ic)]) N (cAt (codeOf Try.f28) [1, 1, 1, 1, 1, 0, 1, 0, 0]) (pAt (mkPlan (codeOf Try.f28) [([], [7])]).1 [1, 1, 1, 1, 1, 0, 1, 0]) 17 [7] [35] [(10, 35)] (⟨[.a (.g a0 29), .a (.i .u64 (a1)), .a (.i .i64 (a2)), .a (.w 0), .a (.w 1), .a (.u), .a (.w 2), .a (.i .i64 (0 : Int)), .a (.i .i64 (bif okS a0 then 0 else 1)), .a (.w 7), .a (.u), .a (.g a0 29), .a (.i .i64 (bif okS a0 then 0 else 1)), .a (.i .i64 (bif okS a0 then 0 else 1)), .a (.b (((bif okS a0 then 0 else 1) != (0 : Int)))), .a (.u), .a (.u), .a (.g a0 29), .a (.i .u64 (a1)), .a (.b ((impl_hasCells_v0 a0 a1))), .a (.b ((!((impl_hasCells_v0 a0 a1))))), .a (.b (false)), .a (.i .i64 (a2)), .a (.b ((impl_hasTide_v0 a2))), .a (.b ((!((impl_hasTide_v0 a2))))), .a (.b ((!((impl_hasTide_v0 a2))))), .a (.u), .a (.i .u64 (a1)), .a (.b ((a1 == (0 : Int)))), .a (.u), .a (.i .i64 (a2)), .a (.i .i8 (IntKind.i8.wrap a2)), .a (.g ((zc Try.prog 50).setIfInBounds 0 (.int .i8 (IntKind.i8.wrap a2))) 50), .a (.g a0 29), .a (.c 105 [12, 14]), .a (.u), .a (.u), .a (.u), .a (.u), .a (.u), .a (.u), .a (.u), .a (.u), .a (.u), .a (.u), .a (.u), .a (.u), .a (.u), .a (.u)], [.row a0 29, .row #[.int .u64 (a1)] 22, .row (zc Try.prog 50) 50, .no, .no, .no, .no, .row ((zc Try.prog 50).setIfInBounds 0 (.int .i8 (IntKind.i8.wrap a2))) 50, .no, .no, .no, .no, .row #[.int .i64 (num a0 1)] 2, .no, .row #[.int .i64 (num a0 0)] 2, .no, .no], [7]⟩ : St) [.i .i64 (x0)] (impl_SpreadOver_e0 t) = mapS impl_SpreadOver_e0 impl_SpreadOver_x0 (impl_SpreadOver_g0 Try.prog a0 a1 a2 x0 t) := by
  rintro r0_7
  have h : stepI Try.prog (mkΓx [(65, con impl_seaCode_con), (73, con impl_bitOf_con), (76, con impl_hasTide_con), (79, con impl_hasCells_con)] [(69, impl_eachCell_nc)] [(105, impl_eachCell_1_ic)]) N (cAt (codeOf Try.f28) [1, 1, 1, 1, 1, 0, 1, 0, 0]) (pAt (mkPlan (codeOf Try.f28) [([], [7])]).1 [1, 1, 1, 1, 1, 0, 1, 0]) 17 [7] [35] [(10, 35)] (⟨[.a (.g a0 29), .a (.i .u64 (a1)), .a (.i .i64 (a2)), .a (.w 0), .a (.w 1), .a (.u), .a (.w 2), .a (.i .i64 (0 : Int)), .a (.i .i64 (bif okS a0 then 0 else 1)), .a (.w 7), .a (.u), .a (.g a0 29), .a (.i .i64 (bif okS a0 then 0 else 1)), .a (.i .i64 (bif okS a0 then 0 else 1)), .a (.b (((bif okS a0 then 0 else 1) != (0 : Int)))), .a (.u), .a (.u), .a (.g a0 29), .a (.i .u64 (a1)), .a (.b ((impl_hasCells_v0 a0 a1))), .a (.b ((!((impl_hasCells_v0 a0 a1))))), .a (.b (false)), .a (.i .i64 (a2)), .a (.b ((impl_hasTide_v0 a2))), .a (.b ((!((impl_hasTide_v0 a2))))), .a (.b ((!((impl_hasTide_v0 a2))))), .a (.u), .a (.i .u64 (a1)), .a (.b ((a1 == (0 : Int)))), .a (.u), .a (.i .i64 (a2)), .a (.i .i8 (IntKind.i8.wrap a2)), .a (.g ((zc Try.prog 50).setIfInBounds 0 (.int .i8 (IntKind.i8.wrap a2))) 50), .a (.g a0 29), .a (.c 105 [12, 14]), .a (.u), .a (.u), .a (.u), .a (.u), .a (.u), .a (.u), .a (.u), .a (.u), .a (.u), .a (.u), .a (.u), .a (.u), .a (.u), .a (.u)], [.row a0 29, .row #[.int .u64 (a1)] 22, .row (zc Try.prog 50) 50, .no, .no, .no, .no, .row ((zc Try.prog 50).setIfInBounds 0 (.int .i8 (IntKind.i8.wrap a2))) 50, .no, .no, .no, .no, .row #[.int .i64 (num a0 1)] 2, .no, .row #[.int .i64 (num a0 0)] 2, .no, .no], [7]⟩ : St) [.i .i64 (x0)] ([.row r0_7 50] : BS) = (bif decide (0 ≤ x0) then (bif ((IntKind.u64.wrap (BitVec.ofInt IntKind.u64.bits a1 &&& BitVec.ofInt IntKind.u64.bits (impl_bitOf_v0 x0)).toNat) != (0 : Int)) then (bif (decide (0 ≤ x0) && decide (x0 < 36)) then (some (.more ([.row ((r0_7.setIfInBounds (3 + ((x0).toNat * 1)) (.int .i64 (1 : Int))).setIfInBounds 2 (.int .i64 (IntKind.i64.wrap ((num (r0_7.setIfInBounds (3 + ((x0).toNat * 1)) (.int .i64 (1 : Int))) 2) + (1 : Int))))) 50] : BS)))
        else (none))
      else (some (.more ([.row r0_7 50] : BS))))
    else (none)) := by kernel_rfl
  refine h.trans ?_
  simp only [impl_SpreadOver_g0, mapS_cond, mapS_more, mapS_done, mapS_none, impl_SpreadOver_e0, impl_SpreadOver_x0]

noncomputable def impl_SpreadOver_k0_n (P : Program) (N : Nat) (a0 : Array Value) (a1 : Int) (a2 : Int) (q0_7 : Array Value) : Option (SV × Eff × Bool) := some (.t [.g q0_7 50, .i .i64 (0 : Int)], .none, true)

theorem impl_SpreadOver_k0_n_eq (N : Nat) (a0 : Array Value) (a1 : Int) (a2 : Int) (q0_7 : Array Value) : (kBlock 0 (kSeq (veC Try.prog (mkΓx [(65, con impl_seaCode_con), (73, con impl_bitOf_con), (76, con impl_hasTide_con), (79, con impl_hasCells_con)] [(69, impl_eachCell_nc)] [(105, impl_eachCell_1_ic)]) N (cAt (codeOf Try.f28) [1, 1, 1, 1, 1, 1]) (pAt (mkPlan (codeOf Try.f28) [([], [7])]).1 [1, 1, 1, 1, 1, 1]) (SV × Eff × Bool)) (finK Try.prog [] [.cell 6 50, .tmp 7]))) .normal (leftI [7] (⟨[.a (.g a0 29), .a (.i .u64 (a1)), .a (.i .i64 (a2)), .a (.w 0), .a (.w 1), .a (.u), .a (.w 2), .a (.i .i64 (0 : Int)), .a (.i .i64 (bif okS a0 then 0 else 1)), .a (.w 7), .a (.u), .a (.g a0 29), .a (.i .i64 (bif okS a0 then 0 else 1)), .a (.i .i64 (bif okS a0 then 0 else 1)), .a (.b (((bif okS a0 then 0 else 1) != (0 : Int)))), .a (.u), .a (.u), .a (.g a0 29), .a (.i .u64 (a1)), .a (.b ((impl_hasCells_v0 a0 a1))), .a (.b ((!((impl_hasCells_v0 a0 a1))))), .a (.b (false)), .a (.i .i64 (a2)), .a (.b ((impl_hasTide_v0 a2))), .a (.b ((!((impl_hasTide_v0 a2))))), .a (.b ((!((impl_hasTide_v0 a2))))), .a (.u), .a (.i .u64 (a1)), .a (.b ((a1 == (0 : Int)))), .a (.u), .a (.i .i64 (a2)), .a (.i .i8 (IntKind.i8.wrap a2)), .a (.g ((zc Try.prog 50).setIfInBounds 0 (.int .i8 (IntKind.i8.wrap a2))) 50), .a (.g a0 29), .a (.c 105 [12, 14]), .a (.u), .a (.u), .a (.u), .a (.u), .a (.u), .a (.u), .a (.u), .a (.u), .a (.u), .a (.u), .a (.u), .a (.u), .a (.u), .a (.u)], [.row a0 29, .row #[.int .u64 (a1)] 22, .row (zc Try.prog 50) 50, .no, .no, .no, .no, .row ((zc Try.prog 50).setIfInBounds 0 (.int .i8 (IntKind.i8.wrap a2))) 50, .no, .no, .no, .no, .row #[.int .i64 (num a0 1)] 2, .no, .row #[.int .i64 (num a0 0)] 2, .no, .no], [7]⟩ : St) ([.row q0_7 50] : BS)) = impl_SpreadOver_k0_n Try.prog N a0 a1 a2 q0_7 := by
  have h : (kBlock 0 (kSeq (veC Try.prog (mkΓx [(65, con impl_seaCode_con), (73, con impl_bitOf_con), (76, con impl_hasTide_con), (79, con impl_hasCells_con)] [(69, impl_eachCell_nc)] [(105, impl_eachCell_1_ic)]) N (cAt (codeOf Try.f28) [1, 1, 1, 1, 1, 1]) (pAt (mkPlan (codeOf Try.f28) [([], [7])]).1 [1, 1, 1, 1, 1, 1]) (SV × Eff × Bool)) (finK Try.prog [] [.cell 6 50, .tmp 7]))) .normal (leftI [7] (⟨[.a (.g a0 29), .a (.i .u64 (a1)), .a (.i .i64 (a2)), .a (.w 0), .a (.w 1), .a (.u), .a (.w 2), .a (.i .i64 (0 : Int)), .a (.i .i64 (bif okS a0 then 0 else 1)), .a (.w 7), .a (.u), .a (.g a0 29), .a (.i .i64 (bif okS a0 then 0 else 1)), .a (.i .i64 (bif okS a0 then 0 else 1)), .a (.b (((bif okS a0 then 0 else 1) != (0 : Int)))), .a (.u), .a (.u), .a (.g a0 29), .a (.i .u64 (a1)), .a (.b ((impl_hasCells_v0 a0 a1))), .a (.b ((!((impl_hasCells_v0 a0 a1))))), .a (.b (false)), .a (.i .i64 (a2)), .a (.b ((impl_hasTide_v0 a2))), .a (.b ((!((impl_hasTide_v0 a2))))), .a (.b ((!((impl_hasTide_v0 a2))))), .a (.u), .a (.i .u64 (a1)), .a (.b ((a1 == (0 : Int)))), .a (.u), .a (.i .i64 (a2)), .a (.i .i8 (IntKind.i8.wrap a2)), .a (.g ((zc Try.prog 50).setIfInBounds 0 (.int .i8 (IntKind.i8.wrap a2))) 50), .a (.g a0 29), .a (.c 105 [12, 14]), .a (.u), .a (.u), .a (.u), .a (.u), .a (.u), .a (.u), .a (.u), .a (.u), .a (.u), .a (.u), .a (.u), .a (.u), .a (.u), .a (.u)], [.row a0 29, .row #[.int .u64 (a1)] 22, .row (zc Try.prog 50) 50, .no, .no, .no, .no, .row ((zc Try.prog 50).setIfInBounds 0 (.int .i8 (IntKind.i8.wrap a2))) 50, .no, .no, .no, .no, .row #[.int .i64 (num a0 1)] 2, .no, .row #[.int .i64 (num a0 0)] 2, .no, .no], [7]⟩ : St) ([.row q0_7 50] : BS)) = (some (.t [.g q0_7 50, .i .i64 (0 : Int)], .none, true)) := by kernel_rfl
  refine h.trans ?_
  rfl

theorem impl_SpreadOver_n0 (N : Nat) (a0 : Array Value) (a1 : Int) (a2 : Int) : bindI (foldI (fun (x0 : Int) (hb : BS) => stepI Try.prog (mkΓx [(65, con impl_seaCode_con), (73, con impl_bitOf_con), (76, con impl_hasTide_con), (79, con impl_hasCells_con)] [(69, impl_eachCell_nc)] [(105, impl_eachCell_1_ic)]) N (cAt (codeOf Try.f28) [1, 1, 1, 1, 1, 0, 1, 0, 0]) (pAt (mkPlan (codeOf Try.f28) [([], [7])]).1 [1, 1, 1, 1, 1, 0, 1, 0]) 17 [7] [35] [(10, 35)] (⟨[.a (.g a0 29), .a (.i .u64 (a1)), .a (.i .i64 (a2)), .a (.w 0), .a (.w 1), .a (.u), .a (.w 2), .a (.i .i64 (0 : Int)), .a (.i .i64 (bif okS a0 then 0 else 1)), .a (.w 7), .a (.u), .a (.g a0 29), .a (.i .i64 (bif okS a0 then 0 else 1)), .a (.i .i64 (bif okS a0 then 0 else 1)), .a (.b (((bif okS a0 then 0 else 1) != (0 : Int)))), .a (.u), .a (.u), .a (.g a0 29), .a (.i .u64 (a1)), .a (.b ((impl_hasCells_v0 a0 a1))), .a (.b ((!((impl_hasCells_v0 a0 a1))))), .a (.b (false)), .a (.i .i64 (a2)), .a (.b ((impl_hasTide_v0 a2))), .a (.b ((!((impl_hasTide_v0 a2))))), .a (.b ((!((impl_hasTide_v0 a2))))), .a (.u), .a (.i .u64 (a1)), .a (.b ((a1 == (0 : Int)))), .a (.u), .a (.i .i64 (a2)), .a (.i .i8 (IntKind.i8.wrap a2)), .a (.g ((zc Try.prog 50).setIfInBounds 0 (.int .i8 (IntKind.i8.wrap a2))) 50), .a (.g a0 29), .a (.c 105 [12, 14]), .a (.u), .a (.u), .a (.u), .a (.u), .a (.u), .a (.u), .a (.u), .a (.u), .a (.u), .a (.u), .a (.u), .a (.u), .a (.u), .a (.u)], [.row a0 29, .row #[.int .u64 (a1)] 22, .row (zc Try.prog 50) 50, .no, .no, .no, .no, .row ((zc Try.prog 50).setIfInBounds 0 (.int .i8 (IntKind.i8.wrap a2))) 50, .no, .no, .no, .no, .row #[.int .i64 (num a0 1)] 2, .no, .row #[.int .i64 (num a0 0)] 2, .no, .no], [7]⟩ : St) [.i .i64 (x0)] hb) (cellsL (num a0 0) (num a0 1) 36) ([.row ((zc Try.prog 50).setIfInBounds 0 (.int .i8 (IntKind.i8.wrap a2))) 50] : BS)) (fun hb => (kBlock 0 (kSeq (veC Try.prog (mkΓx [(65, con impl_seaCode_con), (73, con impl_bitOf_con), (76, con impl_hasTide_con), (79, con impl_hasCells_con)] [(69, impl_eachCell_nc)] [(105, impl_eachCell_1_ic)]) N (cAt (codeOf Try.f28) [1, 1, 1, 1, 1, 1]) (pAt (mkPlan (codeOf Try.f28) [([], [7])]).1 [1, 1, 1, 1, 1, 1]) (SV × Eff × Bool)) (finK Try.prog [] [.cell 6 50, .tmp 7]))) .normal (leftI [7] (⟨[.a (.g a0 29), .a (.i .u64 (a1)), .a (.i .i64 (a2)), .a (.w 0), .a (.w 1), .a (.u), .a (.w 2), .a (.i .i64 (0 : Int)), .a (.i .i64 (bif okS a0 then 0 else 1)), .a (.w 7), .a (.u), .a (.g a0 29), .a (.i .i64 (bif okS a0 then 0 else 1)), .a (.i .i64 (bif okS a0 then 0 else 1)), .a (.b (((bif okS a0 then 0 else 1) != (0 : Int)))), .a (.u), .a (.u), .a (.g a0 29), .a (.i .u64 (a1)), .a (.b ((impl_hasCells_v0 a0 a1))), .a (.b ((!((impl_hasCells_v0 a0 a1))))), .a (.b (false)), .a (.i .i64 (a2)), .a (.b ((impl_hasTide_v0 a2))), .a (.b ((!((impl_hasTide_v0 a2))))), .a (.b ((!((impl_hasTide_v0 a2))))), .a (.u), .a (.i .u64 (a1)), .a (.b ((a1 == (0 : Int)))), .a (.u), .a (.i .i64 (a2)), .a (.i .i8 (IntKind.i8.wrap a2)), .a (.g ((zc Try.prog 50).setIfInBounds 0 (.int .i8 (IntKind.i8.wrap a2))) 50), .a (.g a0 29), .a (.c 105 [12, 14]), .a (.u), .a (.u), .a (.u), .a (.u), .a (.u), .a (.u), .a (.u), .a (.u), .a (.u), .a (.u), .a (.u), .a (.u), .a (.u), .a (.u)], [.row a0 29, .row #[.int .u64 (a1)] 22, .row (zc Try.prog 50) 50, .no, .no, .no, .no, .row ((zc Try.prog 50).setIfInBounds 0 (.int .i8 (IntKind.i8.wrap a2))) 50, .no, .no, .no, .no, .row #[.int .i64 (num a0 1)] 2, .no, .row #[.int .i64 (num a0 0)] 2, .no, .no], [7]⟩ : St) hb)) (fun e hb => (kBlock 0 (kSeq (veC Try.prog (mkΓx [(65, con impl_seaCode_con), (73, con impl_bitOf_con), (76, con impl_hasTide_con), (79, con impl_hasCells_con)] [(69, impl_eachCell_nc)] [(105, impl_eachCell_1_ic)]) N (cAt (codeOf Try.f28) [1, 1, 1, 1, 1, 1]) (pAt (mkPlan (codeOf Try.f28) [([], [7])]).1 [1, 1, 1, 1, 1, 1]) (SV × Eff × Bool)) (finK Try.prog [] [.cell 6 50, .tmp 7]))) e (leftI [7] (⟨[.a (.g a0 29), .a (.i .u64 (a1)), .a (.i .i64 (a2)), .a (.w 0), .a (.w 1), .a (.u), .a (.w 2), .a (.i .i64 (0 : Int)), .a (.i .i64 (bif okS a0 then 0 else 1)), .a (.w 7), .a (.u), .a (.g a0 29), .a (.i .i64 (bif okS a0 then 0 else 1)), .a (.i .i64 (bif okS a0 then 0 else 1)), .a (.b (((bif okS a0 then 0 else 1) != (0 : Int)))), .a (.u), .a (.u), .a (.g a0 29), .a (.i .u64 (a1)), .a (.b ((impl_hasCells_v0 a0 a1))), .a (.b ((!((impl_hasCells_v0 a0 a1))))), .a (.b (false)), .a (.i .i64 (a2)), .a (.b ((impl_hasTide_v0 a2))), .a (.b ((!((impl_hasTide_v0 a2))))), .a (.b ((!((impl_hasTide_v0 a2))))), .a (.u), .a (.i .u64 (a1)), .a (.b ((a1 == (0 : Int)))), .a (.u), .a (.i .i64 (a2)), .a (.i .i8 (IntKind.i8.wrap a2)), .a (.g ((zc Try.prog 50).setIfInBounds 0 (.int .i8 (IntKind.i8.wrap a2))) 50), .a (.g a0 29), .a (.c 105 [12, 14]), .a (.u), .a (.u), .a (.u), .a (.u), .a (.u), .a (.u), .a (.u), .a (.u), .a (.u), .a (.u), .a (.u), .a (.u), .a (.u), .a (.u)], [.row a0 29, .row #[.int .u64 (a1)] 22, .row (zc Try.prog 50) 50, .no, .no, .no, .no, .row ((zc Try.prog 50).setIfInBounds 0 (.int .i8 (IntKind.i8.wrap a2))) 50, .no, .no, .no, .no, .row #[.int .i64 (num a0 1)] 2, .no, .row #[.int .i64 (num a0 0)] 2, .no, .no], [7]⟩ : St) hb)) = nodeI (foldI (impl_SpreadOver_g0 Try.prog a0 a1 a2) (cellsL (num a0 0) (num a0 1) 36) ((zc Try.prog 50).setIfInBounds 0 (.int .i8 (IntKind.i8.wrap a2)))) (fun x => impl_SpreadOver_k0_n Try.prog N a0 a1 a2 x) (fun x : Empty => nomatch x) := by
  refine iter_node impl_SpreadOver_e0 impl_SpreadOver_x0 _ _ (fun y t => impl_SpreadOver_s0 N a0 a1 a2 y t) _ ((zc Try.prog 50).setIfInBounds 0 (.int .i8 (IntKind.i8.wrap a2))) _ _ _ _ ?_ ?_
  · intro x; exact impl_SpreadOver_k0_n_eq N a0 a1 a2 x
  · intro x; exact nomatch x

theorem impl_SpreadOver_ans (N : Nat) (a0 : Array Value) (a1 : Int) (a2 : Int) : ansV Try.prog (mkΓx [(65, con impl_seaCode_con), (73, con impl_bitOf_con), (76, con impl_hasTide_con), (79, con impl_hasCells_con)] [(69, impl_eachCell_nc)] [(105, impl_eachCell_1_ic)]) N Try.f28 [([], [7])] [.g a0 29, .i .u64 (a1), .i .i64 (a2)] [] = (bif ((bif okS a0 then 0 else 1) != (0 : Int)) then (some (.t [.g (zc Try.prog 50) 50, .i .i64 (bif okS a0 then 0 else 1)], .none, true))
    else (bif (impl_hasCells_gd a0 a1) then (bif (!((impl_hasCells_v0 a0 a1))) then (some (.t [.g (zc Try.prog 50) 50, .i .i64 (2 : Int)], .none, true))
        else (bif (!((impl_hasTide_v0 a2))) then (some (.t [.g (zc Try.prog 50) 50, .i .i64 (2 : Int)], .none, true))
          else (bif (a1 == (0 : Int)) then (some (.t [.g (zc Try.prog 50) 50, .i .i64 (4 : Int)], .none, true))
            else (bif (decide (0 ≤ (num a0 0)) && decide ((num a0 0) ≤ 6) && (decide (0 ≤ (num a0 1)) && decide ((num a0 1) ≤ 6))) then (nodeI (foldI (impl_SpreadOver_g0 Try.prog a0 a1 a2) (cellsL (num a0 0) (num a0 1) 36) ((zc Try.prog 50).setIfInBounds 0 (.int .i8 (IntKind.i8.wrap a2)))) (fun x => impl_SpreadOver_k0_n Try.prog N a0 a1 a2 x) (fun x : Empty => nomatch x))
              else (none)))))
      else (none))) := by
  have h : ansV Try.prog (mkΓx [(65, con impl_seaCode_con), (73, con impl_bitOf_con), (76, con impl_hasTide_con), (79, con impl_hasCells_con)] [(69, impl_eachCell_nc)] [(105, impl_eachCell_1_ic)]) N Try.f28 [([], [7])] [.g a0 29, .i .u64 (a1), .i .i64 (a2)] [] = (bif ((bif okS a0 then 0 else 1) != (0 : Int)) then (some (.t [.g (zc Try.prog 50) 50, .i .i64 (bif okS a0 then 0 else 1)], .none, true))
    else (bif (impl_hasCells_gd a0 a1) then (bif (!((impl_hasCells_v0 a0 a1))) then (some (.t [.g (zc Try.prog 50) 50, .i .i64 (2 : Int)], .none, true))
        else (bif (!((impl_hasTide_v0 a2))) then (some (.t [.g (zc Try.prog 50) 50, .i .i64 (2 : Int)], .none, true))
          else (bif (a1 == (0 : Int)) then (some (.t [.g (zc Try.prog 50) 50, .i .i64 (4 : Int)], .none, true))
            else (bif (decide (0 ≤ (num a0 0)) && decide ((num a0 0) ≤ 6) && (decide (0 ≤ (num a0 1)) && decide ((num a0 1) ≤ 6))) then (bindI (foldI (fun (x0 : Int) (hb : BS) => stepI Try.prog (mkΓx [(65, con impl_seaCode_con), (73, con impl_bitOf_con), (76, con impl_hasTide_con), (79, con impl_hasCells_con)] [(69, impl_eachCell_nc)] [(105, impl_eachCell_1_ic)]) N (cAt (codeOf Try.f28) [1, 1, 1, 1, 1, 0, 1, 0, 0]) (pAt (mkPlan (codeOf Try.f28) [([], [7])]).1 [1, 1, 1, 1, 1, 0, 1, 0]) 17 [7] [35] [(10, 35)] (⟨[.a (.g a0 29), .a (.i .u64 (a1)), .a (.i .i64 (a2)), .a (.w 0), .a (.w 1), .a (.u), .a (.w 2), .a (.i .i64 (0 : Int)), .a (.i .i64 (bif okS a0 then 0 else 1)), .a (.w 7), .a (.u), .a (.g a0 29), .a (.i .i64 (bif okS a0 then 0 else 1)), .a (.i .i64 (bif okS a0 then 0 else 1)), .a (.b (((bif okS a0 then 0 else 1) != (0 : Int)))), .a (.u), .a (.u), .a (.g a0 29), .a (.i .u64 (a1)), .a (.b ((impl_hasCells_v0 a0 a1))), .a (.b ((!((impl_hasCells_v0 a0 a1))))), .a (.b (false)), .a (.i .i64 (a2)), .a (.b ((impl_hasTide_v0 a2))), .a (.b ((!((impl_hasTide_v0 a2))))), .a (.b ((!((impl_hasTide_v0 a2))))), .a (.u), .a (.i .u64 (a1)), .a (.b ((a1 == (0 : Int)))), .a (.u), .a (.i .i64 (a2)), .a (.i .i8 (IntKind.i8.wrap a2)), .a (.g ((zc Try.prog 50).setIfInBounds 0 (.int .i8 (IntKind.i8.wrap a2))) 50), .a (.g a0 29), .a (.c 105 [12, 14]), .a (.u), .a (.u), .a (.u), .a (.u), .a (.u), .a (.u), .a (.u), .a (.u), .a (.u), .a (.u), .a (.u), .a (.u), .a (.u), .a (.u)], [.row a0 29, .row #[.int .u64 (a1)] 22, .row (zc Try.prog 50) 50, .no, .no, .no, .no, .row ((zc Try.prog 50).setIfInBounds 0 (.int .i8 (IntKind.i8.wrap a2))) 50, .no, .no, .no, .no, .row #[.int .i64 (num a0 1)] 2, .no, .row #[.int .i64 (num a0 0)] 2, .no, .no], [7]⟩ : St) [.i .i64 (x0)] hb) (cellsL (num a0 0) (num a0 1) 36) ([.row ((zc Try.prog 50).setIfInBounds 0 (.int .i8 (IntKind.i8.wrap a2))) 50] : BS)) (fun hb => (kBlock 0 (kSeq (veC Try.prog (mkΓx [(65, con impl_seaCode_con), (73, con impl_bitOf_con), (76, con impl_hasTide_con), (79, con impl_hasCells_con)] [(69, impl_eachCell_nc)] [(105, impl_eachCell_1_ic)]) N (cAt (codeOf Try.f28) [1, 1, 1, 1, 1, 1]) (pAt (mkPlan (codeOf Try.f28) [([], [7])]).1 [1, 1, 1, 1, 1, 1]) (SV × Eff × Bool)) (finK Try.prog [] [.cell 6 50, .tmp 7]))) .normal (leftI [7] (⟨[.a (.g a0 29), .a (.i .u64 (a1)), .a (.i .i64 (a2)), .a (.w 0), .a (.w 1), .a (.u), .a (.w 2), .a (.i .i64 (0 : Int)), .a (.i .i64 (bif okS a0 then 0 else 1)), .a (.w 7), .a (.u), .a (.g a0 29), .a (.i .i64 (bif okS a0 then 0 else 1)), .a (.i .i64 (bif okS a0 then 0 else 1)), .a (.b (((bif okS a0 then 0 else 1) != (0 : Int)))), .a (.u), .a (.u), .a (.g a0 29), .a (.i .u64 (a1)), .a (.b ((impl_hasCells_v0 a0 a1))), .a (.b ((!((impl_hasCells_v0 a0 a1))))), .a (.b (false)), .a (.i .i64 (a2)), .a (.b ((impl_hasTide_v0 a2))), .a (.b ((!((impl_hasTide_v0 a2))))), .a (.b ((!((impl_hasTide_v0 a2))))), .a (.u), .a (.i .u64 (a1)), .a (.b ((a1 == (0 : Int)))), .a (.u), .a (.i .i64 (a2)), .a (.i .i8 (IntKind.i8.wrap a2)), .a (.g ((zc Try.prog 50).setIfInBounds 0 (.int .i8 (IntKind.i8.wrap a2))) 50), .a (.g a0 29), .a (.c 105 [12, 14]), .a (.u), .a (.u), .a (.u), .a (.u), .a (.u), .a (.u), .a (.u), .a (.u), .a (.u), .a (.u), .a (.u), .a (.u), .a (.u), .a (.u)], [.row a0 29, .row #[.int .u64 (a1)] 22, .row (zc Try.prog 50) 50, .no, .no, .no, .no, .row ((zc Try.prog 50).setIfInBounds 0 (.int .i8 (IntKind.i8.wrap a2))) 50, .no, .no, .no, .no, .row #[.int .i64 (num a0 1)] 2, .no, .row #[.int .i64 (num a0 0)] 2, .no, .no], [7]⟩ : St) hb)) (fun e hb => (kBlock 0 (kSeq (veC Try.prog (mkΓx [(65, con impl_seaCode_con), (73, con impl_bitOf_con), (76, con impl_hasTide_con), (79, con impl_hasCells_con)] [(69, impl_eachCell_nc)] [(105, impl_eachCell_1_ic)]) N (cAt (codeOf Try.f28) [1, 1, 1, 1, 1, 1]) (pAt (mkPlan (codeOf Try.f28) [([], [7])]).1 [1, 1, 1, 1, 1, 1]) (SV × Eff × Bool)) (finK Try.prog [] [.cell 6 50, .tmp 7]))) e (leftI [7] (⟨[.a (.g a0 29), .a (.i .u64 (a1)), .a (.i .i64 (a2)), .a (.w 0), .a (.w 1), .a (.u), .a (.w 2), .a (.i .i64 (0 : Int)), .a (.i .i64 (bif okS a0 then 0 else 1)), .a (.w 7), .a (.u), .a (.g a0 29), .a (.i .i64 (bif okS a0 then 0 else 1)), .a (.i .i64 (bif okS a0 then 0 else 1)), .a (.b (((bif okS a0 then 0 else 1) != (0 : Int)))), .a (.u), .a (.u), .a (.g a0 29), .a (.i .u64 (a1)), .a (.b ((impl_hasCells_v0 a0 a1))), .a (.b ((!((impl_hasCells_v0 a0 a1))))), .a (.b (false)), .a (.i .i64 (a2)), .a (.b ((impl_hasTide_v0 a2))), .a (.b ((!((impl_hasTide_v0 a2))))), .a (.b ((!((impl_hasTide_v0 a2))))), .a (.u), .a (.i .u64 (a1)), .a (.b ((a1 == (0 : Int)))), .a (.u), .a (.i .i64 (a2)), .a (.i .i8 (IntKind.i8.wrap a2)), .a (.g ((zc Try.prog 50).setIfInBounds 0 (.int .i8 (IntKind.i8.wrap a2))) 50), .a (.g a0 29), .a (.c 105 [12, 14]), .a (.u), .a (.u), .a (.u), .a (.u), .a (.u), .a (.u), .a (.u), .a (.u), .a (.u), .a (.u), .a (.u), .a (.u), .a (.u), .a (.u)], [.row a0 29, .row #[.int .u64 (a1)] 22, .row (zc Try.prog 50) 50, .no, .no, .no, .no, .row ((zc Try.prog 50).setIfInBounds 0 (.int .i8 (IntKind.i8.wrap a2))) 50, .no, .no, .no, .no, .row #[.int .i64 (num a0 1)] 2, .no, .row #[.int .i64 (num a0 0)] 2, .no, .no], [7]⟩ : St) hb)))
              else (none)))))
      else (none))) := by kernel_rfl
  refine h.trans ?_
  simp only [impl_SpreadOver_n0]

theorem spec_SpreadOver_main (a0 : Array Value) (a1 : Int) (a2 : Int) (h_a0 : WT Try.prog 29 a0) (h_a1 : IntKind.u64.min ≤ a1 ∧ a1 ≤ IntKind.u64.max) (h_a2 : IntKind.i64.min ≤ a2 ∧ a2 ≤ IntKind.i64.max) (hg : (true) = true) : ansV Try.prog (mkΓ [(53, con spec_l01Cells_con), (61, con spec_l01Ok_con), (75, con spec_l01Tide_con)]) 1000 Try.f27 [([9], [6])] [.g a0 29, .i .u64 (a1), .i .i64 (a2)] [] = some (.t [.g (overR Try.prog a0 a1 a2) 50, .i .i64 (overCode a0 a1 a2)], .none, true) := by
  refine (spec_SpreadOver_ans 1000 a0 a1 a2).trans ?_
  unfold overR overCode
  have hu : U64 a1 := ⟨h_a1.1, h_a1.2⟩
  cases hok : okS a0
  · rfl
  have hne : ((IntKind.u64.wrap (BitVec.ofInt IntKind.u64.bits a1 &&& ~~~(BitVec.ofInt IntKind.u64.bits (gridI (num a0 0) (num a0 1) 36))).toNat) != (0 : Int)) = !(andNotI a1 (gridI (num a0 0) (num a0 1) 36) == 0) := rfl
  rw [hne]
  cases hc : (andNotI a1 (gridI (num a0 0) (num a0 1) 36) == 0)
  · rfl
  cases hti : spec_l00In_v0 a2 0 1
  · rfl
  cases hz : (a1 == 0)
  · have h := iter_folds (g := spec_SpreadOver_g0 Try.prog a0 a1 a2) (fun s k => ((k : Int), s)) (fun r k => if bitI a1 k then putOne r k else r) (m := 36) (t := ((zc Try.prog 50).setIfInBounds 0 (.int .i8 (IntKind.i8.wrap a2)))) (x := ((36 : Int), overV Try.prog a1 a2)) (N := 1000) (fun k s hk _ => by
      have h1 : decide ((k : Int) < 36) = true := decide_eq_true (by omega)
      have h0 : decide (0 ≤ (k : Int)) = true := decide_eq_true (by omega)
      have h3 : IntKind.i64.wrap ((k : Int) + 1) = ((k + 1 : Nat) : Int) := by rw [IntWalk.i64_in _ (by omega)]; omega
      simp only [spec_SpreadOver_g0, h1, cond_true, u64w hk, h0, h3, Int.toNat_natCast, bit_shr hu (show k < 64 by omega), Bool.and_self]
      cases bitI a1 k <;> rfl) (by
      have h1 : decide (((36 : Nat) : Int) < 36) = false := by decide
      simp only [spec_SpreadOver_g0, h1, cond_false]
      rfl) (by omega)
    have h' : iterO (spec_SpreadOver_g0 Try.prog a0 a1 a2) 1000 ((0 : Int), ((zc Try.prog 50).setIfInBounds 0 (.int .i8 (IntKind.i8.wrap a2)))) = some ((36 : Int), overV Try.prog a1 a2) := h
    simp only [Bool.not_true, cond_false, cond_true, h']
    rfl
  · rfl
noncomputable def spec_SpreadOver_con : Con := fun args h => match args, h with
  | [.g a0 29, .i .u64 a1, .i .i64 a2], [] => some (.t [.g (overR Try.prog a0 a1 a2) 50, .i .i64 (overCode a0 a1 a2)], .none, true)
  | _, _ => none
theorem spec_SpreadOver_enter : ∀ args w, (callFunc 27 args).run Try.prog w = .ok (.enter 27 args) w := enter_ok (fn := Try.f27) (by kernel_rfl) (by kernel_rfl) (by kernel_rfl)
theorem spec_SpreadOver_ok : ConOk Try.prog 27 spec_SpreadOver_con := (ans_ok (N := 1000) (by kernel_rfl) (mkΓ_cons (con_ok spec_l01Cells_ok) spec_l01Cells_enter (mkΓ_cons (con_ok spec_l01Ok_ok) spec_l01Ok_enter (mkΓ_cons (con_ok spec_l01Tide_ok) spec_l01Tide_enter mkΓ_nil))) (fn := Try.f27) (by kernel_rfl) (by kernel_rfl) [([9], [6])]).of (by
  intro ρ h w args vals r e hA hH hr
  unfold spec_SpreadOver_con at hr
  split at hr
  · rename_i a0 a1 a2
    obtain ⟨rfl, hg⟩ := Prod.mk.inj (Option.some.inj hr)
    obtain ⟨rfl, hg2⟩ := Prod.mk.inj hg
    exact spec_SpreadOver_main a0 a1 a2 (hA.wt 0 rfl) (hA.rng 1 rfl) (hA.rng 2 rfl) hg2
  · cases hr)

theorem impl_SpreadOver_main (a0 : Array Value) (a1 : Int) (a2 : Int) (h_a0 : WT Try.prog 29 a0) (h_a1 : IntKind.u64.min ≤ a1 ∧ a1 ≤ IntKind.u64.max) (h_a2 : IntKind.i64.min ≤ a2 ∧ a2 ≤ IntKind.i64.max) (hg : (true) = true) : ansV Try.prog (mkΓx [(65, con impl_seaCode_con), (73, con impl_bitOf_con), (76, con impl_hasTide_con), (79, con impl_hasCells_con)] [(69, impl_eachCell_nc)] [(105, impl_eachCell_1_ic)]) 1000 Try.f28 [([], [7])] [.g a0 29, .i .u64 (a1), .i .i64 (a2)] [] = some (.t [.g (overR Try.prog a0 a1 a2) 50, .i .i64 (overCode a0 a1 a2)], .none, true) := by
  refine (impl_SpreadOver_ans 1000 a0 a1 a2).trans ?_
  unfold overR overCode
  have hu : U64 a1 := ⟨h_a1.1, h_a1.2⟩
  cases hok : okS a0
  · rfl
  have hd := okS_iter hok
  have hg2 : impl_hasCells_gd a0 a1 = true := hd
  have hne : impl_hasCells_v0 a0 a1 = (andNotI a1 (gridI (num a0 0) (num a0 1) 36) == 0) := rfl
  rw [hg2, hne, tide_eq]
  cases hc : (andNotI a1 (gridI (num a0 0) (num a0 1) 36) == 0)
  · rfl
  cases hti : spec_l00In_v0 a2 0 1
  · rfl
  cases hz : (a1 == 0)
  · have hsub := andNot_zero.1 hc
    have h := foldI_grid (X := Empty) (g := impl_SpreadOver_g0 Try.prog a0 a1 a2) (fun r k => if bitI a1 k then putOne r k else r) (wd := num a0 0) (hi := num a0 1) (fun s k hk _ => by
      have h1 : decide ((k : Int) < 36) = true := decide_eq_true (by omega)
      have h0 : decide (0 ≤ (k : Int)) = true := decide_eq_true (by omega)
      have hb : ((IntKind.u64.wrap (BitVec.ofInt IntKind.u64.bits a1 &&& BitVec.ofInt IntKind.u64.bits (oneI k)).toNat) != (0 : Int)) = bitI a1 k := bit_test (by omega)
      simp only [impl_SpreadOver_g0, h1, h0, cond_true, bitOf_one, hb, Int.toNat_natCast, Bool.and_self]
      cases bitI a1 k <;> rfl) ((zc Try.prog 50).setIfInBounds 0 (.int .i8 (IntKind.i8.wrap a2)))
    have hsw := folds_congr (f := fun r k => if inC (num a0 0) (num a0 1) k then (if bitI a1 k then putOne r k else r) else r) (g := fun r k => if bitI a1 k then putOne r k else r) (fun _ _ => True) (t := ((zc Try.prog 50).setIfInBounds 0 (.int .i8 (IntKind.i8.wrap a2)))) (n := 36) trivial (fun k s hk _ => by
      refine ⟨?_, trivial⟩
      cases hi : inC (num a0 0) (num a0 1) k
      · cases hb : bitI a1 k
        · rfl
        · have := hsub k (by omega) hb
          rw [bit_grid _ _ 36 (Nat.le_refl _), hi, Bool.and_false] at this
          cases this
      · rfl) 36 (Nat.le_refl _)
    rw [hsw.1] at h
    simp only [hd, Bool.not_true, cond_false, cond_true, h]
    rfl
  · rfl
noncomputable def impl_SpreadOver_con : Con := fun args h => match args, h with
  | [.g a0 29, .i .u64 a1, .i .i64 a2], [] => some (.t [.g (overR Try.prog a0 a1 a2) 50, .i .i64 (overCode a0 a1 a2)], .none, true)
  | _, _ => none
theorem impl_SpreadOver_enter : ∀ args w, (callFunc 28 args).run Try.prog w = .ok (.enter 28 args) w := enter_ok (fn := Try.f28) (by kernel_rfl) (by kernel_rfl) (by kernel_rfl)
theorem impl_SpreadOver_ok : ConOk Try.prog 28 impl_SpreadOver_con := (ans_ok (N := 1000) (by kernel_rfl) (mkΓx_c (con_ok impl_seaCode_ok) impl_seaCode_enter (mkΓx_c (con_ok impl_bitOf_ok) impl_bitOf_enter (mkΓx_c (con_ok impl_hasTide_ok) impl_hasTide_enter (mkΓx_c (con_ok impl_hasCells_ok) impl_hasCells_enter (mkΓx_n impl_eachCell_nok impl_eachCell_enter (mkΓx_i impl_eachCell_1_iok impl_eachCell_1_enter mkΓx_nil)))))) (fn := Try.f28) (by kernel_rfl) (by kernel_rfl) [([], [7])]).of (by
  intro ρ h w args vals r e hA hH hr
  unfold impl_SpreadOver_con at hr
  split at hr
  · rename_i a0 a1 a2
    obtain ⟨rfl, hg⟩ := Prod.mk.inj (Option.some.inj hr)
    obtain ⟨rfl, hg2⟩ := Prod.mk.inj hg
    exact impl_SpreadOver_main a0 a1 a2 (hA.wt 0 rfl) (hA.rng 1 rfl) (hA.rng 2 rfl) hg2
  · cases hr)

theorem laws_FnExactSpreadOver_ans (N : Nat) (a0 : Array Value) (a1 : Int) (a2 : Int) : ansV Try.prog (mkΓ [(19, con laws_toSea_con), (27, con spec_SpreadOver_con), (28, con impl_SpreadOver_con), (29, con laws_eqSpread_con)]) N Try.f8 [] [.g a0 37, .i .u64 (a1), .i .i64 (a2)] [] = (bif (!(sameB (overR Try.prog a0 a1 a2) (overR Try.prog a0 a1 a2))) then (some (.a (.b (false)), .none, true))
    else (bif ((overCode a0 a1 a2) != (overCode a0 a1 a2)) then (some (.a (.b (false)), .none, true))
      else (some (.a (.b (true)), .none, true)))) := by kernel_rfl

noncomputable def laws_FnExactSpreadOver_v0 (P : Program) (a0 : Array Value) (a1 : Int) (a2 : Int) : Bool := (bif (!(sameB (overR P a0 a1 a2) (overR P a0 a1 a2))) then false else (bif ((overCode a0 a1 a2) != (overCode a0 a1 a2)) then false else true))

theorem laws_FnExactSpreadOver_main (a0 : Array Value) (a1 : Int) (a2 : Int) (h_a0 : WT Try.prog 37 a0) (h_a1 : IntKind.u64.min ≤ a1 ∧ a1 ≤ IntKind.u64.max) (h_a2 : IntKind.i64.min ≤ a2 ∧ a2 ≤ IntKind.i64.max) (hg : (true) = true) : ansV Try.prog (mkΓ [(19, con laws_toSea_con), (27, con spec_SpreadOver_con), (28, con impl_SpreadOver_con), (29, con laws_eqSpread_con)]) 1000 Try.f8 [] [.g a0 37, .i .u64 (a1), .i .i64 (a2)] [] = some (.a (.b ((laws_FnExactSpreadOver_v0 Try.prog a0 a1 a2))), .none, true) := by
  refine (laws_FnExactSpreadOver_ans 1000 a0 a1 a2).trans ?_
  unfold laws_FnExactSpreadOver_v0
  revert hg
  generalize ((!(sameB (overR Try.prog a0 a1 a2) (overR Try.prog a0 a1 a2)))) = b2
  intro hg
  cases b2
  · skip
    revert hg
    generalize (((overCode a0 a1 a2) != (overCode a0 a1 a2))) = b4
    intro hg
    cases b4
    · skip
      first | (simp only [cond_true, cond_false, Bool.and_true, Bool.true_and, Bool.and_false, Bool.false_and]; done) | rfl | exact (nomatch (hg : false = true))
    · skip
      first | (simp only [cond_true, cond_false, Bool.and_true, Bool.true_and, Bool.and_false, Bool.false_and]; done) | rfl | exact (nomatch (hg : false = true))
  · skip
    first | (simp only [cond_true, cond_false, Bool.and_true, Bool.true_and, Bool.and_false, Bool.false_and]; done) | rfl | exact (nomatch (hg : false = true))
noncomputable def laws_FnExactSpreadOver_con : Con := fun args h => match args, h with
  | [.g a0 37, .i .u64 a1, .i .i64 a2], [] => some (.a (.b ((laws_FnExactSpreadOver_v0 Try.prog a0 a1 a2))), .none, true)
  | _, _ => none
theorem laws_FnExactSpreadOver_enter : ∀ args w, (callFunc 8 args).run Try.prog w = .ok (.enter 8 args) w := enter_ok (fn := Try.f8) (by kernel_rfl) (by kernel_rfl) (by kernel_rfl)
theorem laws_FnExactSpreadOver_ok : ConOk Try.prog 8 laws_FnExactSpreadOver_con := (ans_ok (N := 1000) (by kernel_rfl) (mkΓ_cons (con_ok laws_toSea_ok) laws_toSea_enter (mkΓ_cons (con_ok spec_SpreadOver_ok) spec_SpreadOver_enter (mkΓ_cons (con_ok impl_SpreadOver_ok) impl_SpreadOver_enter (mkΓ_cons (con_ok laws_eqSpread_ok) laws_eqSpread_enter mkΓ_nil)))) (fn := Try.f8) (by kernel_rfl) (by kernel_rfl) []).of (by
  intro ρ h w args vals r e hA hH hr
  unfold laws_FnExactSpreadOver_con at hr
  split at hr
  · rename_i a0 a1 a2
    obtain ⟨rfl, hg⟩ := Prod.mk.inj (Option.some.inj hr)
    obtain ⟨rfl, hg2⟩ := Prod.mk.inj hg
    exact laws_FnExactSpreadOver_main a0 a1 a2 (hA.wt 0 rfl) (hA.rng 1 rfl) (hA.rng 2 rfl) hg2
  · cases hr)

theorem laws_FnExactSpreadOver_true (a0 : Array Value) (a1 : Int) (a2 : Int) (h_a0 : WT Try.prog 37 a0) (h_a1 : IntKind.u64.min ≤ a1 ∧ a1 ≤ IntKind.u64.max) (h_a2 : IntKind.i64.min ≤ a2 ∧ a2 ≤ IntKind.i64.max) : (true) = true ∧ ((laws_FnExactSpreadOver_v0 Try.prog a0 a1 a2)) = true := by
  refine ⟨rfl, ?_⟩
  unfold laws_FnExactSpreadOver_v0
  simp only [sameB_self, bne_self_eq_false, cond_false, Bool.not_true]

namespace lawFnExactSpreadOver
theorem lifted (os : Os) (started : os.Started) (H : Type) (enc : TypeId × Value → H) :
    ReturnsInHanded {} Try.checked os 8 .any (Rows.fnExactSpreadOverSpec.pre6 enc Try.prog Try.f8 Rows.fnExactSpreadOverRow.domain false) (Rows.fnExactSpreadOverSpec.post enc Try.prog Try.f8 false true false false) := by
  refine law_lifted (C := Try.checked) (tb := 4) (by kernel_rfl) (by kernel_rfl) (by kernel_rfl) Try.func8 (by kernel_rfl) Try.underlying4 (of_decide_eq_true (by kernel_rfl)) rfl ?_ os started H enc
    (ChangeSpec.witness6 (enc := enc) (C := Try.checked) false ⟨#[], #[.agg (zc Try.prog 37), .int .u64 0, .int .i64 0], []⟩ 8 (by kernel_rfl) (by kernel_rfl) (by kernel_rfl) (by kernel_rfl)) ?_
  · intro H ds hds
    rw [show Try.f8.params.toList.length = 3 by kernel_rfl] at hds
    match ds, hds with
    | [_, _, _], _ => rfl
  · intro W base args ds ps hval hA
    rw [Try.params8] at hA hval
    obtain ⟨v0, v1, v2, d0, d1, d2, p0, p1, p2, hargs, rfl, rfl, h0, h1, h2⟩ := trodAll_three hA
    obtain ⟨a0, e0, w0⟩ := open_data (t := 37) 8 (by kernel_rfl) (by kernel_rfl) (hval 0 37 v0 rfl (by rw [hargs]; rfl)) h0
    obtain ⟨a1, e1, _, _, w1⟩ := open_int Try.underlying22 (hval 1 22 v1 rfl (by rw [hargs]; rfl)) h1
    obtain ⟨a2, e2, _, _, w2⟩ := open_int Try.underlying2 (hval 2 2 v2 rfl (by rw [hargs]; rfl)) h2
    obtain rfl : args = #[.agg a0, .int .u64 a1, .int .i64 a2] := by rw [hargs, e0, e1, e2]
    obtain ⟨hg, hv⟩ := laws_FnExactSpreadOver_true a0 a1 a2 w0 (wfb w1) (wfb w2)
    have hr : laws_FnExactSpreadOver_con [.g a0 37, .i .u64 a1, .i .i64 a2] [] = some (.a (.b true), .none, true) := by
      show (some (SV.a (SA.b ((laws_FnExactSpreadOver_v0 Try.prog a0 a1 a2))), Eff.none, true) : Option (SV × Eff × Bool)) = _
      rw [hg, hv]
    exact calls_con laws_FnExactSpreadOver_ok hr W (vals := [.agg a0, .int .u64 a1, .int .i64 a2]) (allCons ⟨rfl, w0⟩ (allCons ⟨rfl, wfb w1⟩ (allCons ⟨rfl, wfb w2⟩ allNil)))

theorem over : Rows.fnExactSpreadOverRow.holds Try.pinned (OpenSpec.ofChange Rows.fnExactSpreadOverSpec) :=
  OpenClaim.holds_of_wide 8 Try.f8 rfl rfl rfl rfl rfl rfl rfl ⟨rfl, rfl, rfl, rfl, rfl⟩ rfl rfl rfl rfl rfl (by kernel_rfl) Try.func8 (by kernel_rfl)
    (of_decide_eq_true (by kernel_rfl)) (by unfold Func.isWrapper; first | (rw [if_pos (by decide +kernel)]; kernel_rfl) | (rw [if_neg (by decide +kernel)]; exact ⟨rfl, rfl⟩))
    (fun os started H enc _ => lifted os started H enc)

theorem proved : Rows.FnExactSpreadOverSaid := over
#print axioms proved
end lawFnExactSpreadOver

end
end Go.Proofs.Ytafmhcdelokmbaa
