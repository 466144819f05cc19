/- Spreads copied; parts, and what makes a spread valid: the two loops, in company. -/
import Derived.Test.YtnbfkpecnhhecaaProg
import Derived.Test.YtnbfkpecnhhecaaCxC
namespace Go.Proofs.Ytnbfkpecnhhecaa
open Go.ChangeShapes Go.WideShapes Go.ChangeAt Go.RowKit Ve Vc
set_option linter.unusedVariables false
set_option linter.unusedSimpArgs false
set_option maxRecDepth 100000
noncomputable section
variable {mn : Md}
noncomputable def laws_toChances_e0 : Int × Array Value → LS
  | (y0_4, r0_2) => ([.a (.i .i64 (y0_4))], [.row r0_2 35])
noncomputable def laws_toChances_x0 : Int × Array Value → Exit × LS
  | t => ((.exit 0), laws_toChances_e0 t)
noncomputable def laws_toChances_g0 (P : Program) (a0 : Array Value) : Int × Array Value → Option (Stp (Int × Array Value) (Int × Array Value))
  | (y0_4, r0_2) => bif decide (y0_4 < (5 : Int)) then (bif (decide (0 ≤ y0_4) && decide (y0_4 < 5)) then (bif (decide (0 ≤ y0_4) && decide (y0_4 < 5)) then (some (.more ((IntKind.i64.wrap (y0_4 + (1 : Int))), (r0_2.setIfInBounds ((y0_4).toNat * 1) (.int .u8 (num a0 ((y0_4).toNat * 1)))))))
        else (none))
      else (none))
    else (some (.done (y0_4, r0_2)))
theorem laws_toChances_s0 (N : Nat) (a0 : Array Value) : ∀ t : Int × Array Value, stepV Try.prog (mkΓ []) N (cAt (codeOf Try.f37) [1, 1, 0, 1, 0, 0]) (pAt (mkPlan (codeOf Try.f37) [([4], [2])]).1 [1, 1, 0, 1, 0]) [4] [2] (⟨.a (.g a0 24) :: .a (.w 0) :: .a (.w 1) :: .a (.w 2) :: .a (.i .i64 (0 : Int)) :: us 10 ([]), [.row a0 24, .row #[.int .u8 (0 : Int), .int .u8 (0 : Int), .int .u8 (0 : Int), .int .u8 (0 : Int), .int .u8 (0 : Int)] 35, .row #[.int .u8 (0 : Int), .int .u8 (0 : Int), .int .u8 (0 : Int), .int .u8 (0 : Int), .int .u8 (0 : Int)] 35], []⟩ : St) (laws_toChances_e0 t) = mapS laws_toChances_e0 laws_toChances_x0 (laws_toChances_g0 Try.prog a0 t) := by
  rintro ⟨y0_4, r0_2⟩
  refine Eq.trans (b := (bif decide (y0_4 < (5 : Int)) then (bif (decide (0 ≤ y0_4) && decide (y0_4 < 5)) then (bif (decide (0 ≤ y0_4) && decide (y0_4 < 5)) then (some (.more ([.a (.i .i64 (IntKind.i64.wrap (y0_4 + (1 : Int))))], [.row (r0_2.setIfInBounds ((y0_4).toNat * 1) (.int .u8 (num a0 ((y0_4).toNat * 1)))) 35])))
        else (none))
      else (none))
    else (some (.done ((.exit 0), ([.a (.i .i64 (y0_4))], [.row r0_2 35])))))) (by kernel_rfl) ?_
  simp only [laws_toChances_g0, mapS_cond, mapS_more, mapS_done, mapS_none, laws_toChances_e0, laws_toChances_x0]
noncomputable def laws_toChances_k0_0 (P : Program) (N : Nat) (a0 : Array Value) (z0_4 : Int) (q0_2 : Array Value) : Option (SV × Eff × Bool) := some (.a (.g q0_2 35), .none, true)
theorem laws_toChances_k0_0_eq (N : Nat) (a0 : Array Value) (z0_4 : Int) (q0_2 : Array Value) : (kBlock 0 (kSeq (veC Try.prog (mkΓ []) N (cAt (codeOf Try.f37) [1, 1, 1]) (pAt (mkPlan (codeOf Try.f37) [([4], [2])]).1 [1, 1, 1]) (SV × Eff × Bool)) (finK Try.prog [] [.cell 2 35]))) (.exit 0) (left (writes (cAt (codeOf Try.f37) [1, 1, 0, 1, 0, 0])) [4] [2] (⟨.a (.g a0 24) :: .a (.w 0) :: .a (.w 1) :: .a (.w 2) :: .a (.i .i64 (0 : Int)) :: us 10 ([]), [.row a0 24, .row #[.int .u8 (0 : Int), .int .u8 (0 : Int), .int .u8 (0 : Int), .int .u8 (0 : Int), .int .u8 (0 : Int)] 35, .row #[.int .u8 (0 : Int), .int .u8 (0 : Int), .int .u8 (0 : Int), .int .u8 (0 : Int), .int .u8 (0 : Int)] 35], []⟩ : St) ([.a (.i .i64 (z0_4))], [.row q0_2 35])) = laws_toChances_k0_0 Try.prog N a0 z0_4 q0_2 := by
  refine Eq.trans (b := (some (.a (.g q0_2 35), .none, true))) (by kernel_rfl) ?_
  rfl
theorem laws_toChances_n0 (N : Nat) (a0 : Array Value) : bindX (iterO (stepV Try.prog (mkΓ []) N (cAt (codeOf Try.f37) [1, 1, 0, 1, 0, 0]) (pAt (mkPlan (codeOf Try.f37) [([4], [2])]).1 [1, 1, 0, 1, 0]) [4] [2] (⟨.a (.g a0 24) :: .a (.w 0) :: .a (.w 1) :: .a (.w 2) :: .a (.i .i64 (0 : Int)) :: us 10 ([]), [.row a0 24, .row #[.int .u8 (0 : Int), .int .u8 (0 : Int), .int .u8 (0 : Int), .int .u8 (0 : Int), .int .u8 (0 : Int)] 35, .row #[.int .u8 (0 : Int), .int .u8 (0 : Int), .int .u8 (0 : Int), .int .u8 (0 : Int), .int .u8 (0 : Int)] 35], []⟩ : St)) N ([.a (.i .i64 (0 : Int))], [.row (#[.int .u8 (0 : Int), .int .u8 (0 : Int), .int .u8 (0 : Int), .int .u8 (0 : Int), .int .u8 (0 : Int)] : Array Value) 35])) (fun e s => (kBlock 0 (kSeq (veC Try.prog (mkΓ []) N (cAt (codeOf Try.f37) [1, 1, 1]) (pAt (mkPlan (codeOf Try.f37) [([4], [2])]).1 [1, 1, 1]) (SV × Eff × Bool)) (finK Try.prog [] [.cell 2 35]))) e (left (writes (cAt (codeOf Try.f37) [1, 1, 0, 1, 0, 0])) [4] [2] (⟨.a (.g a0 24) :: .a (.w 0) :: .a (.w 1) :: .a (.w 2) :: .a (.i .i64 (0 : Int)) :: us 10 ([]), [.row a0 24, .row #[.int .u8 (0 : Int), .int .u8 (0 : Int), .int .u8 (0 : Int), .int .u8 (0 : Int), .int .u8 (0 : Int)] 35, .row #[.int .u8 (0 : Int), .int .u8 (0 : Int), .int .u8 (0 : Int), .int .u8 (0 : Int), .int .u8 (0 : Int)] 35], []⟩ : St) s)) = nodeX (iterO (laws_toChances_g0 Try.prog a0) N ((0 : Int), (#[.int .u8 (0 : Int), .int .u8 (0 : Int), .int .u8 (0 : Int), .int .u8 (0 : Int), .int .u8 (0 : Int)] : Array Value))) (fun x => laws_toChances_k0_0 Try.prog N a0 x.1 x.2) := by
  refine loop_node laws_toChances_e0 laws_toChances_x0 _ _ (laws_toChances_s0 N a0) N ((0 : Int), (#[.int .u8 (0 : Int), .int .u8 (0 : Int), .int .u8 (0 : Int), .int .u8 (0 : Int), .int .u8 (0 : Int)] : Array Value)) _ _ ?_
  intro x; exact laws_toChances_k0_0_eq N a0 x.1 x.2
theorem laws_toChances_ans (N : Nat) (a0 : Array Value) : ansV Try.prog (mkΓ []) N Try.f37 [([4], [2])] [.g a0 24] [] = (nodeX (iterO (laws_toChances_g0 Try.prog a0) N ((0 : Int), (#[.int .u8 (0 : Int), .int .u8 (0 : Int), .int .u8 (0 : Int), .int .u8 (0 : Int), .int .u8 (0 : Int)] : Array Value))) (fun x => laws_toChances_k0_0 Try.prog N a0 x.1 x.2)) := by
  refine Eq.trans (b := (bindX (iterO (stepV Try.prog (mkΓ []) N (cAt (codeOf Try.f37) [1, 1, 0, 1, 0, 0]) (pAt (mkPlan (codeOf Try.f37) [([4], [2])]).1 [1, 1, 0, 1, 0]) [4] [2] (⟨.a (.g a0 24) :: .a (.w 0) :: .a (.w 1) :: .a (.w 2) :: .a (.i .i64 (0 : Int)) :: us 10 ([]), [.row a0 24, .row #[.int .u8 (0 : Int), .int .u8 (0 : Int), .int .u8 (0 : Int), .int .u8 (0 : Int), .int .u8 (0 : Int)] 35, .row #[.int .u8 (0 : Int), .int .u8 (0 : Int), .int .u8 (0 : Int), .int .u8 (0 : Int), .int .u8 (0 : Int)] 35], []⟩ : St)) N ([.a (.i .i64 (0 : Int))], [.row (#[.int .u8 (0 : Int), .int .u8 (0 : Int), .int .u8 (0 : Int), .int .u8 (0 : Int), .int .u8 (0 : Int)] : Array Value) 35])) (fun e s => (kBlock 0 (kSeq (veC Try.prog (mkΓ []) N (cAt (codeOf Try.f37) [1, 1, 1]) (pAt (mkPlan (codeOf Try.f37) [([4], [2])]).1 [1, 1, 1]) (SV × Eff × Bool)) (finK Try.prog [] [.cell 2 35]))) e (left (writes (cAt (codeOf Try.f37) [1, 1, 0, 1, 0, 0])) [4] [2] (⟨.a (.g a0 24) :: .a (.w 0) :: .a (.w 1) :: .a (.w 2) :: .a (.i .i64 (0 : Int)) :: us 10 ([]), [.row a0 24, .row #[.int .u8 (0 : Int), .int .u8 (0 : Int), .int .u8 (0 : Int), .int .u8 (0 : Int), .int .u8 (0 : Int)] 35, .row #[.int .u8 (0 : Int), .int .u8 (0 : Int), .int .u8 (0 : Int), .int .u8 (0 : Int), .int .u8 (0 : Int)] 35], []⟩ : St) s)))) (by kernel_rfl) ?_
  simp only [laws_toChances_n0 N a0]
theorem laws_toChances_main (a0 : Array Value) (h_a0 : WT Try.prog 24 a0) (hg : (true) = true) : ansV Try.prog (mkΓ []) 1000 Try.f37 [([4], [2])] [.g a0 24] [] = some (.a (.g a0 35), .none, true) := by
  have hs : a0.size = (#[.int .u8 (0 : Int), .int .u8 (0 : Int), .int .u8 (0 : Int), .int .u8 (0 : Int), .int .u8 (0 : Int)] : Array Value).size := by rw [h_a0.layLen]; kernel_rfl
  have hz : a0.size = 5 := by rw [h_a0.layLen]; kernel_rfl
  have hL : ∀ k, k < 5 → (lay Try.prog 24)[k * 1]? = some 4 := by
    intro k hk
    have h : (List.range 5).all (fun k => (lay Try.prog 24)[k * 1]? == some 4) = true := by kernel_rfl
    exact eq_of_beq (List.all_eq_true.1 h k (List.mem_range.2 hk))
  have h := iter_all (g := laws_toChances_g0 Try.prog a0) (fun k => ((k : Int), upto a0 (#[.int .u8 (0 : Int), .int .u8 (0 : Int), .int .u8 (0 : Int), .int .u8 (0 : Int), .int .u8 (0 : Int)] : Array Value) (k * 1))) (m := 5) (x := (((5 : Nat) : Int), upto a0 (#[.int .u8 (0 : Int), .int .u8 (0 : Int), .int .u8 (0 : Int), .int .u8 (0 : Int), .int .u8 (0 : Int)] : Array Value) (5 * 1))) (N := 1000) (fun k hk => by
    have h1 : decide ((k : Int) < 5) = true := decide_eq_true (by omega)
    have h0 : decide (0 ≤ (k : Int)) = true := decide_eq_true (by omega)
    have h3 : IntKind.i64.wrap ((k : Int) + 1) = ((k + 1 : Nat) : Int) := by rw [IntWalk.i64_in _ (by omega)]; omega
    have h4 : ((k : Int)).toNat = k := Int.toNat_natCast k
    have h5 : (upto a0 (#[.int .u8 (0 : Int), .int .u8 (0 : Int), .int .u8 (0 : Int), .int .u8 (0 : Int), .int .u8 (0 : Int)] : Array Value) (k * 1)).setIfInBounds (k * 1) (.int .u8 (num a0 (k * 1))) = upto a0 (#[.int .u8 (0 : Int), .int .u8 (0 : Int), .int .u8 (0 : Int), .int .u8 (0 : Int), .int .u8 (0 : Int)] : Array Value) ((k + 1) * 1) := by
      rw [Nat.add_mul]; exact upto_set hs (h_a0.int (k := .u8) (hL k hk)).1
    simp only [laws_toChances_g0, h1, h0, Bool.and_self, h4, cond_true, h3, h5]) (by
    have h1 : decide (((5 : Nat) : Int) < 5) = false := by decide
    simp only [laws_toChances_g0, h1, cond_false]) (by omega)
  simp only [Nat.zero_mul, upto_zero hs, upto_all hs hz] at h
  refine (laws_toChances_ans 1000 a0).trans ?_
  have h' : iterO (laws_toChances_g0 Try.prog a0) 1000 ((0 : Int), (#[.int .u8 (0 : Int), .int .u8 (0 : Int), .int .u8 (0 : Int), .int .u8 (0 : Int), .int .u8 (0 : Int)] : Array Value)) = some (((5 : Nat) : Int), a0) := h
  rw [h']
  rfl
noncomputable def laws_toChances_con : Con := fun args h => match args, h with
  | [.g a0 24], [] => some (.a (.g a0 35), .none, true)
  | _, _ => none
theorem laws_toChances_enter : EntX Try.prog 37 := entX_ok (fn := Try.f37) (by kernel_rfl) (by kernel_rfl) (by kernel_rfl)
theorem laws_toChances_ok : ConOkX mn Try.prog 37 laws_toChances_con := (ansX_ok (N := 1000) (by kernel_rfl) mkΓ_nilX (fn := Try.f37) (by kernel_rfl) (by kernel_rfl) [([4], [2])]).of (by
  intro ρ h w args vals r e hA hH hr
  unfold laws_toChances_con at hr
  split at hr
  · rename_i a0
    obtain ⟨rfl, hg⟩ := Prod.mk.inj (Option.some.inj hr)
    obtain ⟨rfl, hg2⟩ := Prod.mk.inj hg
    exact laws_toChances_main a0 (hA.wt 0 rfl) hg2
  · cases hr)
noncomputable def laws_toChancesA36_e0 : Int × Array Value → LS
  | (y0_4, r0_2) => ([.a (.i .i64 (y0_4))], [.row r0_2 36])
noncomputable def laws_toChancesA36_x0 : Int × Array Value → Exit × LS
  | t => ((.exit 0), laws_toChancesA36_e0 t)
noncomputable def laws_toChancesA36_g0 (P : Program) (a0 : Array Value) : Int × Array Value → Option (Stp (Int × Array Value) (Int × Array Value))
  | (y0_4, r0_2) => bif decide (y0_4 < (36 : Int)) then (bif (decide (0 ≤ y0_4) && decide (y0_4 < 36)) then (bif (decide (0 ≤ y0_4) && decide (y0_4 < 36)) then (some (.more ((IntKind.i64.wrap (y0_4 + (1 : Int))), (spl r0_2 ((y0_4).toNat * 5) (a0.extract ((y0_4).toNat * 5) (((y0_4).toNat * 5) + 5)).toList))))
        else (none))
      else (none))
    else (some (.done (y0_4, r0_2)))
theorem laws_toChancesA36_s0 (N : Nat) (a0 : Array Value) : ∀ t : Int × Array Value, stepV Try.prog (mkΓ [(37, con laws_toChances_con)]) N (cAt (codeOf Try.f26) [1, 1, 0, 1, 0, 0]) (pAt (mkPlan (codeOf Try.f26) [([4], [2])]).1 [1, 1, 0, 1, 0]) [4] [2] (⟨.a (.g a0 25) :: .a (.w 0) :: .a (.w 1) :: .a (.w 2) :: .a (.i .i64 (0 : Int)) :: us 11 ([]), [.row a0 25, .row (zc Try.prog 36) 36, .row (zc Try.prog 36) 36], []⟩ : St) (laws_toChancesA36_e0 t) = mapS laws_toChancesA36_e0 laws_toChancesA36_x0 (laws_toChancesA36_g0 Try.prog a0 t) := by
  rintro ⟨y0_4, r0_2⟩
  refine Eq.trans (b := (bif decide (y0_4 < (36 : Int)) then (bif (decide (0 ≤ y0_4) && decide (y0_4 < 36)) then (bif (decide (0 ≤ y0_4) && decide (y0_4 < 36)) then (some (.more ([.a (.i .i64 (IntKind.i64.wrap (y0_4 + (1 : Int))))], [.row (spl r0_2 ((y0_4).toNat * 5) (a0.extract ((y0_4).toNat * 5) (((y0_4).toNat * 5) + 5)).toList) 36])))
        else (none))
      else (none))
    else (some (.done ((.exit 0), ([.a (.i .i64 (y0_4))], [.row r0_2 36])))))) (by kernel_rfl) ?_
  simp only [laws_toChancesA36_g0, mapS_cond, mapS_more, mapS_done, mapS_none, laws_toChancesA36_e0, laws_toChancesA36_x0]
noncomputable def laws_toChancesA36_k0_0 (P : Program) (N : Nat) (a0 : Array Value) (z0_4 : Int) (q0_2 : Array Value) : Option (SV × Eff × Bool) := some (.a (.g q0_2 36), .none, true)
theorem laws_toChancesA36_k0_0_eq (N : Nat) (a0 : Array Value) (z0_4 : Int) (q0_2 : Array Value) : (kBlock 0 (kSeq (veC Try.prog (mkΓ [(37, con laws_toChances_con)]) N (cAt (codeOf Try.f26) [1, 1, 1]) (pAt (mkPlan (codeOf Try.f26) [([4], [2])]).1 [1, 1, 1]) (SV × Eff × Bool)) (finK Try.prog [] [.cell 2 36]))) (.exit 0) (left (writes (cAt (codeOf Try.f26) [1, 1, 0, 1, 0, 0])) [4] [2] (⟨.a (.g a0 25) :: .a (.w 0) :: .a (.w 1) :: .a (.w 2) :: .a (.i .i64 (0 : Int)) :: us 11 ([]), [.row a0 25, .row (zc Try.prog 36) 36, .row (zc Try.prog 36) 36], []⟩ : St) ([.a (.i .i64 (z0_4))], [.row q0_2 36])) = laws_toChancesA36_k0_0 Try.prog N a0 z0_4 q0_2 := by
  refine Eq.trans (b := (some (.a (.g q0_2 36), .none, true))) (by kernel_rfl) ?_
  rfl
theorem laws_toChancesA36_n0 (N : Nat) (a0 : Array Value) : bindX (iterO (stepV Try.prog (mkΓ [(37, con laws_toChances_con)]) N (cAt (codeOf Try.f26) [1, 1, 0, 1, 0, 0]) (pAt (mkPlan (codeOf Try.f26) [([4], [2])]).1 [1, 1, 0, 1, 0]) [4] [2] (⟨.a (.g a0 25) :: .a (.w 0) :: .a (.w 1) :: .a (.w 2) :: .a (.i .i64 (0 : Int)) :: us 11 ([]), [.row a0 25, .row (zc Try.prog 36) 36, .row (zc Try.prog 36) 36], []⟩ : St)) N ([.a (.i .i64 (0 : Int))], [.row (zc Try.prog 36) 36])) (fun e s => (kBlock 0 (kSeq (veC Try.prog (mkΓ [(37, con laws_toChances_con)]) N (cAt (codeOf Try.f26) [1, 1, 1]) (pAt (mkPlan (codeOf Try.f26) [([4], [2])]).1 [1, 1, 1]) (SV × Eff × Bool)) (finK Try.prog [] [.cell 2 36]))) e (left (writes (cAt (codeOf Try.f26) [1, 1, 0, 1, 0, 0])) [4] [2] (⟨.a (.g a0 25) :: .a (.w 0) :: .a (.w 1) :: .a (.w 2) :: .a (.i .i64 (0 : Int)) :: us 11 ([]), [.row a0 25, .row (zc Try.prog 36) 36, .row (zc Try.prog 36) 36], []⟩ : St) s)) = nodeX (iterO (laws_toChancesA36_g0 Try.prog a0) N ((0 : Int), (zc Try.prog 36))) (fun x => laws_toChancesA36_k0_0 Try.prog N a0 x.1 x.2) := by
  refine loop_node laws_toChancesA36_e0 laws_toChancesA36_x0 _ _ (laws_toChancesA36_s0 N a0) N ((0 : Int), (zc Try.prog 36)) _ _ ?_
  intro x; exact laws_toChancesA36_k0_0_eq N a0 x.1 x.2
theorem laws_toChancesA36_ans (N : Nat) (a0 : Array Value) : ansV Try.prog (mkΓ [(37, con laws_toChances_con)]) N Try.f26 [([4], [2])] [.g a0 25] [] = (nodeX (iterO (laws_toChancesA36_g0 Try.prog a0) N ((0 : Int), (zc Try.prog 36))) (fun x => laws_toChancesA36_k0_0 Try.prog N a0 x.1 x.2)) := by
  refine Eq.trans (b := (bindX (iterO (stepV Try.prog (mkΓ [(37, con laws_toChances_con)]) N (cAt (codeOf Try.f26) [1, 1, 0, 1, 0, 0]) (pAt (mkPlan (codeOf Try.f26) [([4], [2])]).1 [1, 1, 0, 1, 0]) [4] [2] (⟨.a (.g a0 25) :: .a (.w 0) :: .a (.w 1) :: .a (.w 2) :: .a (.i .i64 (0 : Int)) :: us 11 ([]), [.row a0 25, .row (zc Try.prog 36) 36, .row (zc Try.prog 36) 36], []⟩ : St)) N ([.a (.i .i64 (0 : Int))], [.row (zc Try.prog 36) 36])) (fun e s => (kBlock 0 (kSeq (veC Try.prog (mkΓ [(37, con laws_toChances_con)]) N (cAt (codeOf Try.f26) [1, 1, 1]) (pAt (mkPlan (codeOf Try.f26) [([4], [2])]).1 [1, 1, 1]) (SV × Eff × Bool)) (finK Try.prog [] [.cell 2 36]))) e (left (writes (cAt (codeOf Try.f26) [1, 1, 0, 1, 0, 0])) [4] [2] (⟨.a (.g a0 25) :: .a (.w 0) :: .a (.w 1) :: .a (.w 2) :: .a (.i .i64 (0 : Int)) :: us 11 ([]), [.row a0 25, .row (zc Try.prog 36) 36, .row (zc Try.prog 36) 36], []⟩ : St) s)))) (by kernel_rfl) ?_
  simp only [laws_toChancesA36_n0 N a0]
theorem laws_toChancesA36_main (a0 : Array Value) (h_a0 : WT Try.prog 25 a0) (hg : (true) = true) : ansV Try.prog (mkΓ [(37, con laws_toChances_con)]) 1000 Try.f26 [([4], [2])] [.g a0 25] [] = some (.a (.g a0 36), .none, true) := by
  have hs : a0.size = (zc Try.prog 36).size := by rw [h_a0.layLen]; kernel_rfl
  have hz : a0.size = 180 := by rw [h_a0.layLen]; kernel_rfl
  have hL : ∀ k, k < 36 → (lay Try.prog 25)[k * 5]? = some 4 := by
    intro k hk
    have h : (List.range 36).all (fun k => (lay Try.prog 25)[k * 5]? == some 4) = true := by kernel_rfl
    exact eq_of_beq (List.all_eq_true.1 h k (List.mem_range.2 hk))
  have h := iter_all (g := laws_toChancesA36_g0 Try.prog a0) (fun k => ((k : Int), upto a0 (zc Try.prog 36) (k * 5))) (m := 36) (x := (((36 : Nat) : Int), upto a0 (zc Try.prog 36) (36 * 5))) (N := 1000) (fun k hk => by
    have h1 : decide ((k : Int) < 36) = true := decide_eq_true (by omega)
    have h0 : decide (0 ≤ (k : Int)) = true := decide_eq_true (by omega)
    have h3 : IntKind.i64.wrap ((k : Int) + 1) = ((k + 1 : Nat) : Int) := by rw [IntWalk.i64_in _ (by omega)]; omega
    have h4 : ((k : Int)).toNat = k := Int.toNat_natCast k
    have h5 : spl (upto a0 (zc Try.prog 36) (k * 5)) (k * 5) (a0.extract (k * 5) (k * 5 + 5)).toList = upto a0 (zc Try.prog 36) ((k + 1) * 5) := by
      rw [Nat.add_mul]; exact upto_spl hs (by omega) rfl
    simp only [laws_toChancesA36_g0, h1, h0, Bool.and_self, h4, cond_true, h3, h5]) (by
    have h1 : decide (((36 : Nat) : Int) < 36) = false := by decide
    simp only [laws_toChancesA36_g0, h1, cond_false]) (by omega)
  simp only [Nat.zero_mul, upto_zero hs, upto_all hs hz] at h
  refine (laws_toChancesA36_ans 1000 a0).trans ?_
  have h' : iterO (laws_toChancesA36_g0 Try.prog a0) 1000 ((0 : Int), (zc Try.prog 36)) = some (((36 : Nat) : Int), a0) := h
  rw [h']
  rfl
noncomputable def laws_toChancesA36_con : Con := fun args h => match args, h with
  | [.g a0 25], [] => some (.a (.g a0 36), .none, true)
  | _, _ => none
theorem laws_toChancesA36_enter : EntX Try.prog 26 := entX_ok (fn := Try.f26) (by kernel_rfl) (by kernel_rfl) (by kernel_rfl)
theorem laws_toChancesA36_ok : ConOkX mn Try.prog 26 laws_toChancesA36_con := (ansX_ok (N := 1000) (by kernel_rfl) (mkΓ_consX (con_okX laws_toChances_ok) laws_toChances_enter mkΓ_nilX) (fn := Try.f26) (by kernel_rfl) (by kernel_rfl) [([4], [2])]).of (by
  intro ρ h w args vals r e hA hH hr
  unfold laws_toChancesA36_con at hr
  split at hr
  · rename_i a0
    obtain ⟨rfl, hg⟩ := Prod.mk.inj (Option.some.inj hr)
    obtain ⟨rfl, hg2⟩ := Prod.mk.inj hg
    exact laws_toChancesA36_main a0 (hA.wt 0 rfl) hg2
  · cases hr)
noncomputable def laws_toChancesA36A2_e0 : Int × Array Value → LS
  | (y0_4, r0_2) => ([.a (.i .i64 (y0_4))], [.row r0_2 37])
noncomputable def laws_toChancesA36A2_x0 : Int × Array Value → Exit × LS
  | t => ((.exit 0), laws_toChancesA36A2_e0 t)
noncomputable def laws_toChancesA36A2_g0 (P : Program) (a0 : Array Value) : Int × Array Value → Option (Stp (Int × Array Value) (Int × Array Value))
  | (y0_4, r0_2) => bif decide (y0_4 < (2 : Int)) then (bif (decide (0 ≤ y0_4) && decide (y0_4 < 2)) then (bif (decide (0 ≤ y0_4) && decide (y0_4 < 2)) then (some (.more ((IntKind.i64.wrap (y0_4 + (1 : Int))), (spl r0_2 ((y0_4).toNat * 180) (a0.extract ((y0_4).toNat * 180) (((y0_4).toNat * 180) + 180)).toList))))
        else (none))
      else (none))
    else (some (.done (y0_4, r0_2)))
theorem laws_toChancesA36A2_s0 (N : Nat) (a0 : Array Value) : ∀ t : Int × Array Value, stepV Try.prog (mkΓ [(26, con laws_toChancesA36_con)]) N (cAt (codeOf Try.f14) [1, 1, 0, 1, 0, 0]) (pAt (mkPlan (codeOf Try.f14) [([4], [2])]).1 [1, 1, 0, 1, 0]) [4] [2] (⟨.a (.g a0 26) :: .a (.w 0) :: .a (.w 1) :: .a (.w 2) :: .a (.i .i64 (0 : Int)) :: us 11 ([]), [.row a0 26, .row (zc Try.prog 37) 37, .row (zc Try.prog 37) 37], []⟩ : St) (laws_toChancesA36A2_e0 t) = mapS laws_toChancesA36A2_e0 laws_toChancesA36A2_x0 (laws_toChancesA36A2_g0 Try.prog a0 t) := by
  rintro ⟨y0_4, r0_2⟩
  refine Eq.trans (b := (bif decide (y0_4 < (2 : Int)) then (bif (decide (0 ≤ y0_4) && decide (y0_4 < 2)) then (bif (decide (0 ≤ y0_4) && decide (y0_4 < 2)) then (some (.more ([.a (.i .i64 (IntKind.i64.wrap (y0_4 + (1 : Int))))], [.row (spl r0_2 ((y0_4).toNat * 180) (a0.extract ((y0_4).toNat * 180) (((y0_4).toNat * 180) + 180)).toList) 37])))
        else (none))
      else (none))
    else (some (.done ((.exit 0), ([.a (.i .i64 (y0_4))], [.row r0_2 37])))))) (by kernel_rfl) ?_
  simp only [laws_toChancesA36A2_g0, mapS_cond, mapS_more, mapS_done, mapS_none, laws_toChancesA36A2_e0, laws_toChancesA36A2_x0]
noncomputable def laws_toChancesA36A2_k0_0 (P : Program) (N : Nat) (a0 : Array Value) (z0_4 : Int) (q0_2 : Array Value) : Option (SV × Eff × Bool) := some (.a (.g q0_2 37), .none, true)
theorem laws_toChancesA36A2_k0_0_eq (N : Nat) (a0 : Array Value) (z0_4 : Int) (q0_2 : Array Value) : (kBlock 0 (kSeq (veC Try.prog (mkΓ [(26, con laws_toChancesA36_con)]) N (cAt (codeOf Try.f14) [1, 1, 1]) (pAt (mkPlan (codeOf Try.f14) [([4], [2])]).1 [1, 1, 1]) (SV × Eff × Bool)) (finK Try.prog [] [.cell 2 37]))) (.exit 0) (left (writes (cAt (codeOf Try.f14) [1, 1, 0, 1, 0, 0])) [4] [2] (⟨.a (.g a0 26) :: .a (.w 0) :: .a (.w 1) :: .a (.w 2) :: .a (.i .i64 (0 : Int)) :: us 11 ([]), [.row a0 26, .row (zc Try.prog 37) 37, .row (zc Try.prog 37) 37], []⟩ : St) ([.a (.i .i64 (z0_4))], [.row q0_2 37])) = laws_toChancesA36A2_k0_0 Try.prog N a0 z0_4 q0_2 := by
  refine Eq.trans (b := (some (.a (.g q0_2 37), .none, true))) (by kernel_rfl) ?_
  rfl
theorem laws_toChancesA36A2_n0 (N : Nat) (a0 : Array Value) : bindX (iterO (stepV Try.prog (mkΓ [(26, con laws_toChancesA36_con)]) N (cAt (codeOf Try.f14) [1, 1, 0, 1, 0, 0]) (pAt (mkPlan (codeOf Try.f14) [([4], [2])]).1 [1, 1, 0, 1, 0]) [4] [2] (⟨.a (.g a0 26) :: .a (.w 0) :: .a (.w 1) :: .a (.w 2) :: .a (.i .i64 (0 : Int)) :: us 11 ([]), [.row a0 26, .row (zc Try.prog 37) 37, .row (zc Try.prog 37) 37], []⟩ : St)) N ([.a (.i .i64 (0 : Int))], [.row (zc Try.prog 37) 37])) (fun e s => (kBlock 0 (kSeq (veC Try.prog (mkΓ [(26, con laws_toChancesA36_con)]) N (cAt (codeOf Try.f14) [1, 1, 1]) (pAt (mkPlan (codeOf Try.f14) [([4], [2])]).1 [1, 1, 1]) (SV × Eff × Bool)) (finK Try.prog [] [.cell 2 37]))) e (left (writes (cAt (codeOf Try.f14) [1, 1, 0, 1, 0, 0])) [4] [2] (⟨.a (.g a0 26) :: .a (.w 0) :: .a (.w 1) :: .a (.w 2) :: .a (.i .i64 (0 : Int)) :: us 11 ([]), [.row a0 26, .row (zc Try.prog 37) 37, .row (zc Try.prog 37) 37], []⟩ : St) s)) = nodeX (iterO (laws_toChancesA36A2_g0 Try.prog a0) N ((0 : Int), (zc Try.prog 37))) (fun x => laws_toChancesA36A2_k0_0 Try.prog N a0 x.1 x.2) := by
  refine loop_node laws_toChancesA36A2_e0 laws_toChancesA36A2_x0 _ _ (laws_toChancesA36A2_s0 N a0) N ((0 : Int), (zc Try.prog 37)) _ _ ?_
  intro x; exact laws_toChancesA36A2_k0_0_eq N a0 x.1 x.2
theorem laws_toChancesA36A2_ans (N : Nat) (a0 : Array Value) : ansV Try.prog (mkΓ [(26, con laws_toChancesA36_con)]) N Try.f14 [([4], [2])] [.g a0 26] [] = (nodeX (iterO (laws_toChancesA36A2_g0 Try.prog a0) N ((0 : Int), (zc Try.prog 37))) (fun x => laws_toChancesA36A2_k0_0 Try.prog N a0 x.1 x.2)) := by
  refine Eq.trans (b := (bindX (iterO (stepV Try.prog (mkΓ [(26, con laws_toChancesA36_con)]) N (cAt (codeOf Try.f14) [1, 1, 0, 1, 0, 0]) (pAt (mkPlan (codeOf Try.f14) [([4], [2])]).1 [1, 1, 0, 1, 0]) [4] [2] (⟨.a (.g a0 26) :: .a (.w 0) :: .a (.w 1) :: .a (.w 2) :: .a (.i .i64 (0 : Int)) :: us 11 ([]), [.row a0 26, .row (zc Try.prog 37) 37, .row (zc Try.prog 37) 37], []⟩ : St)) N ([.a (.i .i64 (0 : Int))], [.row (zc Try.prog 37) 37])) (fun e s => (kBlock 0 (kSeq (veC Try.prog (mkΓ [(26, con laws_toChancesA36_con)]) N (cAt (codeOf Try.f14) [1, 1, 1]) (pAt (mkPlan (codeOf Try.f14) [([4], [2])]).1 [1, 1, 1]) (SV × Eff × Bool)) (finK Try.prog [] [.cell 2 37]))) e (left (writes (cAt (codeOf Try.f14) [1, 1, 0, 1, 0, 0])) [4] [2] (⟨.a (.g a0 26) :: .a (.w 0) :: .a (.w 1) :: .a (.w 2) :: .a (.i .i64 (0 : Int)) :: us 11 ([]), [.row a0 26, .row (zc Try.prog 37) 37, .row (zc Try.prog 37) 37], []⟩ : St) s)))) (by kernel_rfl) ?_
  simp only [laws_toChancesA36A2_n0 N a0]
theorem laws_toChancesA36A2_main (a0 : Array Value) (h_a0 : WT Try.prog 26 a0) (hg : (true) = true) : ansV Try.prog (mkΓ [(26, con laws_toChancesA36_con)]) 1000 Try.f14 [([4], [2])] [.g a0 26] [] = some (.a (.g a0 37), .none, true) := by
  have hs : a0.size = (zc Try.prog 37).size := by rw [h_a0.layLen]; kernel_rfl
  have hz : a0.size = 360 := by rw [h_a0.layLen]; kernel_rfl
  have hL : ∀ k, k < 2 → (lay Try.prog 26)[k * 180]? = some 4 := by
    intro k hk
    have h : (List.range 2).all (fun k => (lay Try.prog 26)[k * 180]? == some 4) = true := by kernel_rfl
    exact eq_of_beq (List.all_eq_true.1 h k (List.mem_range.2 hk))
  have h := iter_all (g := laws_toChancesA36A2_g0 Try.prog a0) (fun k => ((k : Int), upto a0 (zc Try.prog 37) (k * 180))) (m := 2) (x := (((2 : Nat) : Int), upto a0 (zc Try.prog 37) (2 * 180))) (N := 1000) (fun k hk => by
    have h1 : decide ((k : Int) < 2) = true := decide_eq_true (by omega)
    have h0 : decide (0 ≤ (k : Int)) = true := decide_eq_true (by omega)
    have h3 : IntKind.i64.wrap ((k : Int) + 1) = ((k + 1 : Nat) : Int) := by rw [IntWalk.i64_in _ (by omega)]; omega
    have h4 : ((k : Int)).toNat = k := Int.toNat_natCast k
    have h5 : spl (upto a0 (zc Try.prog 37) (k * 180)) (k * 180) (a0.extract (k * 180) (k * 180 + 180)).toList = upto a0 (zc Try.prog 37) ((k + 1) * 180) := by
      rw [Nat.add_mul]; exact upto_spl hs (by omega) rfl
    simp only [laws_toChancesA36A2_g0, h1, h0, Bool.and_self, h4, cond_true, h3, h5]) (by
    have h1 : decide (((2 : Nat) : Int) < 2) = false := by decide
    simp only [laws_toChancesA36A2_g0, h1, cond_false]) (by omega)
  simp only [Nat.zero_mul, upto_zero hs, upto_all hs hz] at h
  refine (laws_toChancesA36A2_ans 1000 a0).trans ?_
  have h' : iterO (laws_toChancesA36A2_g0 Try.prog a0) 1000 ((0 : Int), (zc Try.prog 37)) = some (((2 : Nat) : Int), a0) := h
  rw [h']
  rfl
noncomputable def laws_toChancesA36A2_con : Con := fun args h => match args, h with
  | [.g a0 26], [] => some (.a (.g a0 37), .none, true)
  | _, _ => none
theorem laws_toChancesA36A2_enter : EntX Try.prog 14 := entX_ok (fn := Try.f14) (by kernel_rfl) (by kernel_rfl) (by kernel_rfl)
theorem laws_toChancesA36A2_ok : ConOkX mn Try.prog 14 laws_toChancesA36A2_con := (ansX_ok (N := 1000) (by kernel_rfl) (mkΓ_consX (con_okX laws_toChancesA36_ok) laws_toChancesA36_enter mkΓ_nilX) (fn := Try.f14) (by kernel_rfl) (by kernel_rfl) [([4], [2])]).of (by
  intro ρ h w args vals r e hA hH hr
  unfold laws_toChancesA36A2_con at hr
  split at hr
  · rename_i a0
    obtain ⟨rfl, hg⟩ := Prod.mk.inj (Option.some.inj hr)
    obtain ⟨rfl, hg2⟩ := Prod.mk.inj hg
    exact laws_toChancesA36A2_main a0 (hA.wt 0 rfl) hg2
  · cases hr)
theorem laws_toSea_ans (N : Nat) (a0 : Array Value) : ansV Try.prog (mkΓ [(14, con laws_toChancesA36A2_con)]) N Try.f6 [] [.g a0 28] [] = (some (.a (.g (spl ((((zc Try.prog 39).setIfInBounds 0 (.int .i8 (num a0 0))).setIfInBounds 1 (.int .i8 (num a0 1))).setIfInBounds 2 (.int .u64 (num a0 2))) 3 (a0.extract 3 (3 + 360)).toList) 39), .none, true)) := by kernel_rfl
theorem laws_toSea_main (a0 : Array Value) (h_a0 : WT Try.prog 28 a0) (hg : (true) = true) : ansV Try.prog (mkΓ [(14, con laws_toChancesA36A2_con)]) 1000 Try.f6 [] [.g a0 28] [] = some (.a (.g a0 39), .none, true) := by
  have hs : a0.size = (zc Try.prog 39).size := by rw [h_a0.layLen]; kernel_rfl
  have hz : a0.size = 363 := by rw [h_a0.layLen]; kernel_rfl
  have e0 : (upto a0 (zc Try.prog 39) 0).setIfInBounds 0 (.int .i8 (num a0 0)) = upto a0 (zc Try.prog 39) 1 := upto_set hs (h_a0.int (k := .i8) (by kernel_rfl)).1
  rw [upto_zero hs] at e0
  have e1 : (upto a0 (zc Try.prog 39) 1).setIfInBounds 1 (.int .i8 (num a0 1)) = upto a0 (zc Try.prog 39) 2 := upto_set hs (h_a0.int (k := .i8) (by kernel_rfl)).1
  have e2 : (upto a0 (zc Try.prog 39) 2).setIfInBounds 2 (.int .u64 (num a0 2)) = upto a0 (zc Try.prog 39) 3 := upto_set hs (h_a0.int (k := .u64) (by kernel_rfl)).1
  have e3 : spl (upto a0 (zc Try.prog 39) 3) 3 (a0.extract 3 (3 + 360)).toList = upto a0 (zc Try.prog 39) 363 := upto_spl hs (by omega) rfl
  refine (laws_toSea_ans 1000 a0).trans ?_
  rw [e0, e1, e2, e3, upto_all hs hz]
noncomputable def laws_toSea_con : Con := fun args h => match args, h with
  | [.g a0 28], [] => some (.a (.g a0 39), .none, true)
  | _, _ => none
theorem laws_toSea_enter : EntX Try.prog 6 := entX_ok (fn := Try.f6) (by kernel_rfl) (by kernel_rfl) (by kernel_rfl)
theorem laws_toSea_ok : ConOkX mn Try.prog 6 laws_toSea_con := (ansX_ok (N := 1000) (by kernel_rfl) (mkΓ_consX (con_okX laws_toChancesA36A2_ok) laws_toChancesA36A2_enter mkΓ_nilX) (fn := Try.f6) (by kernel_rfl) (by kernel_rfl) []).of (by
  intro ρ h w args vals r e hA hH hr
  unfold laws_toSea_con at hr
  split at hr
  · rename_i a0
    obtain ⟨rfl, hg⟩ := Prod.mk.inj (Option.some.inj hr)
    obtain ⟨rfl, hg2⟩ := Prod.mk.inj hg
    exact laws_toSea_main a0 (hA.wt 0 rfl) hg2
  · cases hr)
theorem impl_hasBottles_ans (N : Nat) (a0 : Int) (a1 : Int) : ansV Try.prog (mkΓ []) N Try.f40 [] [.i .i64 (a0), .i .i64 (a1)] [] = (bif decide (a0 ≥ (1 : Int)) then (some (.a (.b (decide (a0 ≤ a1))), .none, true))
    else (some (.a (.b (false)), .none, true))) := by kernel_rfl
noncomputable def impl_hasBottles_v0 (a0 : Int) (a1 : Int) : Bool := (bif decide (a0 ≥ (1 : Int)) then decide (a0 ≤ a1) else false)
theorem impl_hasBottles_main (a0 : Int) (a1 : Int) (h_a0 : IntKind.i64.min ≤ a0 ∧ a0 ≤ IntKind.i64.max) (h_a1 : IntKind.i64.min ≤ a1 ∧ a1 ≤ IntKind.i64.max) (hg : (true) = true) : ansV Try.prog (mkΓ []) 1000 Try.f40 [] [.i .i64 (a0), .i .i64 (a1)] [] = some (.a (.b ((impl_hasBottles_v0 a0 a1))), .none, true) := by
  refine (impl_hasBottles_ans 1000 a0 a1).trans ?_
  unfold impl_hasBottles_v0
  revert hg
  generalize (decide (a0 ≥ (1 : Int))) = b2
  intro hg
  cases b2
  · skip
    first | (simp only [cond_true, cond_false, Bool.and_true, Bool.true_and, Bool.and_false, Bool.false_and]; done) | rfl | exact (nomatch (hg : false = true))
  · skip
    first | (simp only [cond_true, cond_false, Bool.and_true, Bool.true_and, Bool.and_false, Bool.false_and]; done) | rfl | exact (nomatch (hg : false = true))
noncomputable def impl_hasBottles_con : Con := fun args h => match args, h with
  | [.i .i64 a0, .i .i64 a1], [] => some (.a (.b ((impl_hasBottles_v0 a0 a1))), .none, true)
  | _, _ => none
theorem impl_hasBottles_enter : EntX Try.prog 40 := entX_ok (fn := Try.f40) (by kernel_rfl) (by kernel_rfl) (by kernel_rfl)
theorem impl_hasBottles_ok : ConOkX mn Try.prog 40 impl_hasBottles_con := (ansX_ok (N := 1000) (by kernel_rfl) mkΓ_nilX (fn := Try.f40) (by kernel_rfl) (by kernel_rfl) []).of (by
  intro ρ h w args vals r e hA hH hr
  unfold impl_hasBottles_con at hr
  split at hr
  · rename_i a0 a1
    obtain ⟨rfl, hg⟩ := Prod.mk.inj (Option.some.inj hr)
    obtain ⟨rfl, hg2⟩ := Prod.mk.inj hg
    exact impl_hasBottles_main a0 a1 (hA.rng 0 rfl) (hA.rng 1 rfl) hg2
  · cases hr)
noncomputable def laws_toInt64A36_e0 : Int × Array Value → LS
  | (y0_4, r0_2) => ([.a (.i .i64 (y0_4))], [.row r0_2 29])
noncomputable def laws_toInt64A36_x0 : Int × Array Value → Exit × LS
  | t => ((.exit 0), laws_toInt64A36_e0 t)
noncomputable def laws_toInt64A36_g0 (P : Program) (a0 : Array Value) : Int × Array Value → Option (Stp (Int × Array Value) (Int × Array Value))
  | (y0_4, r0_2) => bif decide (y0_4 < (36 : Int)) then (bif (decide (0 ≤ y0_4) && decide (y0_4 < 36)) then (bif (decide (0 ≤ y0_4) && decide (y0_4 < 36)) then (some (.more ((IntKind.i64.wrap (y0_4 + (1 : Int))), (r0_2.setIfInBounds ((y0_4).toNat * 1) (.int .i64 (num a0 ((y0_4).toNat * 1)))))))
        else (none))
      else (none))
    else (some (.done (y0_4, r0_2)))
theorem laws_toInt64A36_s0 (N : Nat) (a0 : Array Value) : ∀ t : Int × Array Value, stepV Try.prog (mkΓ []) N (cAt (codeOf Try.f15) [1, 1, 0, 1, 0, 0]) (pAt (mkPlan (codeOf Try.f15) [([4], [2])]).1 [1, 1, 0, 1, 0]) [4] [2] (⟨.a (.g a0 29) :: .a (.w 0) :: .a (.w 1) :: .a (.w 2) :: .a (.i .i64 (0 : Int)) :: us 10 ([]), [.row a0 29, .row (zc Try.prog 29) 29, .row (zc Try.prog 29) 29], []⟩ : St) (laws_toInt64A36_e0 t) = mapS laws_toInt64A36_e0 laws_toInt64A36_x0 (laws_toInt64A36_g0 Try.prog a0 t) := by
  rintro ⟨y0_4, r0_2⟩
  refine Eq.trans (b := (bif decide (y0_4 < (36 : Int)) then (bif (decide (0 ≤ y0_4) && decide (y0_4 < 36)) then (bif (decide (0 ≤ y0_4) && decide (y0_4 < 36)) then (some (.more ([.a (.i .i64 (IntKind.i64.wrap (y0_4 + (1 : Int))))], [.row (r0_2.setIfInBounds ((y0_4).toNat * 1) (.int .i64 (num a0 ((y0_4).toNat * 1)))) 29])))
        else (none))
      else (none))
    else (some (.done ((.exit 0), ([.a (.i .i64 (y0_4))], [.row r0_2 29])))))) (by kernel_rfl) ?_
  simp only [laws_toInt64A36_g0, mapS_cond, mapS_more, mapS_done, mapS_none, laws_toInt64A36_e0, laws_toInt64A36_x0]
noncomputable def laws_toInt64A36_k0_0 (P : Program) (N : Nat) (a0 : Array Value) (z0_4 : Int) (q0_2 : Array Value) : Option (SV × Eff × Bool) := some (.a (.g q0_2 29), .none, true)
theorem laws_toInt64A36_k0_0_eq (N : Nat) (a0 : Array Value) (z0_4 : Int) (q0_2 : Array Value) : (kBlock 0 (kSeq (veC Try.prog (mkΓ []) N (cAt (codeOf Try.f15) [1, 1, 1]) (pAt (mkPlan (codeOf Try.f15) [([4], [2])]).1 [1, 1, 1]) (SV × Eff × Bool)) (finK Try.prog [] [.cell 2 29]))) (.exit 0) (left (writes (cAt (codeOf Try.f15) [1, 1, 0, 1, 0, 0])) [4] [2] (⟨.a (.g a0 29) :: .a (.w 0) :: .a (.w 1) :: .a (.w 2) :: .a (.i .i64 (0 : Int)) :: us 10 ([]), [.row a0 29, .row (zc Try.prog 29) 29, .row (zc Try.prog 29) 29], []⟩ : St) ([.a (.i .i64 (z0_4))], [.row q0_2 29])) = laws_toInt64A36_k0_0 Try.prog N a0 z0_4 q0_2 := by
  refine Eq.trans (b := (some (.a (.g q0_2 29), .none, true))) (by kernel_rfl) ?_
  rfl
theorem laws_toInt64A36_n0 (N : Nat) (a0 : Array Value) : bindX (iterO (stepV Try.prog (mkΓ []) N (cAt (codeOf Try.f15) [1, 1, 0, 1, 0, 0]) (pAt (mkPlan (codeOf Try.f15) [([4], [2])]).1 [1, 1, 0, 1, 0]) [4] [2] (⟨.a (.g a0 29) :: .a (.w 0) :: .a (.w 1) :: .a (.w 2) :: .a (.i .i64 (0 : Int)) :: us 10 ([]), [.row a0 29, .row (zc Try.prog 29) 29, .row (zc Try.prog 29) 29], []⟩ : St)) N ([.a (.i .i64 (0 : Int))], [.row (zc Try.prog 29) 29])) (fun e s => (kBlock 0 (kSeq (veC Try.prog (mkΓ []) N (cAt (codeOf Try.f15) [1, 1, 1]) (pAt (mkPlan (codeOf Try.f15) [([4], [2])]).1 [1, 1, 1]) (SV × Eff × Bool)) (finK Try.prog [] [.cell 2 29]))) e (left (writes (cAt (codeOf Try.f15) [1, 1, 0, 1, 0, 0])) [4] [2] (⟨.a (.g a0 29) :: .a (.w 0) :: .a (.w 1) :: .a (.w 2) :: .a (.i .i64 (0 : Int)) :: us 10 ([]), [.row a0 29, .row (zc Try.prog 29) 29, .row (zc Try.prog 29) 29], []⟩ : St) s)) = nodeX (iterO (laws_toInt64A36_g0 Try.prog a0) N ((0 : Int), (zc Try.prog 29))) (fun x => laws_toInt64A36_k0_0 Try.prog N a0 x.1 x.2) := by
  refine loop_node laws_toInt64A36_e0 laws_toInt64A36_x0 _ _ (laws_toInt64A36_s0 N a0) N ((0 : Int), (zc Try.prog 29)) _ _ ?_
  intro x; exact laws_toInt64A36_k0_0_eq N a0 x.1 x.2
theorem laws_toInt64A36_ans (N : Nat) (a0 : Array Value) : ansV Try.prog (mkΓ []) N Try.f15 [([4], [2])] [.g a0 29] [] = (nodeX (iterO (laws_toInt64A36_g0 Try.prog a0) N ((0 : Int), (zc Try.prog 29))) (fun x => laws_toInt64A36_k0_0 Try.prog N a0 x.1 x.2)) := by
  refine Eq.trans (b := (bindX (iterO (stepV Try.prog (mkΓ []) N (cAt (codeOf Try.f15) [1, 1, 0, 1, 0, 0]) (pAt (mkPlan (codeOf Try.f15) [([4], [2])]).1 [1, 1, 0, 1, 0]) [4] [2] (⟨.a (.g a0 29) :: .a (.w 0) :: .a (.w 1) :: .a (.w 2) :: .a (.i .i64 (0 : Int)) :: us 10 ([]), [.row a0 29, .row (zc Try.prog 29) 29, .row (zc Try.prog 29) 29], []⟩ : St)) N ([.a (.i .i64 (0 : Int))], [.row (zc Try.prog 29) 29])) (fun e s => (kBlock 0 (kSeq (veC Try.prog (mkΓ []) N (cAt (codeOf Try.f15) [1, 1, 1]) (pAt (mkPlan (codeOf Try.f15) [([4], [2])]).1 [1, 1, 1]) (SV × Eff × Bool)) (finK Try.prog [] [.cell 2 29]))) e (left (writes (cAt (codeOf Try.f15) [1, 1, 0, 1, 0, 0])) [4] [2] (⟨.a (.g a0 29) :: .a (.w 0) :: .a (.w 1) :: .a (.w 2) :: .a (.i .i64 (0 : Int)) :: us 10 ([]), [.row a0 29, .row (zc Try.prog 29) 29, .row (zc Try.prog 29) 29], []⟩ : St) s)))) (by kernel_rfl) ?_
  simp only [laws_toInt64A36_n0 N a0]
theorem laws_toInt64A36_main (a0 : Array Value) (h_a0 : WT Try.prog 29 a0) (hg : (true) = true) : ansV Try.prog (mkΓ []) 1000 Try.f15 [([4], [2])] [.g a0 29] [] = some (.a (.g a0 29), .none, true) := by
  have hs : a0.size = (zc Try.prog 29).size := by rw [h_a0.layLen]; kernel_rfl
  have hz : a0.size = 36 := by rw [h_a0.layLen]; kernel_rfl
  have hL : ∀ k, k < 36 → (lay Try.prog 29)[k * 1]? = some 3 := by
    intro k hk
    have h : (List.range 36).all (fun k => (lay Try.prog 29)[k * 1]? == some 3) = true := by kernel_rfl
    exact eq_of_beq (List.all_eq_true.1 h k (List.mem_range.2 hk))
  have h := iter_all (g := laws_toInt64A36_g0 Try.prog a0) (fun k => ((k : Int), upto a0 (zc Try.prog 29) (k * 1))) (m := 36) (x := (((36 : Nat) : Int), upto a0 (zc Try.prog 29) (36 * 1))) (N := 1000) (fun k hk => by
    have h1 : decide ((k : Int) < 36) = true := decide_eq_true (by omega)
    have h0 : decide (0 ≤ (k : Int)) = true := decide_eq_true (by omega)
    have h3 : IntKind.i64.wrap ((k : Int) + 1) = ((k + 1 : Nat) : Int) := by rw [IntWalk.i64_in _ (by omega)]; omega
    have h4 : ((k : Int)).toNat = k := Int.toNat_natCast k
    have h5 : (upto a0 (zc Try.prog 29) (k * 1)).setIfInBounds (k * 1) (.int .i64 (num a0 (k * 1))) = upto a0 (zc Try.prog 29) ((k + 1) * 1) := by
      rw [Nat.add_mul]; exact upto_set hs (h_a0.int (k := .i64) (hL k hk)).1
    simp only [laws_toInt64A36_g0, h1, h0, Bool.and_self, h4, cond_true, h3, h5]) (by
    have h1 : decide (((36 : Nat) : Int) < 36) = false := by decide
    simp only [laws_toInt64A36_g0, h1, cond_false]) (by omega)
  simp only [Nat.zero_mul, upto_zero hs, upto_all hs hz] at h
  refine (laws_toInt64A36_ans 1000 a0).trans ?_
  have h' : iterO (laws_toInt64A36_g0 Try.prog a0) 1000 ((0 : Int), (zc Try.prog 29)) = some (((36 : Nat) : Int), a0) := h
  rw [h']
  rfl
noncomputable def laws_toInt64A36_con : Con := fun args h => match args, h with
  | [.g a0 29], [] => some (.a (.g a0 29), .none, true)
  | _, _ => none
theorem laws_toInt64A36_enter : EntX Try.prog 15 := entX_ok (fn := Try.f15) (by kernel_rfl) (by kernel_rfl) (by kernel_rfl)
theorem laws_toInt64A36_ok : ConOkX mn Try.prog 15 laws_toInt64A36_con := (ansX_ok (N := 1000) (by kernel_rfl) mkΓ_nilX (fn := Try.f15) (by kernel_rfl) (by kernel_rfl) [([4], [2])]).of (by
  intro ρ h w args vals r e hA hH hr
  unfold laws_toInt64A36_con at hr
  split at hr
  · rename_i a0
    obtain ⟨rfl, hg⟩ := Prod.mk.inj (Option.some.inj hr)
    obtain ⟨rfl, hg2⟩ := Prod.mk.inj hg
    exact laws_toInt64A36_main a0 (hA.wt 0 rfl) hg2
  · cases hr)
theorem laws_toSpread_ans (N : Nat) (a0 : Array Value) : ansV Try.prog (mkΓ [(15, con laws_toInt64A36_con)]) N Try.f7 [] [.g a0 31] [] = (some (.a (.g ((spl ((((zc Try.prog 32).setIfInBounds 0 (.int .i8 (num a0 0))).setIfInBounds 1 (.int .i8 (num a0 1))).setIfInBounds 2 (.int .i64 (num a0 2))) 3 (a0.extract 3 (3 + 36)).toList).setIfInBounds 39 (.int .i64 (num a0 39))) 32), .none, true)) := by kernel_rfl
theorem laws_toSpread_main (a0 : Array Value) (h_a0 : WT Try.prog 31 a0) (hg : (true) = true) : ansV Try.prog (mkΓ [(15, con laws_toInt64A36_con)]) 1000 Try.f7 [] [.g a0 31] [] = some (.a (.g a0 32), .none, true) := by
  have hs : a0.size = (zc Try.prog 32).size := by rw [h_a0.layLen]; kernel_rfl
  have hz : a0.size = 40 := by rw [h_a0.layLen]; kernel_rfl
  have e0 : (upto a0 (zc Try.prog 32) 0).setIfInBounds 0 (.int .i8 (num a0 0)) = upto a0 (zc Try.prog 32) 1 := upto_set hs (h_a0.int (k := .i8) (by kernel_rfl)).1
  rw [upto_zero hs] at e0
  have e1 : (upto a0 (zc Try.prog 32) 1).setIfInBounds 1 (.int .i8 (num a0 1)) = upto a0 (zc Try.prog 32) 2 := upto_set hs (h_a0.int (k := .i8) (by kernel_rfl)).1
  have e2 : (upto a0 (zc Try.prog 32) 2).setIfInBounds 2 (.int .i64 (num a0 2)) = upto a0 (zc Try.prog 32) 3 := upto_set hs (h_a0.int (k := .i64) (by kernel_rfl)).1
  have e3 : spl (upto a0 (zc Try.prog 32) 3) 3 (a0.extract 3 (3 + 36)).toList = upto a0 (zc Try.prog 32) 39 := upto_spl hs (by omega) rfl
  have e4 : (upto a0 (zc Try.prog 32) 39).setIfInBounds 39 (.int .i64 (num a0 39)) = upto a0 (zc Try.prog 32) 40 := upto_set hs (h_a0.int (k := .i64) (by kernel_rfl)).1
  refine (laws_toSpread_ans 1000 a0).trans ?_
  rw [e0, e1, e2, e3, e4, upto_all hs hz]
noncomputable def laws_toSpread_con : Con := fun args h => match args, h with
  | [.g a0 31], [] => some (.a (.g a0 32), .none, true)
  | _, _ => none
theorem laws_toSpread_enter : EntX Try.prog 7 := entX_ok (fn := Try.f7) (by kernel_rfl) (by kernel_rfl) (by kernel_rfl)
theorem laws_toSpread_ok : ConOkX mn Try.prog 7 laws_toSpread_con := (ansX_ok (N := 1000) (by kernel_rfl) (mkΓ_consX (con_okX laws_toInt64A36_ok) laws_toInt64A36_enter mkΓ_nilX) (fn := Try.f7) (by kernel_rfl) (by kernel_rfl) []).of (by
  intro ρ h w args vals r e hA hH hr
  unfold laws_toSpread_con at hr
  split at hr
  · rename_i a0
    obtain ⟨rfl, hg⟩ := Prod.mk.inj (Option.some.inj hr)
    obtain ⟨rfl, hg2⟩ := Prod.mk.inj hg
    exact laws_toSpread_main a0 (hA.wt 0 rfl) hg2
  · cases hr)
noncomputable def laws_eqInt64A36_e0 : Bool × Int → LS
  | (y0_4, y0_5) => ([.a (.b (y0_4)), .a (.i .i64 (y0_5))], [])
noncomputable def laws_eqInt64A36_x0 : (Stp (Bool × Int) (Bool × Int)) → Exit × LS
  | .more t => (.ret, laws_eqInt64A36_e0 t)
  | .done t => ((.exit 0), laws_eqInt64A36_e0 t)
noncomputable def laws_eqInt64A36_g0 (P : Program) (a0 : Array Value) (a1 : Array Value) : Bool × Int → Option (Stp (Bool × Int) (Stp (Bool × Int) (Bool × Int)))
  | (y0_4, y0_5) => bif decide (y0_5 < (36 : Int)) then (bif (decide (0 ≤ y0_5) && decide (y0_5 < 36)) then (bif (decide (0 ≤ y0_5) && decide (y0_5 < 36)) then (bif ((num a0 ((y0_5).toNat * 1)) != (num a1 ((y0_5).toNat * 1))) then (some (.done (.more (false, y0_5))))
          else (some (.more (y0_4, (IntKind.i64.wrap (y0_5 + (1 : Int)))))))
        else (none))
      else (none))
    else (some (.done (.done (y0_4, y0_5))))
theorem laws_eqInt64A36_s0 (N : Nat) (a0 : Array Value) (a1 : Array Value) : ∀ t : Bool × Int, stepV Try.prog (mkΓ []) N (cAt (codeOf Try.f16) [1, 0, 1, 0, 0]) (pAt (mkPlan (codeOf Try.f16) [([4, 5], [])]).1 [1, 0, 1, 0]) [4, 5] [] (⟨.a (.g a0 29) :: .a (.g a1 29) :: .a (.w 0) :: .a (.w 1) :: .a (.b (false)) :: .a (.i .i64 (0 : Int)) :: us 11 ([]), [.row a0 29, .row a1 29, .no], []⟩ : St) (laws_eqInt64A36_e0 t) = mapS laws_eqInt64A36_e0 laws_eqInt64A36_x0 (laws_eqInt64A36_g0 Try.prog a0 a1 t) := by
  rintro ⟨y0_4, y0_5⟩
  refine Eq.trans (b := (bif decide (y0_5 < (36 : Int)) then (bif (decide (0 ≤ y0_5) && decide (y0_5 < 36)) then (bif (decide (0 ≤ y0_5) && decide (y0_5 < 36)) then (bif ((num a0 ((y0_5).toNat * 1)) != (num a1 ((y0_5).toNat * 1))) then (some (.done (.ret, ([.a (.b (false)), .a (.i .i64 (y0_5))], []))))
          else (some (.more ([.a (.b (y0_4)), .a (.i .i64 (IntKind.i64.wrap (y0_5 + (1 : Int))))], []))))
        else (none))
      else (none))
    else (some (.done ((.exit 0), ([.a (.b (y0_4)), .a (.i .i64 (y0_5))], [])))))) (by kernel_rfl) ?_
  simp only [laws_eqInt64A36_g0, mapS_cond, mapS_more, mapS_done, mapS_none, laws_eqInt64A36_e0, laws_eqInt64A36_x0]
noncomputable def laws_eqInt64A36_k0_0 (P : Program) (N : Nat) (a0 : Array Value) (a1 : Array Value) (z0_4 : Bool) (z0_5 : Int) : Option (SV × Eff × Bool) := some (.a (.b (z0_4)), .none, true)
theorem laws_eqInt64A36_k0_0_eq (N : Nat) (a0 : Array Value) (a1 : Array Value) (z0_4 : Bool) (z0_5 : Int) : (kBlock 0 (kSeq (veC Try.prog (mkΓ []) N (cAt (codeOf Try.f16) [1, 1]) (pAt (mkPlan (codeOf Try.f16) [([4, 5], [])]).1 [1, 1]) (SV × Eff × Bool)) (finK Try.prog [] [.tmp 4]))) .ret (left (writes (cAt (codeOf Try.f16) [1, 0, 1, 0, 0])) [4, 5] [] (⟨.a (.g a0 29) :: .a (.g a1 29) :: .a (.w 0) :: .a (.w 1) :: .a (.b (false)) :: .a (.i .i64 (0 : Int)) :: us 11 ([]), [.row a0 29, .row a1 29, .no], []⟩ : St) ([.a (.b (z0_4)), .a (.i .i64 (z0_5))], [])) = laws_eqInt64A36_k0_0 Try.prog N a0 a1 z0_4 z0_5 := by
  refine Eq.trans (b := (some (.a (.b (z0_4)), .none, true))) (by kernel_rfl) ?_
  rfl
noncomputable def laws_eqInt64A36_k0_1 (P : Program) (N : Nat) (a0 : Array Value) (a1 : Array Value) (z0_4 : Bool) (z0_5 : Int) : Option (SV × Eff × Bool) := some (.a (.b (true)), .none, true)
theorem laws_eqInt64A36_k0_1_eq (N : Nat) (a0 : Array Value) (a1 : Array Value) (z0_4 : Bool) (z0_5 : Int) : (kBlock 0 (kSeq (veC Try.prog (mkΓ []) N (cAt (codeOf Try.f16) [1, 1]) (pAt (mkPlan (codeOf Try.f16) [([4, 5], [])]).1 [1, 1]) (SV × Eff × Bool)) (finK Try.prog [] [.tmp 4]))) (.exit 0) (left (writes (cAt (codeOf Try.f16) [1, 0, 1, 0, 0])) [4, 5] [] (⟨.a (.g a0 29) :: .a (.g a1 29) :: .a (.w 0) :: .a (.w 1) :: .a (.b (false)) :: .a (.i .i64 (0 : Int)) :: us 11 ([]), [.row a0 29, .row a1 29, .no], []⟩ : St) ([.a (.b (z0_4)), .a (.i .i64 (z0_5))], [])) = laws_eqInt64A36_k0_1 Try.prog N a0 a1 z0_4 z0_5 := by
  refine Eq.trans (b := (some (.a (.b (true)), .none, true))) (by kernel_rfl) ?_
  rfl
theorem laws_eqInt64A36_n0 (N : Nat) (a0 : Array Value) (a1 : Array Value) : bindX (iterO (stepV Try.prog (mkΓ []) N (cAt (codeOf Try.f16) [1, 0, 1, 0, 0]) (pAt (mkPlan (codeOf Try.f16) [([4, 5], [])]).1 [1, 0, 1, 0]) [4, 5] [] (⟨.a (.g a0 29) :: .a (.g a1 29) :: .a (.w 0) :: .a (.w 1) :: .a (.b (false)) :: .a (.i .i64 (0 : Int)) :: us 11 ([]), [.row a0 29, .row a1 29, .no], []⟩ : St)) N ([.a (.b (false)), .a (.i .i64 (0 : Int))], [])) (fun e s => (kBlock 0 (kSeq (veC Try.prog (mkΓ []) N (cAt (codeOf Try.f16) [1, 1]) (pAt (mkPlan (codeOf Try.f16) [([4, 5], [])]).1 [1, 1]) (SV × Eff × Bool)) (finK Try.prog [] [.tmp 4]))) e (left (writes (cAt (codeOf Try.f16) [1, 0, 1, 0, 0])) [4, 5] [] (⟨.a (.g a0 29) :: .a (.g a1 29) :: .a (.w 0) :: .a (.w 1) :: .a (.b (false)) :: .a (.i .i64 (0 : Int)) :: us 11 ([]), [.row a0 29, .row a1 29, .no], []⟩ : St) s)) = nodeX (iterO (laws_eqInt64A36_g0 Try.prog a0 a1) N (false, (0 : Int))) (st2 (fun x => laws_eqInt64A36_k0_0 Try.prog N a0 a1 x.1 x.2) (fun x => laws_eqInt64A36_k0_1 Try.prog N a0 a1 x.1 x.2)) := by
  refine loop_node laws_eqInt64A36_e0 laws_eqInt64A36_x0 _ _ (laws_eqInt64A36_s0 N a0 a1) N (false, (0 : Int)) _ _ ?_
  intro x
  cases x with
  | more x => exact laws_eqInt64A36_k0_0_eq N a0 a1 x.1 x.2
  | done x => exact laws_eqInt64A36_k0_1_eq N a0 a1 x.1 x.2
theorem laws_eqInt64A36_ans (N : Nat) (a0 : Array Value) (a1 : Array Value) : ansV Try.prog (mkΓ []) N Try.f16 [([4, 5], [])] [.g a0 29, .g a1 29] [] = (nodeX (iterO (laws_eqInt64A36_g0 Try.prog a0 a1) N (false, (0 : Int))) (st2 (fun x => laws_eqInt64A36_k0_0 Try.prog N a0 a1 x.1 x.2) (fun x => laws_eqInt64A36_k0_1 Try.prog N a0 a1 x.1 x.2))) := by
  refine Eq.trans (b := (bindX (iterO (stepV Try.prog (mkΓ []) N (cAt (codeOf Try.f16) [1, 0, 1, 0, 0]) (pAt (mkPlan (codeOf Try.f16) [([4, 5], [])]).1 [1, 0, 1, 0]) [4, 5] [] (⟨.a (.g a0 29) :: .a (.g a1 29) :: .a (.w 0) :: .a (.w 1) :: .a (.b (false)) :: .a (.i .i64 (0 : Int)) :: us 11 ([]), [.row a0 29, .row a1 29, .no], []⟩ : St)) N ([.a (.b (false)), .a (.i .i64 (0 : Int))], [])) (fun e s => (kBlock 0 (kSeq (veC Try.prog (mkΓ []) N (cAt (codeOf Try.f16) [1, 1]) (pAt (mkPlan (codeOf Try.f16) [([4, 5], [])]).1 [1, 1]) (SV × Eff × Bool)) (finK Try.prog [] [.tmp 4]))) e (left (writes (cAt (codeOf Try.f16) [1, 0, 1, 0, 0])) [4, 5] [] (⟨.a (.g a0 29) :: .a (.g a1 29) :: .a (.w 0) :: .a (.w 1) :: .a (.b (false)) :: .a (.i .i64 (0 : Int)) :: us 11 ([]), [.row a0 29, .row a1 29, .no], []⟩ : St) s)))) (by kernel_rfl) ?_
  simp only [laws_eqInt64A36_n0 N a0 a1]
theorem laws_eqInt64A36_main (a0 : Array Value) (a1 : Array Value) (h_a0 : WT Try.prog 29 a0) (h_a1 : WT Try.prog 29 a1) (hg : (true) = true) : ansV Try.prog (mkΓ []) 1000 Try.f16 [([4, 5], [])] [.g a0 29, .g a1 29] [] = some (.a (.b (sameB a0 a1)), .none, true) := by
  have hz : a0.size = 36 * 1 := by rw [h_a0.layLen]; kernel_rfl
  have hy : a1.size = 36 * 1 := by rw [h_a1.layLen]; kernel_rfl
  have hL : ∀ k, k < 36 → (lay Try.prog 29)[k * 1]? = some 3 := by
    intro k hk
    have h : (List.range 36).all (fun k => (lay Try.prog 29)[k * 1]? == some 3) = true := by kernel_rfl
    exact eq_of_beq (List.all_eq_true.1 h k (List.mem_range.2 hk))
  have hb : sameB a0 a1 = true ↔ ∀ k, k < 36 → (fun k => (num a0 (k * 1) == num a1 (k * 1))) k = true := by
    constructor
    · intro h k hk
      rw [sameB_iff.1 h]
      exact beq_self_eq_true _
    · intro h
      refine sameB_iff.2 ?_
      refine ext_parts (n := 36) (m := 1) (by omega) hz hy (fun k hk => ?_)
      have e0 := (h_a0.int (k := .i64) (hL k hk)).1
      have e1 := (h_a1.int (k := .i64) (hL k hk)).1
      rw [eq_of_beq (h k hk)] at e0
      refine arr_ext fun i => ?_
      rw [Array.getElem?_extract, Array.getElem?_extract, hz, hy]
      by_cases hi : i = 0
      · subst hi; simp only [Nat.add_zero]; rw [e0, e1]
      · rw [if_neg (by omega), if_neg (by omega)]
  refine (laws_eqInt64A36_ans 1000 a0 a1).trans ?_
  refine (iter_first (g := laws_eqInt64A36_g0 Try.prog a0 a1) (fun k => (false, (k : Int))) (fun k => (num a0 (k * 1) == num a1 (k * 1))) 36 (N := 1000) (xd := .done (false, ((36 : Nat) : Int))) (by omega) (fun k hk hp => by
    have h1 : decide ((k : Int) < 36) = true := decide_eq_true (by omega)
    have h0 : decide (0 ≤ (k : Int)) = true := decide_eq_true (by omega)
    have h3 : IntKind.i64.wrap ((k : Int) + 1) = ((k + 1 : Nat) : Int) := by rw [IntWalk.i64_in _ (by omega)]; omega
    have h4 : ((k : Int)).toNat = k := Int.toNat_natCast k
    have hp' : (num a0 (k * 1) == num a1 (k * 1)) = true := hp
    simp only [laws_eqInt64A36_g0, h1, h0, Bool.and_self, h4, cond_true, h3, bne, hp', Bool.not_true, cond_false]) (by
    have h1 : decide (((36 : Nat) : Int) < 36) = false := by decide
    simp only [laws_eqInt64A36_g0, h1, cond_false]) (sameB a0 a1) hb (some (.a (.b true), .none, true)) (some (.a (.b false), .none, true)) rfl (fun k hk hp => by
    refine ⟨.more (false, (k : Int)), ?_, rfl⟩
    have h1 : decide ((k : Int) < 36) = true := decide_eq_true (by omega)
    have h0 : decide (0 ≤ (k : Int)) = true := decide_eq_true (by omega)
    have h4 : ((k : Int)).toNat = k := Int.toNat_natCast k
    have hp' : (num a0 (k * 1) == num a1 (k * 1)) = false := hp
    simp only [laws_eqInt64A36_g0, h1, h0, Bool.and_self, h4, cond_true, bne, hp', Bool.not_false])).trans ?_
  cases sameB a0 a1 <;> rfl
noncomputable def laws_eqInt64A36_con : Con := fun args h => match args, h with
  | [.g a0 29, .g a1 29], [] => some (.a (.b (sameB a0 a1)), .none, true)
  | _, _ => none
theorem laws_eqInt64A36_enter : EntX Try.prog 16 := entX_ok (fn := Try.f16) (by kernel_rfl) (by kernel_rfl) (by kernel_rfl)
theorem laws_eqInt64A36_ok : ConOkX mn Try.prog 16 laws_eqInt64A36_con := (ansX_ok (N := 1000) (by kernel_rfl) mkΓ_nilX (fn := Try.f16) (by kernel_rfl) (by kernel_rfl) [([4, 5], [])]).of (by
  intro ρ h w args vals r e hA hH hr
  unfold laws_eqInt64A36_con at hr
  split at hr
  · rename_i a0 a1
    obtain ⟨rfl, hg⟩ := Prod.mk.inj (Option.some.inj hr)
    obtain ⟨rfl, hg2⟩ := Prod.mk.inj hg
    exact laws_eqInt64A36_main a0 a1 (hA.wt 0 rfl) (hA.wt 1 rfl) hg2
  · cases hr)
theorem laws_eqSpread_ans (N : Nat) (a0 : Array Value) (a1 : Array Value) : ansV Try.prog (mkΓ [(16, con laws_eqInt64A36_con)]) N Try.f9 [] [.g a0 32, .g a1 32] [] = (bif ((num a0 0) != (num a1 0)) then (some (.a (.b (false)), .none, true))
    else (bif ((num a0 1) != (num a1 1)) then (some (.a (.b (false)), .none, true))
      else (bif ((num a0 2) != (num a1 2)) then (some (.a (.b (false)), .none, true))
        else (bif (!(sameB (a0.extract 3 (3 + 36)) (a1.extract 3 (3 + 36)))) then (some (.a (.b (false)), .none, true))
          else (bif ((num a0 39) != (num a1 39)) then (some (.a (.b (false)), .none, true))
            else (some (.a (.b (true)), .none, true))))))) := by kernel_rfl
theorem laws_eqSpread_main (a0 : Array Value) (a1 : Array Value) (h_a0 : WT Try.prog 32 a0) (h_a1 : WT Try.prog 32 a1) (hg : (true) = true) : ansV Try.prog (mkΓ [(16, con laws_eqInt64A36_con)]) 1000 Try.f9 [] [.g a0 32, .g a1 32] [] = some (.a (.b (sameB a0 a1)), .none, true) := by
  have hz : a0.size = 40 := by rw [h_a0.layLen]; kernel_rfl
  have hy : a1.size = 40 := by rw [h_a1.layLen]; kernel_rfl
  refine (laws_eqSpread_ans 1000 a0 a1).trans ?_
  cases hb : sameB a0 a1
  · have hne := sameB_false.1 hb
    cases h0 : (num a0 0 != num a1 0)
    · skip
      cases h1 : (num a0 1 != num a1 1)
      · skip
        cases h2 : (num a0 2 != num a1 2)
        · skip
          cases h3 : sameB (a0.extract 3 (3 + 36)) (a1.extract 3 (3 + 36))
          · rfl
          · skip
            cases h4 : (num a0 39 != num a1 39)
            · skip
              exfalso
              refine hne (arr_ext fun i => ?_)
              by_cases c0 : i = 0
              · subst c0
                rw [(h_a0.int (k := .i8) (o := 0) (by kernel_rfl)).1, (h_a1.int (k := .i8) (o := 0) (by kernel_rfl)).1, num_eq h0]
              by_cases c1 : i = 1
              · subst c1
                rw [(h_a0.int (k := .i8) (o := 1) (by kernel_rfl)).1, (h_a1.int (k := .i8) (o := 1) (by kernel_rfl)).1, num_eq h1]
              by_cases c2 : i = 2
              · subst c2
                rw [(h_a0.int (k := .i64) (o := 2) (by kernel_rfl)).1, (h_a1.int (k := .i64) (o := 2) (by kernel_rfl)).1, num_eq h2]
              by_cases c3 : 3 ≤ i ∧ i < 3 + 36
              · exact part_cell (o := 3) (n := 36) (by omega) (by omega) (sameB_iff.1 h3) c3.1 c3.2
              by_cases c4 : i = 39
              · subst c4
                rw [(h_a0.int (k := .i64) (o := 39) (by kernel_rfl)).1, (h_a1.int (k := .i64) (o := 39) (by kernel_rfl)).1, num_eq h4]
              rw [Array.getElem?_eq_none (by omega), Array.getElem?_eq_none (by omega)]
            · rfl
        · rfl
      · rfl
    · rfl
  · rw [sameB_iff.1 hb]
    simp only [bne_self_eq_false, cond_false, sameB_self, Bool.not_true]
noncomputable def laws_eqSpread_con : Con := fun args h => match args, h with
  | [.g a0 32, .g a1 32], [] => some (.a (.b (sameB a0 a1)), .none, true)
  | _, _ => none
theorem laws_eqSpread_enter : EntX Try.prog 9 := entX_ok (fn := Try.f9) (by kernel_rfl) (by kernel_rfl) (by kernel_rfl)
theorem laws_eqSpread_ok : ConOkX mn Try.prog 9 laws_eqSpread_con := (ansX_ok (N := 1000) (by kernel_rfl) (mkΓ_consX (con_okX laws_eqInt64A36_ok) laws_eqInt64A36_enter mkΓ_nilX) (fn := Try.f9) (by kernel_rfl) (by kernel_rfl) []).of (by
  intro ρ h w args vals r e hA hH hr
  unfold laws_eqSpread_con at hr
  split at hr
  · rename_i a0 a1
    obtain ⟨rfl, hg⟩ := Prod.mk.inj (Option.some.inj hr)
    obtain ⟨rfl, hg2⟩ := Prod.mk.inj hg
    exact laws_eqSpread_main a0 a1 (hA.wt 0 rfl) (hA.wt 1 rfl) hg2
  · cases hr)
theorem bottles_eq (n hi : Int) : impl_hasBottles_v0 n hi = spec_l00In_v0 n 1 hi := by
  unfold impl_hasBottles_v0 spec_l00In_v0
  first | rfl | (cases decide (n ≥ 1) <;> rfl)
theorem wrap12 : ∀ k, k < 14 → IntKind.i64.wrap ((12 : Int) ^ k * 12) = 12 ^ (k + 1) := by decide
noncomputable def spec_l02Parts_e0 : Int × Int → LS
  | (y0_3, y0_4) => ([.a (.i .i64 (y0_3)), .a (.i .i64 (y0_4))], [])
noncomputable def spec_l02Parts_x0 : Int × Int → Exit × LS
  | t => ((.exit 0), spec_l02Parts_e0 t)
noncomputable def spec_l02Parts_g0 (P : Program) (a0 : Int) : Int × Int → Option (Stp (Int × Int) (Int × Int))
  | (y0_3, y0_4) => bif decide (y0_4 < a0) then (some (.more ((IntKind.i64.wrap (y0_3 * (12 : Int))), (IntKind.i64.wrap (y0_4 + (1 : Int))))))
    else (some (.done (y0_3, y0_4)))
theorem spec_l02Parts_s0 (N : Nat) (a0 : Int) : ∀ t : Int × Int, stepV Try.prog (mkΓ []) N (cAt (codeOf Try.f34) [1, 1, 0, 1, 0, 0]) (pAt (mkPlan (codeOf Try.f34) [([3, 4], [])]).1 [1, 1, 0, 1, 0]) [3, 4] [] (⟨.a (.i .i64 (a0)) :: .a (.u) :: .a (.i .i64 (0 : Int)) :: .a (.i .i64 (1 : Int)) :: .a (.i .i64 (0 : Int)) :: us 8 ([]), [], []⟩ : St) (spec_l02Parts_e0 t) = mapS spec_l02Parts_e0 spec_l02Parts_x0 (spec_l02Parts_g0 Try.prog a0 t) := by
  rintro ⟨y0_3, y0_4⟩
  refine Eq.trans (b := (bif decide (y0_4 < a0) then (some (.more ([.a (.i .i64 (IntKind.i64.wrap (y0_3 * (12 : Int)))), .a (.i .i64 (IntKind.i64.wrap (y0_4 + (1 : Int))))], [])))
    else (some (.done ((.exit 0), ([.a (.i .i64 (y0_3)), .a (.i .i64 (y0_4))], [])))))) (by kernel_rfl) ?_
  simp only [spec_l02Parts_g0, mapS_cond, mapS_more, mapS_done, mapS_none, spec_l02Parts_e0, spec_l02Parts_x0]
noncomputable def spec_l02Parts_k0_0 (P : Program) (N : Nat) (a0 : Int) (z0_3 : Int) (z0_4 : Int) : Option (SV × Eff × Bool) := some (.a (.i .i64 (z0_3)), .none, true)
theorem spec_l02Parts_k0_0_eq (N : Nat) (a0 : Int) (z0_3 : Int) (z0_4 : Int) : (kBlock 0 (kSeq (veC Try.prog (mkΓ []) N (cAt (codeOf Try.f34) [1, 1, 1]) (pAt (mkPlan (codeOf Try.f34) [([3, 4], [])]).1 [1, 1, 1]) (SV × Eff × Bool)) (finK Try.prog [] [.tmp 2]))) (.exit 0) (left (writes (cAt (codeOf Try.f34) [1, 1, 0, 1, 0, 0])) [3, 4] [] (⟨.a (.i .i64 (a0)) :: .a (.u) :: .a (.i .i64 (0 : Int)) :: .a (.i .i64 (1 : Int)) :: .a (.i .i64 (0 : Int)) :: us 8 ([]), [], []⟩ : St) ([.a (.i .i64 (z0_3)), .a (.i .i64 (z0_4))], [])) = spec_l02Parts_k0_0 Try.prog N a0 z0_3 z0_4 := by
  refine Eq.trans (b := (some (.a (.i .i64 (z0_3)), .none, true))) (by kernel_rfl) ?_
  rfl
theorem spec_l02Parts_n0 (N : Nat) (a0 : Int) : bindX (iterO (stepV Try.prog (mkΓ []) N (cAt (codeOf Try.f34) [1, 1, 0, 1, 0, 0]) (pAt (mkPlan (codeOf Try.f34) [([3, 4], [])]).1 [1, 1, 0, 1, 0]) [3, 4] [] (⟨.a (.i .i64 (a0)) :: .a (.u) :: .a (.i .i64 (0 : Int)) :: .a (.i .i64 (1 : Int)) :: .a (.i .i64 (0 : Int)) :: us 8 ([]), [], []⟩ : St)) N ([.a (.i .i64 (1 : Int)), .a (.i .i64 (0 : Int))], [])) (fun e s => (kBlock 0 (kSeq (veC Try.prog (mkΓ []) N (cAt (codeOf Try.f34) [1, 1, 1]) (pAt (mkPlan (codeOf Try.f34) [([3, 4], [])]).1 [1, 1, 1]) (SV × Eff × Bool)) (finK Try.prog [] [.tmp 2]))) e (left (writes (cAt (codeOf Try.f34) [1, 1, 0, 1, 0, 0])) [3, 4] [] (⟨.a (.i .i64 (a0)) :: .a (.u) :: .a (.i .i64 (0 : Int)) :: .a (.i .i64 (1 : Int)) :: .a (.i .i64 (0 : Int)) :: us 8 ([]), [], []⟩ : St) s)) = nodeX (iterO (spec_l02Parts_g0 Try.prog a0) N ((1 : Int), (0 : Int))) (fun x => spec_l02Parts_k0_0 Try.prog N a0 x.1 x.2) := by
  refine loop_node spec_l02Parts_e0 spec_l02Parts_x0 _ _ (spec_l02Parts_s0 N a0) N ((1 : Int), (0 : Int)) _ _ ?_
  intro x; exact spec_l02Parts_k0_0_eq N a0 x.1 x.2
theorem spec_l02Parts_ans (N : Nat) (a0 : Int) : ansV Try.prog (mkΓ []) N Try.f34 [([3, 4], [])] [.i .i64 (a0)] [] = (nodeX (iterO (spec_l02Parts_g0 Try.prog a0) N ((1 : Int), (0 : Int))) (fun x => spec_l02Parts_k0_0 Try.prog N a0 x.1 x.2)) := by
  refine Eq.trans (b := (bindX (iterO (stepV Try.prog (mkΓ []) N (cAt (codeOf Try.f34) [1, 1, 0, 1, 0, 0]) (pAt (mkPlan (codeOf Try.f34) [([3, 4], [])]).1 [1, 1, 0, 1, 0]) [3, 4] [] (⟨.a (.i .i64 (a0)) :: .a (.u) :: .a (.i .i64 (0 : Int)) :: .a (.i .i64 (1 : Int)) :: .a (.i .i64 (0 : Int)) :: us 8 ([]), [], []⟩ : St)) N ([.a (.i .i64 (1 : Int)), .a (.i .i64 (0 : Int))], [])) (fun e s => (kBlock 0 (kSeq (veC Try.prog (mkΓ []) N (cAt (codeOf Try.f34) [1, 1, 1]) (pAt (mkPlan (codeOf Try.f34) [([3, 4], [])]).1 [1, 1, 1]) (SV × Eff × Bool)) (finK Try.prog [] [.tmp 2]))) e (left (writes (cAt (codeOf Try.f34) [1, 1, 0, 1, 0, 0])) [3, 4] [] (⟨.a (.i .i64 (a0)) :: .a (.u) :: .a (.i .i64 (0 : Int)) :: .a (.i .i64 (1 : Int)) :: .a (.i .i64 (0 : Int)) :: us 8 ([]), [], []⟩ : St) s)))) (by kernel_rfl) ?_
  simp only [spec_l02Parts_n0 N a0]
theorem spec_l02Parts_main (a0 : Int) (h_a0 : IntKind.i64.min ≤ a0 ∧ a0 ≤ IntKind.i64.max) (hg : ((decide (0 ≤ a0) && decide (a0 ≤ 14))) = true) : ansV Try.prog (mkΓ []) 1000 Try.f34 [([3, 4], [])] [.i .i64 (a0)] [] = some (.a (.i .i64 (12 ^ a0.toNat)), .none, true) := by
  simp only [Bool.and_eq_true, decide_eq_true_eq] at hg
  obtain ⟨h0, h14⟩ := hg
  obtain ⟨m, rfl⟩ := Int.eq_ofNat_of_zero_le h0
  refine (spec_l02Parts_ans 1000 _).trans ?_
  have h := iter_all (g := spec_l02Parts_g0 Try.prog (m : Int)) (fun k => ((12 : Int) ^ k, (k : Int))) (m := m) (x := ((12 : Int) ^ m, (m : Int))) (N := 1000) (fun k hk => by
    have h1 : decide ((k : Int) < (m : Int)) = true := decide_eq_true (by omega)
    have h2 : IntKind.i64.wrap ((k : Int) + 1) = ((k + 1 : Nat) : Int) := by rw [IntWalk.i64_in _ (by omega)]; omega
    simp only [spec_l02Parts_g0, h1, cond_true, wrap12 k (by omega), h2]) (by
    have h1 : decide ((m : Int) < (m : Int)) = false := decide_eq_false (by omega)
    simp only [spec_l02Parts_g0, h1, cond_false]) (by omega)
  have h' : iterO (spec_l02Parts_g0 Try.prog (m : Int)) 1000 ((1 : Int), (0 : Int)) = some ((12 : Int) ^ m, (m : Int)) := h
  rw [h']
  rfl
noncomputable def spec_l02Parts_con : Con := fun args h => match args, h with
  | [.i .i64 a0], [] => some (.a (.i .i64 (12 ^ a0.toNat)), .none, (decide (0 ≤ a0) && decide (a0 ≤ 14)))
  | _, _ => none
theorem spec_l02Parts_enter : EntX Try.prog 34 := entX_ok (fn := Try.f34) (by kernel_rfl) (by kernel_rfl) (by kernel_rfl)
theorem spec_l02Parts_ok : ConOkX mn Try.prog 34 spec_l02Parts_con := (ansX_ok (N := 1000) (by kernel_rfl) mkΓ_nilX (fn := Try.f34) (by kernel_rfl) (by kernel_rfl) [([3, 4], [])]).of (by
  intro ρ h w args vals r e hA hH hr
  unfold spec_l02Parts_con at hr
  split at hr
  · rename_i a0
    obtain ⟨rfl, hg⟩ := Prod.mk.inj (Option.some.inj hr)
    obtain ⟨rfl, hg2⟩ := Prod.mk.inj hg
    exact spec_l02Parts_main a0 (hA.rng 0 rfl) hg2
  · cases hr)
noncomputable def impl_partsAfter_e0 : Int × Int → LS
  | (y0_3, y0_5) => ([.a (.i .i64 (y0_3)), .a (.i .i64 (y0_5))], [])
noncomputable def impl_partsAfter_x0 : Int × Int → Exit × LS
  | t => ((.exit 0), impl_partsAfter_e0 t)
noncomputable def impl_partsAfter_g0 (P : Program) (a0 : Int) : Int × Int → Option (Stp (Int × Int) (Int × Int))
  | (y0_3, y0_5) => bif decide (y0_5 < a0) then (some (.more ((IntKind.i64.wrap (y0_3 * (12 : Int))), (IntKind.i64.wrap (y0_5 + (1 : Int))))))
    else (some (.done (y0_3, y0_5)))
theorem impl_partsAfter_s0 (N : Nat) (a0 : Int) : ∀ t : Int × Int, stepV Try.prog (mkΓ []) N (cAt (codeOf Try.f56) [1, 1, 0, 1, 0, 0]) (pAt (mkPlan (codeOf Try.f56) [([3, 5], [])]).1 [1, 1, 0, 1, 0]) [3, 5] [] (⟨.a (.i .i64 (a0)) :: .a (.u) :: .a (.i .i64 (0 : Int)) :: .a (.i .i64 (1 : Int)) :: .a (.i .i64 (a0)) :: .a (.i .i64 (0 : Int)) :: us 5 ([]), [], []⟩ : St) (impl_partsAfter_e0 t) = mapS impl_partsAfter_e0 impl_partsAfter_x0 (impl_partsAfter_g0 Try.prog a0 t) := by
  rintro ⟨y0_3, y0_5⟩
  refine Eq.trans (b := (bif decide (y0_5 < a0) then (some (.more ([.a (.i .i64 (IntKind.i64.wrap (y0_3 * (12 : Int)))), .a (.i .i64 (IntKind.i64.wrap (y0_5 + (1 : Int))))], [])))
    else (some (.done ((.exit 0), ([.a (.i .i64 (y0_3)), .a (.i .i64 (y0_5))], [])))))) (by kernel_rfl) ?_
  simp only [impl_partsAfter_g0, mapS_cond, mapS_more, mapS_done, mapS_none, impl_partsAfter_e0, impl_partsAfter_x0]
noncomputable def impl_partsAfter_k0_0 (P : Program) (N : Nat) (a0 : Int) (z0_3 : Int) (z0_5 : Int) : Option (SV × Eff × Bool) := some (.a (.i .i64 (z0_3)), .none, true)
theorem impl_partsAfter_k0_0_eq (N : Nat) (a0 : Int) (z0_3 : Int) (z0_5 : Int) : (kBlock 0 (kSeq (veC Try.prog (mkΓ []) N (cAt (codeOf Try.f56) [1, 1, 1]) (pAt (mkPlan (codeOf Try.f56) [([3, 5], [])]).1 [1, 1, 1]) (SV × Eff × Bool)) (finK Try.prog [] [.tmp 2]))) (.exit 0) (left (writes (cAt (codeOf Try.f56) [1, 1, 0, 1, 0, 0])) [3, 5] [] (⟨.a (.i .i64 (a0)) :: .a (.u) :: .a (.i .i64 (0 : Int)) :: .a (.i .i64 (1 : Int)) :: .a (.i .i64 (a0)) :: .a (.i .i64 (0 : Int)) :: us 5 ([]), [], []⟩ : St) ([.a (.i .i64 (z0_3)), .a (.i .i64 (z0_5))], [])) = impl_partsAfter_k0_0 Try.prog N a0 z0_3 z0_5 := by
  refine Eq.trans (b := (some (.a (.i .i64 (z0_3)), .none, true))) (by kernel_rfl) ?_
  rfl
theorem impl_partsAfter_n0 (N : Nat) (a0 : Int) : bindX (iterO (stepV Try.prog (mkΓ []) N (cAt (codeOf Try.f56) [1, 1, 0, 1, 0, 0]) (pAt (mkPlan (codeOf Try.f56) [([3, 5], [])]).1 [1, 1, 0, 1, 0]) [3, 5] [] (⟨.a (.i .i64 (a0)) :: .a (.u) :: .a (.i .i64 (0 : Int)) :: .a (.i .i64 (1 : Int)) :: .a (.i .i64 (a0)) :: .a (.i .i64 (0 : Int)) :: us 5 ([]), [], []⟩ : St)) N ([.a (.i .i64 (1 : Int)), .a (.i .i64 (0 : Int))], [])) (fun e s => (kBlock 0 (kSeq (veC Try.prog (mkΓ []) N (cAt (codeOf Try.f56) [1, 1, 1]) (pAt (mkPlan (codeOf Try.f56) [([3, 5], [])]).1 [1, 1, 1]) (SV × Eff × Bool)) (finK Try.prog [] [.tmp 2]))) e (left (writes (cAt (codeOf Try.f56) [1, 1, 0, 1, 0, 0])) [3, 5] [] (⟨.a (.i .i64 (a0)) :: .a (.u) :: .a (.i .i64 (0 : Int)) :: .a (.i .i64 (1 : Int)) :: .a (.i .i64 (a0)) :: .a (.i .i64 (0 : Int)) :: us 5 ([]), [], []⟩ : St) s)) = nodeX (iterO (impl_partsAfter_g0 Try.prog a0) N ((1 : Int), (0 : Int))) (fun x => impl_partsAfter_k0_0 Try.prog N a0 x.1 x.2) := by
  refine loop_node impl_partsAfter_e0 impl_partsAfter_x0 _ _ (impl_partsAfter_s0 N a0) N ((1 : Int), (0 : Int)) _ _ ?_
  intro x; exact impl_partsAfter_k0_0_eq N a0 x.1 x.2
theorem impl_partsAfter_ans (N : Nat) (a0 : Int) : ansV Try.prog (mkΓ []) N Try.f56 [([3, 5], [])] [.i .i64 (a0)] [] = (nodeX (iterO (impl_partsAfter_g0 Try.prog a0) N ((1 : Int), (0 : Int))) (fun x => impl_partsAfter_k0_0 Try.prog N a0 x.1 x.2)) := by
  refine Eq.trans (b := (bindX (iterO (stepV Try.prog (mkΓ []) N (cAt (codeOf Try.f56) [1, 1, 0, 1, 0, 0]) (pAt (mkPlan (codeOf Try.f56) [([3, 5], [])]).1 [1, 1, 0, 1, 0]) [3, 5] [] (⟨.a (.i .i64 (a0)) :: .a (.u) :: .a (.i .i64 (0 : Int)) :: .a (.i .i64 (1 : Int)) :: .a (.i .i64 (a0)) :: .a (.i .i64 (0 : Int)) :: us 5 ([]), [], []⟩ : St)) N ([.a (.i .i64 (1 : Int)), .a (.i .i64 (0 : Int))], [])) (fun e s => (kBlock 0 (kSeq (veC Try.prog (mkΓ []) N (cAt (codeOf Try.f56) [1, 1, 1]) (pAt (mkPlan (codeOf Try.f56) [([3, 5], [])]).1 [1, 1, 1]) (SV × Eff × Bool)) (finK Try.prog [] [.tmp 2]))) e (left (writes (cAt (codeOf Try.f56) [1, 1, 0, 1, 0, 0])) [3, 5] [] (⟨.a (.i .i64 (a0)) :: .a (.u) :: .a (.i .i64 (0 : Int)) :: .a (.i .i64 (1 : Int)) :: .a (.i .i64 (a0)) :: .a (.i .i64 (0 : Int)) :: us 5 ([]), [], []⟩ : St) s)))) (by kernel_rfl) ?_
  simp only [impl_partsAfter_n0 N a0]
theorem impl_partsAfter_main (a0 : Int) (h_a0 : IntKind.i64.min ≤ a0 ∧ a0 ≤ IntKind.i64.max) (hg : ((decide (0 ≤ a0) && decide (a0 ≤ 14))) = true) : ansV Try.prog (mkΓ []) 1000 Try.f56 [([3, 5], [])] [.i .i64 (a0)] [] = some (.a (.i .i64 (12 ^ a0.toNat)), .none, true) := by
  simp only [Bool.and_eq_true, decide_eq_true_eq] at hg
  obtain ⟨h0, h14⟩ := hg
  obtain ⟨m, rfl⟩ := Int.eq_ofNat_of_zero_le h0
  refine (impl_partsAfter_ans 1000 _).trans ?_
  have h := iter_all (g := impl_partsAfter_g0 Try.prog (m : Int)) (fun k => ((12 : Int) ^ k, (k : Int))) (m := m) (x := ((12 : Int) ^ m, (m : Int))) (N := 1000) (fun k hk => by
    have h1 : decide ((k : Int) < (m : Int)) = true := decide_eq_true (by omega)
    have h2 : IntKind.i64.wrap ((k : Int) + 1) = ((k + 1 : Nat) : Int) := by rw [IntWalk.i64_in _ (by omega)]; omega
    simp only [impl_partsAfter_g0, h1, cond_true, wrap12 k (by omega), h2]) (by
    have h1 : decide ((m : Int) < (m : Int)) = false := decide_eq_false (by omega)
    simp only [impl_partsAfter_g0, h1, cond_false]) (by omega)
  have h' : iterO (impl_partsAfter_g0 Try.prog (m : Int)) 1000 ((1 : Int), (0 : Int)) = some ((12 : Int) ^ m, (m : Int)) := h
  rw [h']
  rfl
noncomputable def impl_partsAfter_con : Con := fun args h => match args, h with
  | [.i .i64 a0], [] => some (.a (.i .i64 (12 ^ a0.toNat)), .none, (decide (0 ≤ a0) && decide (a0 ≤ 14)))
  | _, _ => none
theorem impl_partsAfter_enter : EntX Try.prog 56 := entX_ok (fn := Try.f56) (by kernel_rfl) (by kernel_rfl) (by kernel_rfl)
theorem impl_partsAfter_ok : ConOkX mn Try.prog 56 impl_partsAfter_con := (ansX_ok (N := 1000) (by kernel_rfl) mkΓ_nilX (fn := Try.f56) (by kernel_rfl) (by kernel_rfl) [([3, 5], [])]).of (by
  intro ρ h w args vals r e hA hH hr
  unfold impl_partsAfter_con at hr
  split at hr
  · rename_i a0
    obtain ⟨rfl, hg⟩ := Prod.mk.inj (Option.some.inj hr)
    obtain ⟨rfl, hg2⟩ := Prod.mk.inj hg
    exact impl_partsAfter_main a0 (hA.rng 0 rfl) hg2
  · cases hr)
theorem impl_allOf_ans (N : Nat) (a0 : Array Value) : ansV Try.prog (mkΓ [(56, con impl_partsAfter_con)]) N Try.f47 [] [.g a0 32] [] = (bif (decide (0 ≤ (IntKind.i64.wrap (num a0 1))) && decide ((IntKind.i64.wrap (num a0 1)) ≤ 14)) then (some (.a (.i .i64 (IntKind.i64.wrap ((num a0 2) * (12 ^ (IntKind.i64.wrap (num a0 1)).toNat)))), .none, true))
    else (none)) := by kernel_rfl
noncomputable def impl_allOf_v0 (a0 : Array Value) : Int := (IntKind.i64.wrap ((num a0 2) * (12 ^ (IntKind.i64.wrap (num a0 1)).toNat)))
noncomputable def impl_allOf_gd (a0 : Array Value) : Bool := (decide (0 ≤ (IntKind.i64.wrap (num a0 1))) && decide ((IntKind.i64.wrap (num a0 1)) ≤ 14))
theorem impl_allOf_main (a0 : Array Value) (h_a0 : WT Try.prog 32 a0) (hg : ((impl_allOf_gd a0)) = true) : ansV Try.prog (mkΓ [(56, con impl_partsAfter_con)]) 1000 Try.f47 [] [.g a0 32] [] = some (.a (.i .i64 (impl_allOf_v0 a0)), .none, true) := by
  refine (impl_allOf_ans 1000 a0).trans ?_
  unfold impl_allOf_gd at hg
  unfold impl_allOf_v0
  revert hg
  generalize (decide (0 ≤ (IntKind.i64.wrap (num a0 1)))) = b2
  intro hg
  cases b2
  · skip
    first | exact (nomatch (hg : false = true)) | (simp only [cond_true, cond_false, Bool.and_true, Bool.true_and, Bool.and_false, Bool.false_and]; done) | rfl
  · skip
    revert hg
    generalize (decide ((IntKind.i64.wrap (num a0 1)) ≤ 14)) = b4
    intro hg
    cases b4
    · skip
      first | exact (nomatch (hg : false = true)) | (simp only [cond_true, cond_false, Bool.and_true, Bool.true_and, Bool.and_false, Bool.false_and]; done) | rfl
    · skip
      first | (simp only [cond_true, cond_false, Bool.and_true, Bool.true_and, Bool.and_false, Bool.false_and]; done) | rfl | exact (nomatch (hg : false = true))
noncomputable def impl_allOf_con : Con := fun args h => match args, h with
  | [.g a0 32], [] => some (.a (.i .i64 (impl_allOf_v0 a0)), .none, (impl_allOf_gd a0))
  | _, _ => none
theorem impl_allOf_enter : EntX Try.prog 47 := entX_ok (fn := Try.f47) (by kernel_rfl) (by kernel_rfl) (by kernel_rfl)
theorem impl_allOf_ok : ConOkX mn Try.prog 47 impl_allOf_con := (ansX_ok (N := 1000) (by kernel_rfl) (mkΓ_consX (con_okX impl_partsAfter_ok) impl_partsAfter_enter mkΓ_nilX) (fn := Try.f47) (by kernel_rfl) (by kernel_rfl) []).of (by
  intro ρ h w args vals r e hA hH hr
  unfold impl_allOf_con at hr
  split at hr
  · rename_i a0
    obtain ⟨rfl, hg⟩ := Prod.mk.inj (Option.some.inj hr)
    obtain ⟨rfl, hg2⟩ := Prod.mk.inj hg
    exact impl_allOf_main a0 (hA.wt 0 rfl) hg2
  · cases hr)
theorem impl_hasHours_ans (N : Nat) (a0 : Int) : ansV Try.prog (mkΓ []) N Try.f20 [] [.i .i64 (a0)] [] = (bif decide (a0 ≥ (0 : Int)) then (some (.a (.b (decide (a0 ≤ (14 : Int)))), .none, true))
    else (some (.a (.b (false)), .none, true))) := by kernel_rfl
noncomputable def impl_hasHours_v0 (a0 : Int) : Bool := (bif decide (a0 ≥ (0 : Int)) then decide (a0 ≤ (14 : Int)) else false)
theorem impl_hasHours_main (a0 : Int) (h_a0 : IntKind.i64.min ≤ a0 ∧ a0 ≤ IntKind.i64.max) (hg : (true) = true) : ansV Try.prog (mkΓ []) 1000 Try.f20 [] [.i .i64 (a0)] [] = some (.a (.b ((impl_hasHours_v0 a0))), .none, true) := by
  refine (impl_hasHours_ans 1000 a0).trans ?_
  unfold impl_hasHours_v0
  revert hg
  generalize (decide (a0 ≥ (0 : Int))) = b2
  intro hg
  cases b2
  · skip
    first | (simp only [cond_true, cond_false, Bool.and_true, Bool.true_and, Bool.and_false, Bool.false_and]; done) | rfl | exact (nomatch (hg : false = true))
  · skip
    first | (simp only [cond_true, cond_false, Bool.and_true, Bool.true_and, Bool.and_false, Bool.false_and]; done) | rfl | exact (nomatch (hg : false = true))
noncomputable def impl_hasHours_con : Con := fun args h => match args, h with
  | [.i .i64 a0], [] => some (.a (.b ((impl_hasHours_v0 a0))), .none, true)
  | _, _ => none
theorem impl_hasHours_enter : EntX Try.prog 20 := entX_ok (fn := Try.f20) (by kernel_rfl) (by kernel_rfl) (by kernel_rfl)
theorem impl_hasHours_ok : ConOkX mn Try.prog 20 impl_hasHours_con := (ansX_ok (N := 1000) (by kernel_rfl) mkΓ_nilX (fn := Try.f20) (by kernel_rfl) (by kernel_rfl) []).of (by
  intro ρ h w args vals r e hA hH hr
  unfold impl_hasHours_con at hr
  split at hr
  · rename_i a0
    obtain ⟨rfl, hg⟩ := Prod.mk.inj (Option.some.inj hr)
    obtain ⟨rfl, hg2⟩ := Prod.mk.inj hg
    exact impl_hasHours_main a0 (hA.rng 0 rfl) hg2
  · cases hr)
noncomputable def leftW (X : Int) (D : Array Value) : Nat → Int
  | 0 => X
  | k + 1 => IntKind.i64.wrap (leftW X D k - num D (3 + k * 1))
noncomputable def allB (p : Nat → Bool) : Bool := (List.range 36).all p
theorem allB_iff (p : Nat → Bool) : allB p = true ↔ ∀ k, k < 36 → p k = true := by
  unfold allB; rw [List.all_eq_true]
  exact ⟨fun h k hk => h k (List.mem_range.2 hk), fun h k hk => h k (List.mem_range.1 hk)⟩
noncomputable def pS (S D : Array Value) (X : Int) (k : Nat) : Bool := spec_l00In_v0 (num D (3 + k * 1)) 0 (leftW X D k) && (!(num D (3 + k * 1) != 0) || spec_l01Is_v0 (k : Int) S)
noncomputable def pI (S D : Array Value) (X : Int) (k : Nat) : Bool := !(decide (num D (3 + k * 1) < 0)) && (!(decide (num D (3 + k * 1) > leftW X D k)) && (!(decide (num D (3 + k * 1) > 0)) || impl_hasCell_v0 S (k : Int)))
noncomputable def allW (D : Array Value) : Int := IntKind.i64.wrap ((num D 2) * (12 ^ (IntKind.i64.wrap (num D 1)).toNat))
noncomputable def specSp (S D : Array Value) : Bool := bif (!(spec_l00In_v0 (IntKind.i64.wrap (num D 0)) 0 1)) then false else bif (!(spec_l00In_v0 (IntKind.i64.wrap (num D 1)) 0 14)) then false else bif (!(spec_l00In_v0 (num D 2) 1 1000)) then false else bif (!(spec_l00In_v0 (num D 39) 0 (allW D))) then false else (allB (pS S D (IntKind.i64.wrap (allW D - num D 39))) && (leftW (IntKind.i64.wrap (allW D - num D 39)) D 36 == 0))
noncomputable def implSp (S D : Array Value) : Bool := allB (pI S D (allW D)) && (num D 39 == leftW (allW D) D 36)
theorem in_range {x a b : Int} (h : spec_l00In_v0 x a b = true) : a ≤ x ∧ x ≤ b := by
  unfold spec_l00In_v0 at h
  cases h0 : decide (x ≥ a) with
  | false => rw [h0] at h; exact nomatch h
  | true => rw [h0] at h; exact ⟨of_decide_eq_true h0, of_decide_eq_true h⟩
theorem in_of {x a b : Int} (h : a ≤ x ∧ x ≤ b) : spec_l00In_v0 x a b = true := by
  unfold spec_l00In_v0; rw [decide_eq_true (show x ≥ a from h.1), decide_eq_true h.2]; rfl
theorem cell_num {D : Array Value} {T : TypeId} (hz : D.size = 40) (k : Nat) (hk : k < 36) : num (D.extract 3 (3 + 36)) (k * 1) = num D (3 + k * 1) := by
  unfold num
  rw [Array.getElem?_extract, if_pos (by omega)]
noncomputable def spec_l02Ok_e0 : Bool × Int × Int → LS
  | (y0_4, y0_5, y0_6) => ([.a (.b (y0_4)), .a (.i .i64 (y0_5)), .a (.i .i64 (y0_6))], [])
noncomputable def spec_l02Ok_x0 : (Stp (Bool × Int × Int) (Bool × Int × Int)) → Exit × LS
  | .more t => (.ret, spec_l02Ok_e0 t)
  | .done t => ((.exit 0), spec_l02Ok_e0 t)
noncomputable def spec_l02Ok_g0 (P : Program) (a0 : Array Value) (a1 : Array Value) : Bool × Int × Int → Option (Stp (Bool × Int × Int) (Stp (Bool × Int × Int) (Bool × Int × Int)))
  | (y0_4, y0_5, y0_6) => bif decide (y0_6 < (36 : Int)) then (bif (decide (0 ≤ y0_6) && decide (y0_6 < 36)) then (bif (!((spec_l00In_v0 (num a1 (3 + ((y0_6).toNat * 1))) (0 : Int) y0_5))) then (some (.done (.more (false, y0_5, y0_6))))
        else (bif (decide (0 ≤ y0_6) && decide (y0_6 < 36)) then (bif ((num a1 (3 + ((y0_6).toNat * 1))) != (0 : Int)) then (bif (!((spec_l01Is_v0 y0_6 a0))) then (some (.done (.more (false, y0_5, y0_6))))
              else (bif (decide (0 ≤ y0_6) && decide (y0_6 < 36)) then (some (.more (y0_4, (IntKind.i64.wrap (y0_5 - (num a1 (3 + ((y0_6).toNat * 1))))), (IntKind.i64.wrap (y0_6 + (1 : Int))))))
                else (none)))
            else (bif (decide (0 ≤ y0_6) && decide (y0_6 < 36)) then (some (.more (y0_4, (IntKind.i64.wrap (y0_5 - (num a1 (3 + ((y0_6).toNat * 1))))), (IntKind.i64.wrap (y0_6 + (1 : Int))))))
              else (none)))
          else (none)))
      else (none))
    else (some (.done (.done (y0_4, y0_5, y0_6))))
theorem spec_l02Ok_s0 (N : Nat) (a0 : Array Value) (a1 : Array Value) : ∀ t : Bool × Int × Int, stepV Try.prog (mkΓ [(17, con spec_l00In_con), (33, con spec_l01Tide_con), (34, con spec_l02Parts_con), (35, con spec_l01Is_con)]) N (cAt (codeOf Try.f23) [1, 1, 1, 1, 1, 0, 1, 0, 0]) (pAt (mkPlan (codeOf Try.f23) [([4, 5, 6], [])]).1 [1, 1, 1, 1, 1, 0, 1, 0]) [4, 5, 6] [] (⟨.a (.w 0) :: .a (.w 1) :: .a (.u) :: .a (.u) :: .a (.b (false)) :: .a (.i .i64 (IntKind.i64.wrap ((IntKind.i64.wrap ((num a1 2) * (12 ^ (IntKind.i64.wrap (num a1 1)).toNat))) - (num a1 39)))) :: .a (.i .i64 (0 : Int)) :: .a (.w 1) :: .a (.w 1) :: .a (.p 1 (0) 22) :: .a (.i .i8 (num a1 0)) :: .a (.i .i64 (IntKind.i64.wrap (num a1 0))) :: .a (.b ((spec_l00In_v0 (IntKind.i64.wrap (num a1 0)) (0 : Int) (1 : Int)))) :: .a (.b ((!((spec_l00In_v0 (IntKind.i64.wrap (num a1 0)) (0 : Int) (1 : Int)))))) :: .a (.b (false)) :: .a (.w 1) :: .a (.w 1) :: .a (.p 1 (1) 22) :: .a (.i .i8 (num a1 1)) :: .a (.i .i64 (IntKind.i64.wrap (num a1 1))) :: .a (.b ((spec_l00In_v0 (IntKind.i64.wrap (num a1 1)) (0 : Int) (14 : Int)))) :: .a (.b ((!((spec_l00In_v0 (IntKind.i64.wrap (num a1 1)) (0 : Int) (14 : Int)))))) :: .a (.b ((!((spec_l00In_v0 (IntKind.i64.wrap (num a1 1)) (0 : Int) (14 : Int)))))) :: .a (.b (false)) :: .a (.w 1) :: .a (.w 1) :: .a (.p 1 (2) 2) :: .a (.i .i64 (num a1 2)) :: .a (.b ((spec_l00In_v0 (num a1 2) (1 : Int) (1000 : Int)))) :: .a (.b ((!((spec_l00In_v0 (num a1 2) (1 : Int) (1000 : Int)))))) :: .a (.b ((!((spec_l00In_v0 (num a1 2) (1 : Int) (1000 : Int)))))) :: .a (.w 1) :: .a (.w 1) :: .a (.p 1 (2) 2) :: .a (.i .i64 (num a1 2)) :: .a (.w 1) :: .a (.w 1) :: .a (.p 1 (1) 22) :: .a (.i .i8 (num a1 1)) :: .a (.i .i64 (IntKind.i64.wrap (num a1 1))) :: .a (.i .i64 (12 ^ (IntKind.i64.wrap (num a1 1)).toNat)) :: .a (.i .i64 (IntKind.i64.wrap ((num a1 2) * (12 ^ (IntKind.i64.wrap (num a1 1)).toNat)))) :: .a (.w 1) :: .a (.w 1) :: .a (.p 1 (39) 2) :: .a (.i .i64 (num a1 39)) :: .a (.i .i64 (IntKind.i64.wrap ((num a1 2) * (12 ^ (IntKind.i64.wrap (num a1 1)).toNat)))) :: .a (.b ((spec_l00In_v0 (num a1 39) (0 : Int) (IntKind.i64.wrap ((num a1 2) * (12 ^ (IntKind.i64.wrap (num a1 1)).toNat)))))) :: .a (.b ((!((spec_l00In_v0 (num a1 39) (0 : Int) (IntKind.i64.wrap ((num a1 2) * (12 ^ (IntKind.i64.wrap (num a1 1)).toNat)))))))) :: .a (.i .i64 (IntKind.i64.wrap ((num a1 2) * (12 ^ (IntKind.i64.wrap (num a1 1)).toNat)))) :: .a (.w 1) :: .a (.w 1) :: .a (.p 1 (39) 2) :: .a (.i .i64 (num a1 39)) :: .a (.i .i64 (IntKind.i64.wrap ((IntKind.i64.wrap ((num a1 2) * (12 ^ (IntKind.i64.wrap (num a1 1)).toNat))) - (num a1 39)))) :: us 38 ([]), [.row a0 39, .row a1 32, .no, .no, .no, .no, .no, .no, .no, .no, .no, .no, .no, .no], []⟩ : St) (spec_l02Ok_e0 t) = mapS spec_l02Ok_e0 spec_l02Ok_x0 (spec_l02Ok_g0 Try.prog a0 a1 t) := by
  rintro ⟨y0_4, y0_5, y0_6⟩
  refine Eq.trans (b := (bif decide (y0_6 < (36 : Int)) then (bif (decide (0 ≤ y0_6) && decide (y0_6 < 36)) then (bif (!((spec_l00In_v0 (num a1 (3 + ((y0_6).toNat * 1))) (0 : Int) y0_5))) then (some (.done (.ret, ([.a (.b (false)), .a (.i .i64 (y0_5)), .a (.i .i64 (y0_6))], []))))
        else (bif (decide (0 ≤ y0_6) && decide (y0_6 < 36)) then (bif ((num a1 (3 + ((y0_6).toNat * 1))) != (0 : Int)) then (bif (!((spec_l01Is_v0 y0_6 a0))) then (some (.done (.ret, ([.a (.b (false)), .a (.i .i64 (y0_5)), .a (.i .i64 (y0_6))], []))))
              else (bif (decide (0 ≤ y0_6) && decide (y0_6 < 36)) then (some (.more ([.a (.b (y0_4)), .a (.i .i64 (IntKind.i64.wrap (y0_5 - (num a1 (3 + ((y0_6).toNat * 1)))))), .a (.i .i64 (IntKind.i64.wrap (y0_6 + (1 : Int))))], [])))
                else (none)))
            else (bif (decide (0 ≤ y0_6) && decide (y0_6 < 36)) then (some (.more ([.a (.b (y0_4)), .a (.i .i64 (IntKind.i64.wrap (y0_5 - (num a1 (3 + ((y0_6).toNat * 1)))))), .a (.i .i64 (IntKind.i64.wrap (y0_6 + (1 : Int))))], [])))
              else (none)))
          else (none)))
      else (none))
    else (some (.done ((.exit 0), ([.a (.b (y0_4)), .a (.i .i64 (y0_5)), .a (.i .i64 (y0_6))], [])))))) (by kernel_rfl) ?_
  simp only [spec_l02Ok_g0, mapS_cond, mapS_more, mapS_done, mapS_none, spec_l02Ok_e0, spec_l02Ok_x0]
noncomputable def spec_l02Ok_k0_0 (P : Program) (N : Nat) (a0 : Array Value) (a1 : Array Value) (z0_4 : Bool) (z0_5 : Int) (z0_6 : Int) : Option (SV × Eff × Bool) := some (.a (.b (z0_4)), .none, true)
theorem spec_l02Ok_k0_0_eq (N : Nat) (a0 : Array Value) (a1 : Array Value) (z0_4 : Bool) (z0_5 : Int) (z0_6 : Int) : (kBlock 0 (kSeq (veC Try.prog (mkΓ [(17, con spec_l00In_con), (33, con spec_l01Tide_con), (34, con spec_l02Parts_con), (35, con spec_l01Is_con)]) N (cAt (codeOf Try.f23) [1, 1, 1, 1, 1, 1]) (pAt (mkPlan (codeOf Try.f23) [([4, 5, 6], [])]).1 [1, 1, 1, 1, 1, 1]) (SV × Eff × Bool)) (finK Try.prog [.row a0 39, .row a1 32] [.tmp 4]))) .ret (left (writes (cAt (codeOf Try.f23) [1, 1, 1, 1, 1, 0, 1, 0, 0])) [4, 5, 6] [] (⟨.a (.w 0) :: .a (.w 1) :: .a (.u) :: .a (.u) :: .a (.b (false)) :: .a (.i .i64 (IntKind.i64.wrap ((IntKind.i64.wrap ((num a1 2) * (12 ^ (IntKind.i64.wrap (num a1 1)).toNat))) - (num a1 39)))) :: .a (.i .i64 (0 : Int)) :: .a (.w 1) :: .a (.w 1) :: .a (.p 1 (0) 22) :: .a (.i .i8 (num a1 0)) :: .a (.i .i64 (IntKind.i64.wrap (num a1 0))) :: .a (.b ((spec_l00In_v0 (IntKind.i64.wrap (num a1 0)) (0 : Int) (1 : Int)))) :: .a (.b ((!((spec_l00In_v0 (IntKind.i64.wrap (num a1 0)) (0 : Int) (1 : Int)))))) :: .a (.b (false)) :: .a (.w 1) :: .a (.w 1) :: .a (.p 1 (1) 22) :: .a (.i .i8 (num a1 1)) :: .a (.i .i64 (IntKind.i64.wrap (num a1 1))) :: .a (.b ((spec_l00In_v0 (IntKind.i64.wrap (num a1 1)) (0 : Int) (14 : Int)))) :: .a (.b ((!((spec_l00In_v0 (IntKind.i64.wrap (num a1 1)) (0 : Int) (14 : Int)))))) :: .a (.b ((!((spec_l00In_v0 (IntKind.i64.wrap (num a1 1)) (0 : Int) (14 : Int)))))) :: .a (.b (false)) :: .a (.w 1) :: .a (.w 1) :: .a (.p 1 (2) 2) :: .a (.i .i64 (num a1 2)) :: .a (.b ((spec_l00In_v0 (num a1 2) (1 : Int) (1000 : Int)))) :: .a (.b ((!((spec_l00In_v0 (num a1 2) (1 : Int) (1000 : Int)))))) :: .a (.b ((!((spec_l00In_v0 (num a1 2) (1 : Int) (1000 : Int)))))) :: .a (.w 1) :: .a (.w 1) :: .a (.p 1 (2) 2) :: .a (.i .i64 (num a1 2)) :: .a (.w 1) :: .a (.w 1) :: .a (.p 1 (1) 22) :: .a (.i .i8 (num a1 1)) :: .a (.i .i64 (IntKind.i64.wrap (num a1 1))) :: .a (.i .i64 (12 ^ (IntKind.i64.wrap (num a1 1)).toNat)) :: .a (.i .i64 (IntKind.i64.wrap ((num a1 2) * (12 ^ (IntKind.i64.wrap (num a1 1)).toNat)))) :: .a (.w 1) :: .a (.w 1) :: .a (.p 1 (39) 2) :: .a (.i .i64 (num a1 39)) :: .a (.i .i64 (IntKind.i64.wrap ((num a1 2) * (12 ^ (IntKind.i64.wrap (num a1 1)).toNat)))) :: .a (.b ((spec_l00In_v0 (num a1 39) (0 : Int) (IntKind.i64.wrap ((num a1 2) * (12 ^ (IntKind.i64.wrap (num a1 1)).toNat)))))) :: .a (.b ((!((spec_l00In_v0 (num a1 39) (0 : Int) (IntKind.i64.wrap ((num a1 2) * (12 ^ (IntKind.i64.wrap (num a1 1)).toNat)))))))) :: .a (.i .i64 (IntKind.i64.wrap ((num a1 2) * (12 ^ (IntKind.i64.wrap (num a1 1)).toNat)))) :: .a (.w 1) :: .a (.w 1) :: .a (.p 1 (39) 2) :: .a (.i .i64 (num a1 39)) :: .a (.i .i64 (IntKind.i64.wrap ((IntKind.i64.wrap ((num a1 2) * (12 ^ (IntKind.i64.wrap (num a1 1)).toNat))) - (num a1 39)))) :: us 38 ([]), [.row a0 39, .row a1 32, .no, .no, .no, .no, .no, .no, .no, .no, .no, .no, .no, .no], []⟩ : St) ([.a (.b (z0_4)), .a (.i .i64 (z0_5)), .a (.i .i64 (z0_6))], [])) = spec_l02Ok_k0_0 Try.prog N a0 a1 z0_4 z0_5 z0_6 := by
  refine Eq.trans (b := (some (.a (.b (z0_4)), .none, true))) (by kernel_rfl) ?_
  rfl
noncomputable def spec_l02Ok_k0_1 (P : Program) (N : Nat) (a0 : Array Value) (a1 : Array Value) (z0_4 : Bool) (z0_5 : Int) (z0_6 : Int) : Option (SV × Eff × Bool) := some (.a (.b ((z0_5 == (0 : Int)))), .none, true)
theorem spec_l02Ok_k0_1_eq (N : Nat) (a0 : Array Value) (a1 : Array Value) (z0_4 : Bool) (z0_5 : Int) (z0_6 : Int) : (kBlock 0 (kSeq (veC Try.prog (mkΓ [(17, con spec_l00In_con), (33, con spec_l01Tide_con), (34, con spec_l02Parts_con), (35, con spec_l01Is_con)]) N (cAt (codeOf Try.f23) [1, 1, 1, 1, 1, 1]) (pAt (mkPlan (codeOf Try.f23) [([4, 5, 6], [])]).1 [1, 1, 1, 1, 1, 1]) (SV × Eff × Bool)) (finK Try.prog [.row a0 39, .row a1 32] [.tmp 4]))) (.exit 0) (left (writes (cAt (codeOf Try.f23) [1, 1, 1, 1, 1, 0, 1, 0, 0])) [4, 5, 6] [] (⟨.a (.w 0) :: .a (.w 1) :: .a (.u) :: .a (.u) :: .a (.b (false)) :: .a (.i .i64 (IntKind.i64.wrap ((IntKind.i64.wrap ((num a1 2) * (12 ^ (IntKind.i64.wrap (num a1 1)).toNat))) - (num a1 39)))) :: .a (.i .i64 (0 : Int)) :: .a (.w 1) :: .a (.w 1) :: .a (.p 1 (0) 22) :: .a (.i .i8 (num a1 0)) :: .a (.i .i64 (IntKind.i64.wrap (num a1 0))) :: .a (.b ((spec_l00In_v0 (IntKind.i64.wrap (num a1 0)) (0 : Int) (1 : Int)))) :: .a (.b ((!((spec_l00In_v0 (IntKind.i64.wrap (num a1 0)) (0 : Int) (1 : Int)))))) :: .a (.b (false)) :: .a (.w 1) :: .a (.w 1) :: .a (.p 1 (1) 22) :: .a (.i .i8 (num a1 1)) :: .a (.i .i64 (IntKind.i64.wrap (num a1 1))) :: .a (.b ((spec_l00In_v0 (IntKind.i64.wrap (num a1 1)) (0 : Int) (14 : Int)))) :: .a (.b ((!((spec_l00In_v0 (IntKind.i64.wrap (num a1 1)) (0 : Int) (14 : Int)))))) :: .a (.b ((!((spec_l00In_v0 (IntKind.i64.wrap (num a1 1)) (0 : Int) (14 : Int)))))) :: .a (.b (false)) :: .a (.w 1) :: .a (.w 1) :: .a (.p 1 (2) 2) :: .a (.i .i64 (num a1 2)) :: .a (.b ((spec_l00In_v0 (num a1 2) (1 : Int) (1000 : Int)))) :: .a (.b ((!((spec_l00In_v0 (num a1 2) (1 : Int) (1000 : Int)))))) :: .a (.b ((!((spec_l00In_v0 (num a1 2) (1 : Int) (1000 : Int)))))) :: .a (.w 1) :: .a (.w 1) :: .a (.p 1 (2) 2) :: .a (.i .i64 (num a1 2)) :: .a (.w 1) :: .a (.w 1) :: .a (.p 1 (1) 22) :: .a (.i .i8 (num a1 1)) :: .a (.i .i64 (IntKind.i64.wrap (num a1 1))) :: .a (.i .i64 (12 ^ (IntKind.i64.wrap (num a1 1)).toNat)) :: .a (.i .i64 (IntKind.i64.wrap ((num a1 2) * (12 ^ (IntKind.i64.wrap (num a1 1)).toNat)))) :: .a (.w 1) :: .a (.w 1) :: .a (.p 1 (39) 2) :: .a (.i .i64 (num a1 39)) :: .a (.i .i64 (IntKind.i64.wrap ((num a1 2) * (12 ^ (IntKind.i64.wrap (num a1 1)).toNat)))) :: .a (.b ((spec_l00In_v0 (num a1 39) (0 : Int) (IntKind.i64.wrap ((num a1 2) * (12 ^ (IntKind.i64.wrap (num a1 1)).toNat)))))) :: .a (.b ((!((spec_l00In_v0 (num a1 39) (0 : Int) (IntKind.i64.wrap ((num a1 2) * (12 ^ (IntKind.i64.wrap (num a1 1)).toNat)))))))) :: .a (.i .i64 (IntKind.i64.wrap ((num a1 2) * (12 ^ (IntKind.i64.wrap (num a1 1)).toNat)))) :: .a (.w 1) :: .a (.w 1) :: .a (.p 1 (39) 2) :: .a (.i .i64 (num a1 39)) :: .a (.i .i64 (IntKind.i64.wrap ((IntKind.i64.wrap ((num a1 2) * (12 ^ (IntKind.i64.wrap (num a1 1)).toNat))) - (num a1 39)))) :: us 38 ([]), [.row a0 39, .row a1 32, .no, .no, .no, .no, .no, .no, .no, .no, .no, .no, .no, .no], []⟩ : St) ([.a (.b (z0_4)), .a (.i .i64 (z0_5)), .a (.i .i64 (z0_6))], [])) = spec_l02Ok_k0_1 Try.prog N a0 a1 z0_4 z0_5 z0_6 := by
  refine Eq.trans (b := (some (.a (.b ((z0_5 == (0 : Int)))), .none, true))) (by kernel_rfl) ?_
  rfl
theorem spec_l02Ok_n0 (N : Nat) (a0 : Array Value) (a1 : Array Value) : bindX (iterO (stepV Try.prog (mkΓ [(17, con spec_l00In_con), (33, con spec_l01Tide_con), (34, con spec_l02Parts_con), (35, con spec_l01Is_con)]) N (cAt (codeOf Try.f23) [1, 1, 1, 1, 1, 0, 1, 0, 0]) (pAt (mkPlan (codeOf Try.f23) [([4, 5, 6], [])]).1 [1, 1, 1, 1, 1, 0, 1, 0]) [4, 5, 6] [] (⟨.a (.w 0) :: .a (.w 1) :: .a (.u) :: .a (.u) :: .a (.b (false)) :: .a (.i .i64 (IntKind.i64.wrap ((IntKind.i64.wrap ((num a1 2) * (12 ^ (IntKind.i64.wrap (num a1 1)).toNat))) - (num a1 39)))) :: .a (.i .i64 (0 : Int)) :: .a (.w 1) :: .a (.w 1) :: .a (.p 1 (0) 22) :: .a (.i .i8 (num a1 0)) :: .a (.i .i64 (IntKind.i64.wrap (num a1 0))) :: .a (.b ((spec_l00In_v0 (IntKind.i64.wrap (num a1 0)) (0 : Int) (1 : Int)))) :: .a (.b ((!((spec_l00In_v0 (IntKind.i64.wrap (num a1 0)) (0 : Int) (1 : Int)))))) :: .a (.b (false)) :: .a (.w 1) :: .a (.w 1) :: .a (.p 1 (1) 22) :: .a (.i .i8 (num a1 1)) :: .a (.i .i64 (IntKind.i64.wrap (num a1 1))) :: .a (.b ((spec_l00In_v0 (IntKind.i64.wrap (num a1 1)) (0 : Int) (14 : Int)))) :: .a (.b ((!((spec_l00In_v0 (IntKind.i64.wrap (num a1 1)) (0 : Int) (14 : Int)))))) :: .a (.b ((!((spec_l00In_v0 (IntKind.i64.wrap (num a1 1)) (0 : Int) (14 : Int)))))) :: .a (.b (false)) :: .a (.w 1) :: .a (.w 1) :: .a (.p 1 (2) 2) :: .a (.i .i64 (num a1 2)) :: .a (.b ((spec_l00In_v0 (num a1 2) (1 : Int) (1000 : Int)))) :: .a (.b ((!((spec_l00In_v0 (num a1 2) (1 : Int) (1000 : Int)))))) :: .a (.b ((!((spec_l00In_v0 (num a1 2) (1 : Int) (1000 : Int)))))) :: .a (.w 1) :: .a (.w 1) :: .a (.p 1 (2) 2) :: .a (.i .i64 (num a1 2)) :: .a (.w 1) :: .a (.w 1) :: .a (.p 1 (1) 22) :: .a (.i .i8 (num a1 1)) :: .a (.i .i64 (IntKind.i64.wrap (num a1 1))) :: .a (.i .i64 (12 ^ (IntKind.i64.wrap (num a1 1)).toNat)) :: .a (.i .i64 (IntKind.i64.wrap ((num a1 2) * (12 ^ (IntKind.i64.wrap (num a1 1)).toNat)))) :: .a (.w 1) :: .a (.w 1) :: .a (.p 1 (39) 2) :: .a (.i .i64 (num a1 39)) :: .a (.i .i64 (IntKind.i64.wrap ((num a1 2) * (12 ^ (IntKind.i64.wrap (num a1 1)).toNat)))) :: .a (.b ((spec_l00In_v0 (num a1 39) (0 : Int) (IntKind.i64.wrap ((num a1 2) * (12 ^ (IntKind.i64.wrap (num a1 1)).toNat)))))) :: .a (.b ((!((spec_l00In_v0 (num a1 39) (0 : Int) (IntKind.i64.wrap ((num a1 2) * (12 ^ (IntKind.i64.wrap (num a1 1)).toNat)))))))) :: .a (.i .i64 (IntKind.i64.wrap ((num a1 2) * (12 ^ (IntKind.i64.wrap (num a1 1)).toNat)))) :: .a (.w 1) :: .a (.w 1) :: .a (.p 1 (39) 2) :: .a (.i .i64 (num a1 39)) :: .a (.i .i64 (IntKind.i64.wrap ((IntKind.i64.wrap ((num a1 2) * (12 ^ (IntKind.i64.wrap (num a1 1)).toNat))) - (num a1 39)))) :: us 38 ([]), [.row a0 39, .row a1 32, .no, .no, .no, .no, .no, .no, .no, .no, .no, .no, .no, .no], []⟩ : St)) N ([.a (.b (false)), .a (.i .i64 (IntKind.i64.wrap ((IntKind.i64.wrap ((num a1 2) * (12 ^ (IntKind.i64.wrap (num a1 1)).toNat))) - (num a1 39)))), .a (.i .i64 (0 : Int))], [])) (fun e s => (kBlock 0 (kSeq (veC Try.prog (mkΓ [(17, con spec_l00In_con), (33, con spec_l01Tide_con), (34, con spec_l02Parts_con), (35, con spec_l01Is_con)]) N (cAt (codeOf Try.f23) [1, 1, 1, 1, 1, 1]) (pAt (mkPlan (codeOf Try.f23) [([4, 5, 6], [])]).1 [1, 1, 1, 1, 1, 1]) (SV × Eff × Bool)) (finK Try.prog [.row a0 39, .row a1 32] [.tmp 4]))) e (left (writes (cAt (codeOf Try.f23) [1, 1, 1, 1, 1, 0, 1, 0, 0])) [4, 5, 6] [] (⟨.a (.w 0) :: .a (.w 1) :: .a (.u) :: .a (.u) :: .a (.b (false)) :: .a (.i .i64 (IntKind.i64.wrap ((IntKind.i64.wrap ((num a1 2) * (12 ^ (IntKind.i64.wrap (num a1 1)).toNat))) - (num a1 39)))) :: .a (.i .i64 (0 : Int)) :: .a (.w 1) :: .a (.w 1) :: .a (.p 1 (0) 22) :: .a (.i .i8 (num a1 0)) :: .a (.i .i64 (IntKind.i64.wrap (num a1 0))) :: .a (.b ((spec_l00In_v0 (IntKind.i64.wrap (num a1 0)) (0 : Int) (1 : Int)))) :: .a (.b ((!((spec_l00In_v0 (IntKind.i64.wrap (num a1 0)) (0 : Int) (1 : Int)))))) :: .a (.b (false)) :: .a (.w 1) :: .a (.w 1) :: .a (.p 1 (1) 22) :: .a (.i .i8 (num a1 1)) :: .a (.i .i64 (IntKind.i64.wrap (num a1 1))) :: .a (.b ((spec_l00In_v0 (IntKind.i64.wrap (num a1 1)) (0 : Int) (14 : Int)))) :: .a (.b ((!((spec_l00In_v0 (IntKind.i64.wrap (num a1 1)) (0 : Int) (14 : Int)))))) :: .a (.b ((!((spec_l00In_v0 (IntKind.i64.wrap (num a1 1)) (0 : Int) (14 : Int)))))) :: .a (.b (false)) :: .a (.w 1) :: .a (.w 1) :: .a (.p 1 (2) 2) :: .a (.i .i64 (num a1 2)) :: .a (.b ((spec_l00In_v0 (num a1 2) (1 : Int) (1000 : Int)))) :: .a (.b ((!((spec_l00In_v0 (num a1 2) (1 : Int) (1000 : Int)))))) :: .a (.b ((!((spec_l00In_v0 (num a1 2) (1 : Int) (1000 : Int)))))) :: .a (.w 1) :: .a (.w 1) :: .a (.p 1 (2) 2) :: .a (.i .i64 (num a1 2)) :: .a (.w 1) :: .a (.w 1) :: .a (.p 1 (1) 22) :: .a (.i .i8 (num a1 1)) :: .a (.i .i64 (IntKind.i64.wrap (num a1 1))) :: .a (.i .i64 (12 ^ (IntKind.i64.wrap (num a1 1)).toNat)) :: .a (.i .i64 (IntKind.i64.wrap ((num a1 2) * (12 ^ (IntKind.i64.wrap (num a1 1)).toNat)))) :: .a (.w 1) :: .a (.w 1) :: .a (.p 1 (39) 2) :: .a (.i .i64 (num a1 39)) :: .a (.i .i64 (IntKind.i64.wrap ((num a1 2) * (12 ^ (IntKind.i64.wrap (num a1 1)).toNat)))) :: .a (.b ((spec_l00In_v0 (num a1 39) (0 : Int) (IntKind.i64.wrap ((num a1 2) * (12 ^ (IntKind.i64.wrap (num a1 1)).toNat)))))) :: .a (.b ((!((spec_l00In_v0 (num a1 39) (0 : Int) (IntKind.i64.wrap ((num a1 2) * (12 ^ (IntKind.i64.wrap (num a1 1)).toNat)))))))) :: .a (.i .i64 (IntKind.i64.wrap ((num a1 2) * (12 ^ (IntKind.i64.wrap (num a1 1)).toNat)))) :: .a (.w 1) :: .a (.w 1) :: .a (.p 1 (39) 2) :: .a (.i .i64 (num a1 39)) :: .a (.i .i64 (IntKind.i64.wrap ((IntKind.i64.wrap ((num a1 2) * (12 ^ (IntKind.i64.wrap (num a1 1)).toNat))) - (num a1 39)))) :: us 38 ([]), [.row a0 39, .row a1 32, .no, .no, .no, .no, .no, .no, .no, .no, .no, .no, .no, .no], []⟩ : St) s)) = nodeX (iterO (spec_l02Ok_g0 Try.prog a0 a1) N (false, (IntKind.i64.wrap ((IntKind.i64.wrap ((num a1 2) * (12 ^ (IntKind.i64.wrap (num a1 1)).toNat))) - (num a1 39))), (0 : Int))) (st2 (fun x => spec_l02Ok_k0_0 Try.prog N a0 a1 x.1 x.2.1 x.2.2) (fun x => spec_l02Ok_k0_1 Try.prog N a0 a1 x.1 x.2.1 x.2.2)) := by
  refine loop_node spec_l02Ok_e0 spec_l02Ok_x0 _ _ (spec_l02Ok_s0 N a0 a1) N (false, (IntKind.i64.wrap ((IntKind.i64.wrap ((num a1 2) * (12 ^ (IntKind.i64.wrap (num a1 1)).toNat))) - (num a1 39))), (0 : Int)) _ _ ?_
  intro x
  cases x with
  | more x => exact spec_l02Ok_k0_0_eq N a0 a1 x.1 x.2.1 x.2.2
  | done x => exact spec_l02Ok_k0_1_eq N a0 a1 x.1 x.2.1 x.2.2
theorem spec_l02Ok_ans (N : Nat) (a0 : Array Value) (a1 : Array Value) : ansV Try.prog (mkΓ [(17, con spec_l00In_con), (33, con spec_l01Tide_con), (34, con spec_l02Parts_con), (35, con spec_l01Is_con)]) N Try.f23 [([4, 5, 6], [])] [.w 0, .w 1] [.row a0 39, .row a1 32] = (bif (!((spec_l00In_v0 (IntKind.i64.wrap (num a1 0)) (0 : Int) (1 : Int)))) then (some (.a (.b (false)), .none, true))
    else (bif (!((spec_l00In_v0 (IntKind.i64.wrap (num a1 1)) (0 : Int) (14 : Int)))) then (some (.a (.b (false)), .none, true))
      else (bif (!((spec_l00In_v0 (num a1 2) (1 : Int) (1000 : Int)))) then (some (.a (.b (false)), .none, true))
        else (bif (decide (0 ≤ (IntKind.i64.wrap (num a1 1))) && decide ((IntKind.i64.wrap (num a1 1)) ≤ 14)) then (bif (!((spec_l00In_v0 (num a1 39) (0 : Int) (IntKind.i64.wrap ((num a1 2) * (12 ^ (IntKind.i64.wrap (num a1 1)).toNat)))))) then (some (.a (.b (false)), .none, true))
            else (nodeX (iterO (spec_l02Ok_g0 Try.prog a0 a1) N (false, (IntKind.i64.wrap ((IntKind.i64.wrap ((num a1 2) * (12 ^ (IntKind.i64.wrap (num a1 1)).toNat))) - (num a1 39))), (0 : Int))) (st2 (fun x => spec_l02Ok_k0_0 Try.prog N a0 a1 x.1 x.2.1 x.2.2) (fun x => spec_l02Ok_k0_1 Try.prog N a0 a1 x.1 x.2.1 x.2.2))))
          else (none))))) := by
  refine Eq.trans (b := (bif (!((spec_l00In_v0 (IntKind.i64.wrap (num a1 0)) (0 : Int) (1 : Int)))) then (some (.a (.b (false)), .none, true))
    else (bif (!((spec_l00In_v0 (IntKind.i64.wrap (num a1 1)) (0 : Int) (14 : Int)))) then (some (.a (.b (false)), .none, true))
      else (bif (!((spec_l00In_v0 (num a1 2) (1 : Int) (1000 : Int)))) then (some (.a (.b (false)), .none, true))
        else (bif (decide (0 ≤ (IntKind.i64.wrap (num a1 1))) && decide ((IntKind.i64.wrap (num a1 1)) ≤ 14)) then (bif (!((spec_l00In_v0 (num a1 39) (0 : Int) (IntKind.i64.wrap ((num a1 2) * (12 ^ (IntKind.i64.wrap (num a1 1)).toNat)))))) then (some (.a (.b (false)), .none, true))
            else (bindX (iterO (stepV Try.prog (mkΓ [(17, con spec_l00In_con), (33, con spec_l01Tide_con), (34, con spec_l02Parts_con), (35, con spec_l01Is_con)]) N (cAt (codeOf Try.f23) [1, 1, 1, 1, 1, 0, 1, 0, 0]) (pAt (mkPlan (codeOf Try.f23) [([4, 5, 6], [])]).1 [1, 1, 1, 1, 1, 0, 1, 0]) [4, 5, 6] [] (⟨.a (.w 0) :: .a (.w 1) :: .a (.u) :: .a (.u) :: .a (.b (false)) :: .a (.i .i64 (IntKind.i64.wrap ((IntKind.i64.wrap ((num a1 2) * (12 ^ (IntKind.i64.wrap (num a1 1)).toNat))) - (num a1 39)))) :: .a (.i .i64 (0 : Int)) :: .a (.w 1) :: .a (.w 1) :: .a (.p 1 (0) 22) :: .a (.i .i8 (num a1 0)) :: .a (.i .i64 (IntKind.i64.wrap (num a1 0))) :: .a (.b ((spec_l00In_v0 (IntKind.i64.wrap (num a1 0)) (0 : Int) (1 : Int)))) :: .a (.b ((!((spec_l00In_v0 (IntKind.i64.wrap (num a1 0)) (0 : Int) (1 : Int)))))) :: .a (.b (false)) :: .a (.w 1) :: .a (.w 1) :: .a (.p 1 (1) 22) :: .a (.i .i8 (num a1 1)) :: .a (.i .i64 (IntKind.i64.wrap (num a1 1))) :: .a (.b ((spec_l00In_v0 (IntKind.i64.wrap (num a1 1)) (0 : Int) (14 : Int)))) :: .a (.b ((!((spec_l00In_v0 (IntKind.i64.wrap (num a1 1)) (0 : Int) (14 : Int)))))) :: .a (.b ((!((spec_l00In_v0 (IntKind.i64.wrap (num a1 1)) (0 : Int) (14 : Int)))))) :: .a (.b (false)) :: .a (.w 1) :: .a (.w 1) :: .a (.p 1 (2) 2) :: .a (.i .i64 (num a1 2)) :: .a (.b ((spec_l00In_v0 (num a1 2) (1 : Int) (1000 : Int)))) :: .a (.b ((!((spec_l00In_v0 (num a1 2) (1 : Int) (1000 : Int)))))) :: .a (.b ((!((spec_l00In_v0 (num a1 2) (1 : Int) (1000 : Int)))))) :: .a (.w 1) :: .a (.w 1) :: .a (.p 1 (2) 2) :: .a (.i .i64 (num a1 2)) :: .a (.w 1) :: .a (.w 1) :: .a (.p 1 (1) 22) :: .a (.i .i8 (num a1 1)) :: .a (.i .i64 (IntKind.i64.wrap (num a1 1))) :: .a (.i .i64 (12 ^ (IntKind.i64.wrap (num a1 1)).toNat)) :: .a (.i .i64 (IntKind.i64.wrap ((num a1 2) * (12 ^ (IntKind.i64.wrap (num a1 1)).toNat)))) :: .a (.w 1) :: .a (.w 1) :: .a (.p 1 (39) 2) :: .a (.i .i64 (num a1 39)) :: .a (.i .i64 (IntKind.i64.wrap ((num a1 2) * (12 ^ (IntKind.i64.wrap (num a1 1)).toNat)))) :: .a (.b ((spec_l00In_v0 (num a1 39) (0 : Int) (IntKind.i64.wrap ((num a1 2) * (12 ^ (IntKind.i64.wrap (num a1 1)).toNat)))))) :: .a (.b ((!((spec_l00In_v0 (num a1 39) (0 : Int) (IntKind.i64.wrap ((num a1 2) * (12 ^ (IntKind.i64.wrap (num a1 1)).toNat)))))))) :: .a (.i .i64 (IntKind.i64.wrap ((num a1 2) * (12 ^ (IntKind.i64.wrap (num a1 1)).toNat)))) :: .a (.w 1) :: .a (.w 1) :: .a (.p 1 (39) 2) :: .a (.i .i64 (num a1 39)) :: .a (.i .i64 (IntKind.i64.wrap ((IntKind.i64.wrap ((num a1 2) * (12 ^ (IntKind.i64.wrap (num a1 1)).toNat))) - (num a1 39)))) :: us 38 ([]), [.row a0 39, .row a1 32, .no, .no, .no, .no, .no, .no, .no, .no, .no, .no, .no, .no], []⟩ : St)) N ([.a (.b (false)), .a (.i .i64 (IntKind.i64.wrap ((IntKind.i64.wrap ((num a1 2) * (12 ^ (IntKind.i64.wrap (num a1 1)).toNat))) - (num a1 39)))), .a (.i .i64 (0 : Int))], [])) (fun e s => (kBlock 0 (kSeq (veC Try.prog (mkΓ [(17, con spec_l00In_con), (33, con spec_l01Tide_con), (34, con spec_l02Parts_con), (35, con spec_l01Is_con)]) N (cAt (codeOf Try.f23) [1, 1, 1, 1, 1, 1]) (pAt (mkPlan (codeOf Try.f23) [([4, 5, 6], [])]).1 [1, 1, 1, 1, 1, 1]) (SV × Eff × Bool)) (finK Try.prog [.row a0 39, .row a1 32] [.tmp 4]))) e (left (writes (cAt (codeOf Try.f23) [1, 1, 1, 1, 1, 0, 1, 0, 0])) [4, 5, 6] [] (⟨.a (.w 0) :: .a (.w 1) :: .a (.u) :: .a (.u) :: .a (.b (false)) :: .a (.i .i64 (IntKind.i64.wrap ((IntKind.i64.wrap ((num a1 2) * (12 ^ (IntKind.i64.wrap (num a1 1)).toNat))) - (num a1 39)))) :: .a (.i .i64 (0 : Int)) :: .a (.w 1) :: .a (.w 1) :: .a (.p 1 (0) 22) :: .a (.i .i8 (num a1 0)) :: .a (.i .i64 (IntKind.i64.wrap (num a1 0))) :: .a (.b ((spec_l00In_v0 (IntKind.i64.wrap (num a1 0)) (0 : Int) (1 : Int)))) :: .a (.b ((!((spec_l00In_v0 (IntKind.i64.wrap (num a1 0)) (0 : Int) (1 : Int)))))) :: .a (.b (false)) :: .a (.w 1) :: .a (.w 1) :: .a (.p 1 (1) 22) :: .a (.i .i8 (num a1 1)) :: .a (.i .i64 (IntKind.i64.wrap (num a1 1))) :: .a (.b ((spec_l00In_v0 (IntKind.i64.wrap (num a1 1)) (0 : Int) (14 : Int)))) :: .a (.b ((!((spec_l00In_v0 (IntKind.i64.wrap (num a1 1)) (0 : Int) (14 : Int)))))) :: .a (.b ((!((spec_l00In_v0 (IntKind.i64.wrap (num a1 1)) (0 : Int) (14 : Int)))))) :: .a (.b (false)) :: .a (.w 1) :: .a (.w 1) :: .a (.p 1 (2) 2) :: .a (.i .i64 (num a1 2)) :: .a (.b ((spec_l00In_v0 (num a1 2) (1 : Int) (1000 : Int)))) :: .a (.b ((!((spec_l00In_v0 (num a1 2) (1 : Int) (1000 : Int)))))) :: .a (.b ((!((spec_l00In_v0 (num a1 2) (1 : Int) (1000 : Int)))))) :: .a (.w 1) :: .a (.w 1) :: .a (.p 1 (2) 2) :: .a (.i .i64 (num a1 2)) :: .a (.w 1) :: .a (.w 1) :: .a (.p 1 (1) 22) :: .a (.i .i8 (num a1 1)) :: .a (.i .i64 (IntKind.i64.wrap (num a1 1))) :: .a (.i .i64 (12 ^ (IntKind.i64.wrap (num a1 1)).toNat)) :: .a (.i .i64 (IntKind.i64.wrap ((num a1 2) * (12 ^ (IntKind.i64.wrap (num a1 1)).toNat)))) :: .a (.w 1) :: .a (.w 1) :: .a (.p 1 (39) 2) :: .a (.i .i64 (num a1 39)) :: .a (.i .i64 (IntKind.i64.wrap ((num a1 2) * (12 ^ (IntKind.i64.wrap (num a1 1)).toNat)))) :: .a (.b ((spec_l00In_v0 (num a1 39) (0 : Int) (IntKind.i64.wrap ((num a1 2) * (12 ^ (IntKind.i64.wrap (num a1 1)).toNat)))))) :: .a (.b ((!((spec_l00In_v0 (num a1 39) (0 : Int) (IntKind.i64.wrap ((num a1 2) * (12 ^ (IntKind.i64.wrap (num a1 1)).toNat)))))))) :: .a (.i .i64 (IntKind.i64.wrap ((num a1 2) * (12 ^ (IntKind.i64.wrap (num a1 1)).toNat)))) :: .a (.w 1) :: .a (.w 1) :: .a (.p 1 (39) 2) :: .a (.i .i64 (num a1 39)) :: .a (.i .i64 (IntKind.i64.wrap ((IntKind.i64.wrap ((num a1 2) * (12 ^ (IntKind.i64.wrap (num a1 1)).toNat))) - (num a1 39)))) :: us 38 ([]), [.row a0 39, .row a1 32, .no, .no, .no, .no, .no, .no, .no, .no, .no, .no, .no, .no], []⟩ : St) s))))
          else (none)))))) (by kernel_rfl) ?_
  simp only [spec_l02Ok_n0 N a0 a1]
theorem spec_l02Ok_main (a0 : Array Value) (a1 : Array Value) (h_a0 : WT Try.prog 39 a0) (h_a1 : WT Try.prog 32 a1) (hg : (true) = true) : ansV Try.prog (mkΓ [(17, con spec_l00In_con), (33, con spec_l01Tide_con), (34, con spec_l02Parts_con), (35, con spec_l01Is_con)]) 1000 Try.f23 [([4, 5, 6], [])] [.w 0, .w 1] [.row a0 39, .row a1 32] = some (.a (.b ((specSp a0 a1))), .none, true) := by
  refine (spec_l02Ok_ans 1000 a0 a1).trans ?_
  unfold specSp
  cases h1 : spec_l00In_v0 (IntKind.i64.wrap (num a1 0)) 0 1
  · simp only [Bool.not_false, cond_true]
  cases h2 : spec_l00In_v0 (IntKind.i64.wrap (num a1 1)) 0 14
  · simp only [Bool.not_false, Bool.not_true, cond_true, cond_false]
  cases h3 : spec_l00In_v0 (num a1 2) 1 1000
  · simp only [Bool.not_false, Bool.not_true, cond_true, cond_false]
  have hr := in_range h2
  simp only [Bool.not_true, cond_true, cond_false, decide_eq_true hr.1, decide_eq_true hr.2, Bool.and_self]
  show (bif (!(spec_l00In_v0 (num a1 39) 0 (allW a1))) then _ else _) = _
  cases h5 : spec_l00In_v0 (num a1 39) 0 (allW a1)
  · simp only [Bool.not_false, cond_true]
  simp only [Bool.not_true, cond_false]
  show nodeX (iterO (spec_l02Ok_g0 Try.prog a0 a1) 1000 (false, IntKind.i64.wrap (allW a1 - num a1 39), (0 : Int))) _ = _
  generalize IntKind.i64.wrap (allW a1 - num a1 39) = X
  refine (iter_first (g := spec_l02Ok_g0 Try.prog a0 a1) (fun k => (false, leftW X a1 k, (k : Int))) (pS a0 a1 X) 36 (N := 1000) (xd := .done (false, leftW X a1 36, ((36 : Nat) : Int))) (by omega) (fun k hk hp => by
    have h1 : decide ((k : Int) < 36) = true := decide_eq_true (by omega)
    have h0 : decide (0 ≤ (k : Int)) = true := decide_eq_true (by omega)
    have h3 : IntKind.i64.wrap ((k : Int) + 1) = ((k + 1 : Nat) : Int) := by rw [IntWalk.i64_in _ (by omega)]; omega
    have h4 : ((k : Int)).toNat = k := Int.toNat_natCast k
    unfold pS at hp
    simp only [Bool.and_eq_true] at hp
    cases hn : (num a1 (3 + k * 1) != 0)
    · simp only [spec_l02Ok_g0, h1, h0, Bool.and_self, h4, cond_true, h3, hp.1, Bool.not_true, cond_false, hn, leftW]
    · have hp2 := hp.2
      rw [hn] at hp2
      simp only [Bool.not_true, Bool.false_or] at hp2
      simp only [spec_l02Ok_g0, h1, h0, Bool.and_self, h4, cond_true, h3, hp.1, Bool.not_true, cond_false, hn, hp2, leftW]) (by
    have h1 : decide (((36 : Nat) : Int) < 36) = false := by decide
    simp only [spec_l02Ok_g0, h1, cond_false]) (allB (pS a0 a1 X)) (allB_iff _) (some (.a (.b (leftW X a1 36 == 0)), .none, true)) (some (.a (.b false), .none, true)) rfl (fun k hk hp => by
    refine ⟨.more (false, leftW X a1 k, (k : Int)), ?_, rfl⟩
    have h1 : decide ((k : Int) < 36) = true := decide_eq_true (by omega)
    have h0 : decide (0 ≤ (k : Int)) = true := decide_eq_true (by omega)
    have h3 : IntKind.i64.wrap ((k : Int) + 1) = ((k + 1 : Nat) : Int) := by rw [IntWalk.i64_in _ (by omega)]; omega
    have h4 : ((k : Int)).toNat = k := Int.toNat_natCast k
    unfold pS at hp
    cases hi : spec_l00In_v0 (num a1 (3 + k * 1)) 0 (leftW X a1 k)
    · simp only [spec_l02Ok_g0, h1, h0, Bool.and_self, h4, cond_true, hi, Bool.not_false]
    · rw [hi] at hp
      simp only [Bool.true_and, Bool.or_eq_false_iff, Bool.not_eq_false'] at hp
      simp only [spec_l02Ok_g0, h1, h0, Bool.and_self, h4, cond_true, hi, Bool.not_true, cond_false, hp.1, hp.2, Bool.not_false])).trans ?_
  cases allB (pS a0 a1 X) <;> rfl
noncomputable def spec_l02Ok_con : Con := fun args h => match args, h with
  | [.w 0, .w 1], [.row a0 39, .row a1 32] => some (.a (.b ((specSp a0 a1))), .none, true)
  | _, _ => none
theorem spec_l02Ok_enter : EntX Try.prog 23 := entX_ok (fn := Try.f23) (by kernel_rfl) (by kernel_rfl) (by kernel_rfl)
theorem spec_l02Ok_ok : ConOkX mn Try.prog 23 spec_l02Ok_con := (ansX_ok (N := 1000) (by kernel_rfl) (mkΓ_consX (con_okX spec_l00In_ok) spec_l00In_enter (mkΓ_consX (con_okX spec_l01Tide_ok) spec_l01Tide_enter (mkΓ_consX (con_okX spec_l02Parts_ok) spec_l02Parts_enter (mkΓ_consX (con_okX spec_l01Is_ok) spec_l01Is_enter mkΓ_nilX)))) (fn := Try.f23) (by kernel_rfl) (by kernel_rfl) [([4, 5, 6], [])]).of (by
  intro ρ h w args vals r e hA hH hr
  unfold spec_l02Ok_con at hr
  split at hr
  · rename_i a0 a1
    obtain ⟨rfl, hg⟩ := Prod.mk.inj (Option.some.inj hr)
    obtain ⟨rfl, hg2⟩ := Prod.mk.inj hg
    exact spec_l02Ok_main a0 a1 (hH.wt 0 rfl) (hH.wt 1 rfl) hg2
  · cases hr)
noncomputable def impl_sumsToAll_e0 : Bool × Int × Int → LS
  | (y0_4, y0_5, y0_12) => ([.a (.b (y0_4)), .a (.i .i64 (y0_5)), .a (.i .i64 (y0_12))], [])
noncomputable def impl_sumsToAll_x0 : (Stp (Bool × Int × Int) (Bool × Int × Int)) → Exit × LS
  | .more t => (.ret, impl_sumsToAll_e0 t)
  | .done t => ((.exit 0), impl_sumsToAll_e0 t)
noncomputable def impl_sumsToAll_g0 (P : Program) (a0 : Array Value) (a1 : Array Value) : Bool × Int × Int → Option (Stp (Bool × Int × Int) (Stp (Bool × Int × Int) (Bool × Int × Int)))
  | (y0_4, y0_5, y0_12) => bif decide (y0_12 < (36 : Int)) then (bif (decide (0 ≤ y0_12) && decide (y0_12 < 36)) then (bif decide ((num (a1.extract 3 (3 + 36)) ((y0_12).toNat * 1)) < (0 : Int)) then (some (.done (.more (false, y0_5, y0_12))))
        else (bif decide ((num (a1.extract 3 (3 + 36)) ((y0_12).toNat * 1)) > y0_5) then (some (.done (.more (false, y0_5, y0_12))))
          else (bif decide ((num (a1.extract 3 (3 + 36)) ((y0_12).toNat * 1)) > (0 : Int)) then (bif (!((impl_hasCell_v0 a0 y0_12))) then (some (.done (.more (false, y0_5, y0_12))))
              else (some (.more (y0_4, (IntKind.i64.wrap (y0_5 - (num (a1.extract 3 (3 + 36)) ((y0_12).toNat * 1)))), (IntKind.i64.wrap (y0_12 + (1 : Int)))))))
            else (some (.more (y0_4, (IntKind.i64.wrap (y0_5 - (num (a1.extract 3 (3 + 36)) ((y0_12).toNat * 1)))), (IntKind.i64.wrap (y0_12 + (1 : Int)))))))))
      else (none))
    else (some (.done (.done (y0_4, y0_5, y0_12))))
theorem impl_sumsToAll_s0 (N : Nat) (a0 : Array Value) (a1 : Array Value) : ∀ t : Bool × Int × Int, stepV Try.prog (mkΓ [(47, con impl_allOf_con), (48, con impl_hasCell_con)]) N (cAt (codeOf Try.f41) [1, 1, 0, 1, 0, 0]) (pAt (mkPlan (codeOf Try.f41) [([4, 5, 12], [])]).1 [1, 1, 0, 1, 0]) [4, 5, 12] [] (⟨.a (.g a0 39) :: .a (.g a1 32) :: .a (.w 0) :: .a (.w 1) :: .a (.b (false)) :: .a (.i .i64 (impl_allOf_v0 a1)) :: .a (.u) :: .a (.u) :: .a (.g a1 32) :: .a (.i .i64 (impl_allOf_v0 a1)) :: .a (.p 1 (3) 29) :: .a (.g (a1.extract 3 (3 + 36)) 29) :: .a (.i .i64 (0 : Int)) :: us 28 ([]), [.row a0 39, .row a1 32, .no], []⟩ : St) (impl_sumsToAll_e0 t) = mapS impl_sumsToAll_e0 impl_sumsToAll_x0 (impl_sumsToAll_g0 Try.prog a0 a1 t) := by
  rintro ⟨y0_4, y0_5, y0_12⟩
  refine Eq.trans (b := (bif decide (y0_12 < (36 : Int)) then (bif (decide (0 ≤ y0_12) && decide (y0_12 < 36)) then (bif decide ((num (a1.extract 3 (3 + 36)) ((y0_12).toNat * 1)) < (0 : Int)) then (some (.done (.ret, ([.a (.b (false)), .a (.i .i64 (y0_5)), .a (.i .i64 (y0_12))], []))))
        else (bif decide ((num (a1.extract 3 (3 + 36)) ((y0_12).toNat * 1)) > y0_5) then (some (.done (.ret, ([.a (.b (false)), .a (.i .i64 (y0_5)), .a (.i .i64 (y0_12))], []))))
          else (bif decide ((num (a1.extract 3 (3 + 36)) ((y0_12).toNat * 1)) > (0 : Int)) then (bif (!((impl_hasCell_v0 a0 y0_12))) then (some (.done (.ret, ([.a (.b (false)), .a (.i .i64 (y0_5)), .a (.i .i64 (y0_12))], []))))
              else (some (.more ([.a (.b (y0_4)), .a (.i .i64 (IntKind.i64.wrap (y0_5 - (num (a1.extract 3 (3 + 36)) ((y0_12).toNat * 1))))), .a (.i .i64 (IntKind.i64.wrap (y0_12 + (1 : Int))))], []))))
            else (some (.more ([.a (.b (y0_4)), .a (.i .i64 (IntKind.i64.wrap (y0_5 - (num (a1.extract 3 (3 + 36)) ((y0_12).toNat * 1))))), .a (.i .i64 (IntKind.i64.wrap (y0_12 + (1 : Int))))], []))))))
      else (none))
    else (some (.done ((.exit 0), ([.a (.b (y0_4)), .a (.i .i64 (y0_5)), .a (.i .i64 (y0_12))], [])))))) (by kernel_rfl) ?_
  simp only [impl_sumsToAll_g0, mapS_cond, mapS_more, mapS_done, mapS_none, impl_sumsToAll_e0, impl_sumsToAll_x0]
noncomputable def impl_sumsToAll_k0_0 (P : Program) (N : Nat) (a0 : Array Value) (a1 : Array Value) (z0_4 : Bool) (z0_5 : Int) (z0_12 : Int) : Option (SV × Eff × Bool) := some (.a (.b (z0_4)), .none, true)
theorem impl_sumsToAll_k0_0_eq (N : Nat) (a0 : Array Value) (a1 : Array Value) (z0_4 : Bool) (z0_5 : Int) (z0_12 : Int) : (kBlock 0 (kSeq (veC Try.prog (mkΓ [(47, con impl_allOf_con), (48, con impl_hasCell_con)]) N (cAt (codeOf Try.f41) [1, 1, 1]) (pAt (mkPlan (codeOf Try.f41) [([4, 5, 12], [])]).1 [1, 1, 1]) (SV × Eff × Bool)) (finK Try.prog [] [.tmp 4]))) .ret (left (writes (cAt (codeOf Try.f41) [1, 1, 0, 1, 0, 0])) [4, 5, 12] [] (⟨.a (.g a0 39) :: .a (.g a1 32) :: .a (.w 0) :: .a (.w 1) :: .a (.b (false)) :: .a (.i .i64 (impl_allOf_v0 a1)) :: .a (.u) :: .a (.u) :: .a (.g a1 32) :: .a (.i .i64 (impl_allOf_v0 a1)) :: .a (.p 1 (3) 29) :: .a (.g (a1.extract 3 (3 + 36)) 29) :: .a (.i .i64 (0 : Int)) :: us 28 ([]), [.row a0 39, .row a1 32, .no], []⟩ : St) ([.a (.b (z0_4)), .a (.i .i64 (z0_5)), .a (.i .i64 (z0_12))], [])) = impl_sumsToAll_k0_0 Try.prog N a0 a1 z0_4 z0_5 z0_12 := by
  refine Eq.trans (b := (some (.a (.b (z0_4)), .none, true))) (by kernel_rfl) ?_
  rfl
noncomputable def impl_sumsToAll_k0_1 (P : Program) (N : Nat) (a0 : Array Value) (a1 : Array Value) (z0_4 : Bool) (z0_5 : Int) (z0_12 : Int) : Option (SV × Eff × Bool) := some (.a (.b (((num a1 39) == z0_5))), .none, true)
theorem impl_sumsToAll_k0_1_eq (N : Nat) (a0 : Array Value) (a1 : Array Value) (z0_4 : Bool) (z0_5 : Int) (z0_12 : Int) : (kBlock 0 (kSeq (veC Try.prog (mkΓ [(47, con impl_allOf_con), (48, con impl_hasCell_con)]) N (cAt (codeOf Try.f41) [1, 1, 1]) (pAt (mkPlan (codeOf Try.f41) [([4, 5, 12], [])]).1 [1, 1, 1]) (SV × Eff × Bool)) (finK Try.prog [] [.tmp 4]))) (.exit 0) (left (writes (cAt (codeOf Try.f41) [1, 1, 0, 1, 0, 0])) [4, 5, 12] [] (⟨.a (.g a0 39) :: .a (.g a1 32) :: .a (.w 0) :: .a (.w 1) :: .a (.b (false)) :: .a (.i .i64 (impl_allOf_v0 a1)) :: .a (.u) :: .a (.u) :: .a (.g a1 32) :: .a (.i .i64 (impl_allOf_v0 a1)) :: .a (.p 1 (3) 29) :: .a (.g (a1.extract 3 (3 + 36)) 29) :: .a (.i .i64 (0 : Int)) :: us 28 ([]), [.row a0 39, .row a1 32, .no], []⟩ : St) ([.a (.b (z0_4)), .a (.i .i64 (z0_5)), .a (.i .i64 (z0_12))], [])) = impl_sumsToAll_k0_1 Try.prog N a0 a1 z0_4 z0_5 z0_12 := by
  refine Eq.trans (b := (some (.a (.b (((num a1 39) == z0_5))), .none, true))) (by kernel_rfl) ?_
  rfl
theorem impl_sumsToAll_n0 (N : Nat) (a0 : Array Value) (a1 : Array Value) : bindX (iterO (stepV Try.prog (mkΓ [(47, con impl_allOf_con), (48, con impl_hasCell_con)]) N (cAt (codeOf Try.f41) [1, 1, 0, 1, 0, 0]) (pAt (mkPlan (codeOf Try.f41) [([4, 5, 12], [])]).1 [1, 1, 0, 1, 0]) [4, 5, 12] [] (⟨.a (.g a0 39) :: .a (.g a1 32) :: .a (.w 0) :: .a (.w 1) :: .a (.b (false)) :: .a (.i .i64 (impl_allOf_v0 a1)) :: .a (.u) :: .a (.u) :: .a (.g a1 32) :: .a (.i .i64 (impl_allOf_v0 a1)) :: .a (.p 1 (3) 29) :: .a (.g (a1.extract 3 (3 + 36)) 29) :: .a (.i .i64 (0 : Int)) :: us 28 ([]), [.row a0 39, .row a1 32, .no], []⟩ : St)) N ([.a (.b (false)), .a (.i .i64 (impl_allOf_v0 a1)), .a (.i .i64 (0 : Int))], [])) (fun e s => (kBlock 0 (kSeq (veC Try.prog (mkΓ [(47, con impl_allOf_con), (48, con impl_hasCell_con)]) N (cAt (codeOf Try.f41) [1, 1, 1]) (pAt (mkPlan (codeOf Try.f41) [([4, 5, 12], [])]).1 [1, 1, 1]) (SV × Eff × Bool)) (finK Try.prog [] [.tmp 4]))) e (left (writes (cAt (codeOf Try.f41) [1, 1, 0, 1, 0, 0])) [4, 5, 12] [] (⟨.a (.g a0 39) :: .a (.g a1 32) :: .a (.w 0) :: .a (.w 1) :: .a (.b (false)) :: .a (.i .i64 (impl_allOf_v0 a1)) :: .a (.u) :: .a (.u) :: .a (.g a1 32) :: .a (.i .i64 (impl_allOf_v0 a1)) :: .a (.p 1 (3) 29) :: .a (.g (a1.extract 3 (3 + 36)) 29) :: .a (.i .i64 (0 : Int)) :: us 28 ([]), [.row a0 39, .row a1 32, .no], []⟩ : St) s)) = nodeX (iterO (impl_sumsToAll_g0 Try.prog a0 a1) N (false, (impl_allOf_v0 a1), (0 : Int))) (st2 (fun x => impl_sumsToAll_k0_0 Try.prog N a0 a1 x.1 x.2.1 x.2.2) (fun x => impl_sumsToAll_k0_1 Try.prog N a0 a1 x.1 x.2.1 x.2.2)) := by
  refine loop_node impl_sumsToAll_e0 impl_sumsToAll_x0 _ _ (impl_sumsToAll_s0 N a0 a1) N (false, (impl_allOf_v0 a1), (0 : Int)) _ _ ?_
  intro x
  cases x with
  | more x => exact impl_sumsToAll_k0_0_eq N a0 a1 x.1 x.2.1 x.2.2
  | done x => exact impl_sumsToAll_k0_1_eq N a0 a1 x.1 x.2.1 x.2.2
theorem impl_sumsToAll_ans (N : Nat) (a0 : Array Value) (a1 : Array Value) : ansV Try.prog (mkΓ [(47, con impl_allOf_con), (48, con impl_hasCell_con)]) N Try.f41 [([4, 5, 12], [])] [.g a0 39, .g a1 32] [] = (bif (impl_allOf_gd a1) then (nodeX (iterO (impl_sumsToAll_g0 Try.prog a0 a1) N (false, (impl_allOf_v0 a1), (0 : Int))) (st2 (fun x => impl_sumsToAll_k0_0 Try.prog N a0 a1 x.1 x.2.1 x.2.2) (fun x => impl_sumsToAll_k0_1 Try.prog N a0 a1 x.1 x.2.1 x.2.2)))
    else (none)) := by
  refine Eq.trans (b := (bif (impl_allOf_gd a1) then (bindX (iterO (stepV Try.prog (mkΓ [(47, con impl_allOf_con), (48, con impl_hasCell_con)]) N (cAt (codeOf Try.f41) [1, 1, 0, 1, 0, 0]) (pAt (mkPlan (codeOf Try.f41) [([4, 5, 12], [])]).1 [1, 1, 0, 1, 0]) [4, 5, 12] [] (⟨.a (.g a0 39) :: .a (.g a1 32) :: .a (.w 0) :: .a (.w 1) :: .a (.b (false)) :: .a (.i .i64 (impl_allOf_v0 a1)) :: .a (.u) :: .a (.u) :: .a (.g a1 32) :: .a (.i .i64 (impl_allOf_v0 a1)) :: .a (.p 1 (3) 29) :: .a (.g (a1.extract 3 (3 + 36)) 29) :: .a (.i .i64 (0 : Int)) :: us 28 ([]), [.row a0 39, .row a1 32, .no], []⟩ : St)) N ([.a (.b (false)), .a (.i .i64 (impl_allOf_v0 a1)), .a (.i .i64 (0 : Int))], [])) (fun e s => (kBlock 0 (kSeq (veC Try.prog (mkΓ [(47, con impl_allOf_con), (48, con impl_hasCell_con)]) N (cAt (codeOf Try.f41) [1, 1, 1]) (pAt (mkPlan (codeOf Try.f41) [([4, 5, 12], [])]).1 [1, 1, 1]) (SV × Eff × Bool)) (finK Try.prog [] [.tmp 4]))) e (left (writes (cAt (codeOf Try.f41) [1, 1, 0, 1, 0, 0])) [4, 5, 12] [] (⟨.a (.g a0 39) :: .a (.g a1 32) :: .a (.w 0) :: .a (.w 1) :: .a (.b (false)) :: .a (.i .i64 (impl_allOf_v0 a1)) :: .a (.u) :: .a (.u) :: .a (.g a1 32) :: .a (.i .i64 (impl_allOf_v0 a1)) :: .a (.p 1 (3) 29) :: .a (.g (a1.extract 3 (3 + 36)) 29) :: .a (.i .i64 (0 : Int)) :: us 28 ([]), [.row a0 39, .row a1 32, .no], []⟩ : St) s)))
    else (none))) (by kernel_rfl) ?_
  simp only [impl_sumsToAll_n0 N a0 a1]
theorem impl_sumsToAll_main (a0 : Array Value) (a1 : Array Value) (h_a0 : WT Try.prog 39 a0) (h_a1 : WT Try.prog 32 a1) (hg : ((impl_allOf_gd a1)) = true) : ansV Try.prog (mkΓ [(47, con impl_allOf_con), (48, con impl_hasCell_con)]) 1000 Try.f41 [([4, 5, 12], [])] [.g a0 39, .g a1 32] [] = some (.a (.b ((implSp a0 a1))), .none, true) := by
  have hz : a1.size = 40 := by rw [h_a1.layLen]; kernel_rfl
  refine (impl_sumsToAll_ans 1000 a0 a1).trans ?_
  rw [hg, cond_true]
  unfold implSp
  show nodeX (iterO (impl_sumsToAll_g0 Try.prog a0 a1) 1000 (false, allW a1, (0 : Int))) _ = _
  generalize allW a1 = X
  refine (iter_first (g := impl_sumsToAll_g0 Try.prog a0 a1) (fun k => (false, leftW X a1 k, (k : Int))) (pI a0 a1 X) 36 (N := 1000) (xd := .done (false, leftW X a1 36, ((36 : Nat) : Int))) (by omega) (fun k hk hp => by
    have h1 : decide ((k : Int) < 36) = true := decide_eq_true (by omega)
    have h0 : decide (0 ≤ (k : Int)) = true := decide_eq_true (by omega)
    have h3 : IntKind.i64.wrap ((k : Int) + 1) = ((k + 1 : Nat) : Int) := by rw [IntWalk.i64_in _ (by omega)]; omega
    have h4 : ((k : Int)).toNat = k := Int.toNat_natCast k
    have h5 := cell_num (T := 0) hz k hk
    unfold pI at hp
    simp only [Bool.and_eq_true, Bool.not_eq_true'] at hp
    cases hn : decide (num a1 (3 + k * 1) > 0)
    · simp only [impl_sumsToAll_g0, h1, h0, Bool.and_self, h4, cond_true, h3, h5, hp.1, hp.2.1, cond_false, hn, leftW]
    · have hp2 := hp.2.2
      rw [hn] at hp2
      simp only [Bool.not_true, Bool.false_or] at hp2
      simp only [impl_sumsToAll_g0, h1, h0, Bool.and_self, h4, cond_true, h3, h5, hp.1, hp.2.1, Bool.not_true, cond_false, hn, hp2, leftW]) (by
    have h1 : decide (((36 : Nat) : Int) < 36) = false := by decide
    simp only [impl_sumsToAll_g0, h1, cond_false]) (allB (pI a0 a1 X)) (allB_iff _) (some (.a (.b (num a1 39 == leftW X a1 36)), .none, true)) (some (.a (.b false), .none, true)) rfl (fun k hk hp => by
    refine ⟨.more (false, leftW X a1 k, (k : Int)), ?_, rfl⟩
    have h1 : decide ((k : Int) < 36) = true := decide_eq_true (by omega)
    have h0 : decide (0 ≤ (k : Int)) = true := decide_eq_true (by omega)
    have h3 : IntKind.i64.wrap ((k : Int) + 1) = ((k + 1 : Nat) : Int) := by rw [IntWalk.i64_in _ (by omega)]; omega
    have h4 : ((k : Int)).toNat = k := Int.toNat_natCast k
    have h5 := cell_num (T := 0) hz k hk
    unfold pI at hp
    cases hi : decide (num a1 (3 + k * 1) < 0)
    · cases hj : decide (num a1 (3 + k * 1) > leftW X a1 k)
      · rw [hi, hj] at hp
        simp only [Bool.not_false, Bool.true_and, Bool.or_eq_false_iff, Bool.not_eq_false'] at hp
        simp only [impl_sumsToAll_g0, h1, h0, Bool.and_self, h4, cond_true, h5, hi, hj, cond_false, hp.1, hp.2, Bool.not_false]
      · simp only [impl_sumsToAll_g0, h1, h0, Bool.and_self, h4, cond_true, h5, hi, hj, cond_false]
    · simp only [impl_sumsToAll_g0, h1, h0, Bool.and_self, h4, cond_true, h5, hi])).trans ?_
  cases allB (pI a0 a1 X) <;> rfl
noncomputable def impl_sumsToAll_con : Con := fun args h => match args, h with
  | [.g a0 39, .g a1 32], [] => some (.a (.b ((implSp a0 a1))), .none, (impl_allOf_gd a1))
  | _, _ => none
theorem impl_sumsToAll_enter : EntX Try.prog 41 := entX_ok (fn := Try.f41) (by kernel_rfl) (by kernel_rfl) (by kernel_rfl)
theorem impl_sumsToAll_ok : ConOkX mn Try.prog 41 impl_sumsToAll_con := (ansX_ok (N := 1000) (by kernel_rfl) (mkΓ_consX (con_okX impl_allOf_ok) impl_allOf_enter (mkΓ_consX (con_okX impl_hasCell_ok) impl_hasCell_enter mkΓ_nilX)) (fn := Try.f41) (by kernel_rfl) (by kernel_rfl) [([4, 5, 12], [])]).of (by
  intro ρ h w args vals r e hA hH hr
  unfold impl_sumsToAll_con at hr
  split at hr
  · rename_i a0 a1
    obtain ⟨rfl, hg⟩ := Prod.mk.inj (Option.some.inj hr)
    obtain ⟨rfl, hg2⟩ := Prod.mk.inj hg
    exact impl_sumsToAll_main a0 a1 (hA.wt 0 rfl) (hA.wt 1 rfl) hg2
  · cases hr)
end
end Go.Proofs.Ytnbfkpecnhhecaa
