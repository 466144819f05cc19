/- Seas copied and compared; places, tides and land; the codes of sea, cell and spot. -/
import Derived.Test.YthpcidnfbceliaaDoorProg
import Derived.Test.YthpcidnfbceliaaDoorVeSea
namespace Go.Proofs.YthpcidnfbceliaaDoor
open Go.ChangeShapes Go.WideShapes Go.ChangeAt Go.RowKit Ve
set_option linter.unusedVariables false
set_option linter.unusedSimpArgs false
set_option maxRecDepth 100000
noncomputable section
noncomputable def laws_toChances_t0 (a0 : Array Value) : St := (⟨.a (.g a0 24) :: .a (.w 0) :: .a (.w 1) :: .a (.w 2) :: .a (.i .i64 (0 : Int)) :: us 10 ([]), [.row a0 24, .row #[.int .u8 (0 : Int), .int .u8 (0 : Int), .int .u8 (0 : Int), .int .u8 (0 : Int), .int .u8 (0 : Int)] 34, .row #[.int .u8 (0 : Int), .int .u8 (0 : Int), .int .u8 (0 : Int), .int .u8 (0 : Int), .int .u8 (0 : Int)] 34], []⟩ : St)

noncomputable def laws_toChances_e0 : Int × Array Value → LS
  | (y0_4, r0_2) => ([.a (.i .i64 (y0_4))], [.row r0_2 34])

noncomputable def laws_toChances_x0 : Int × Array Value → Exit × LS
  | t => ((.exit 0), laws_toChances_e0 t)

noncomputable def laws_toChances_g0 (P : Program) (a0 : Array Value) : Int × Array Value → Option (Stp (Int × Array Value) (Int × Array Value))
  | (y0_4, r0_2) => bif decide (y0_4 < (5 : Int)) then (bif (decide (0 ≤ y0_4) && decide (y0_4 < 5)) then (bif (decide (0 ≤ y0_4) && decide (y0_4 < 5)) then (some (.more ((IntKind.i64.wrap (y0_4 + (1 : Int))), (r0_2.setIfInBounds ((y0_4).toNat * 1) (.int .u8 (num a0 ((y0_4).toNat * 1)))))))
        else (none))
      else (none))
    else (some (.done (y0_4, r0_2)))

theorem laws_toChances_s0 (N : Nat) (a0 : Array Value) : ∀ t : Int × Array Value, stepV Tryd.prog (mkΓ []) N (cAt (codeOf Tryd.f83) [1, 1, 0, 1, 0, 0]) (pAt (mkPlan (codeOf Tryd.f83) [([4], [2])]).1 [1, 1, 0, 1, 0]) [4] [2] (laws_toChances_t0 a0) (laws_toChances_e0 t) = mapS laws_toChances_e0 laws_toChances_x0 (laws_toChances_g0 Tryd.prog a0 t) := by
  rintro ⟨y0_4, r0_2⟩
  refine Eq.trans (b := (bif decide (y0_4 < (5 : Int)) then (bif (decide (0 ≤ y0_4) && decide (y0_4 < 5)) then (bif (decide (0 ≤ y0_4) && decide (y0_4 < 5)) then (some (.more ([.a (.i .i64 (IntKind.i64.wrap (y0_4 + (1 : Int))))], [.row (r0_2.setIfInBounds ((y0_4).toNat * 1) (.int .u8 (num a0 ((y0_4).toNat * 1)))) 34])))
        else (none))
      else (none))
    else (some (.done ((.exit 0), ([.a (.i .i64 (y0_4))], [.row r0_2 34])))))) (by kernel_rfl) ?_
  simp only [laws_toChances_g0, mapS_cond, mapS_more, mapS_done, mapS_none, laws_toChances_e0, laws_toChances_x0]

noncomputable def laws_toChances_k0_0 (P : Program) (N : Nat) (a0 : Array Value) (z0_4 : Int) (q0_2 : Array Value) : Option (SV × Eff × Bool) := some (.a (.g q0_2 34), .none, true)

theorem laws_toChances_k0_0_eq (N : Nat) (a0 : Array Value) (z0_4 : Int) (q0_2 : Array Value) : (kBlock 0 (kSeq (veC Tryd.prog (mkΓ []) N (cAt (codeOf Tryd.f83) [1, 1, 1]) (pAt (mkPlan (codeOf Tryd.f83) [([4], [2])]).1 [1, 1, 1]) (SV × Eff × Bool)) (finK Tryd.prog [] [.cell 2 34]))) (.exit 0) (left (writes (cAt (codeOf Tryd.f83) [1, 1, 0, 1, 0, 0])) [4] [2] (laws_toChances_t0 a0) ([.a (.i .i64 (z0_4))], [.row q0_2 34])) = laws_toChances_k0_0 Tryd.prog N a0 z0_4 q0_2 := by
  refine Eq.trans (b := (some (.a (.g q0_2 34), .none, true))) (by kernel_rfl) ?_
  rfl

theorem laws_toChances_n0 (N : Nat) (a0 : Array Value) : bindX (iterO (stepV Tryd.prog (mkΓ []) N (cAt (codeOf Tryd.f83) [1, 1, 0, 1, 0, 0]) (pAt (mkPlan (codeOf Tryd.f83) [([4], [2])]).1 [1, 1, 0, 1, 0]) [4] [2] (laws_toChances_t0 a0)) N ([.a (.i .i64 (0 : Int))], [.row (#[.int .u8 (0 : Int), .int .u8 (0 : Int), .int .u8 (0 : Int), .int .u8 (0 : Int), .int .u8 (0 : Int)] : Array Value) 34])) (fun e s => (kBlock 0 (kSeq (veC Tryd.prog (mkΓ []) N (cAt (codeOf Tryd.f83) [1, 1, 1]) (pAt (mkPlan (codeOf Tryd.f83) [([4], [2])]).1 [1, 1, 1]) (SV × Eff × Bool)) (finK Tryd.prog [] [.cell 2 34]))) e (left (writes (cAt (codeOf Tryd.f83) [1, 1, 0, 1, 0, 0])) [4] [2] (laws_toChances_t0 a0) s)) = nodeX (iterO (laws_toChances_g0 Tryd.prog a0) N ((0 : Int), (#[.int .u8 (0 : Int), .int .u8 (0 : Int), .int .u8 (0 : Int), .int .u8 (0 : Int), .int .u8 (0 : Int)] : Array Value))) (fun x => laws_toChances_k0_0 Tryd.prog N a0 x.1 x.2) := by
  refine loop_node laws_toChances_e0 laws_toChances_x0 _ _ (laws_toChances_s0 N a0) N ((0 : Int), (#[.int .u8 (0 : Int), .int .u8 (0 : Int), .int .u8 (0 : Int), .int .u8 (0 : Int), .int .u8 (0 : Int)] : Array Value)) _ _ ?_
  intro x; exact laws_toChances_k0_0_eq N a0 x.1 x.2

theorem laws_toChances_ans (N : Nat) (a0 : Array Value) : ansV Tryd.prog (mkΓ []) N Tryd.f83 [([4], [2])] [.g a0 24] [] = (nodeX (iterO (laws_toChances_g0 Tryd.prog a0) N ((0 : Int), (#[.int .u8 (0 : Int), .int .u8 (0 : Int), .int .u8 (0 : Int), .int .u8 (0 : Int), .int .u8 (0 : Int)] : Array Value))) (fun x => laws_toChances_k0_0 Tryd.prog N a0 x.1 x.2)) := by
  refine Eq.trans (b := (bindX (iterO (stepV Tryd.prog (mkΓ []) N (cAt (codeOf Tryd.f83) [1, 1, 0, 1, 0, 0]) (pAt (mkPlan (codeOf Tryd.f83) [([4], [2])]).1 [1, 1, 0, 1, 0]) [4] [2] (laws_toChances_t0 a0)) N ([.a (.i .i64 (0 : Int))], [.row (#[.int .u8 (0 : Int), .int .u8 (0 : Int), .int .u8 (0 : Int), .int .u8 (0 : Int), .int .u8 (0 : Int)] : Array Value) 34])) (fun e s => (kBlock 0 (kSeq (veC Tryd.prog (mkΓ []) N (cAt (codeOf Tryd.f83) [1, 1, 1]) (pAt (mkPlan (codeOf Tryd.f83) [([4], [2])]).1 [1, 1, 1]) (SV × Eff × Bool)) (finK Tryd.prog [] [.cell 2 34]))) e (left (writes (cAt (codeOf Tryd.f83) [1, 1, 0, 1, 0, 0])) [4] [2] (laws_toChances_t0 a0) s)))) (by kernel_rfl) ?_
  simp only [laws_toChances_n0 N a0]

theorem laws_toChances_main (a0 : Array Value) (h_a0 : WT Tryd.prog 24 a0) (hg : (true) = true) : ansV Tryd.prog (mkΓ []) 1000 Tryd.f83 [([4], [2])] [.g a0 24] [] = some (.a (.g a0 34), .none, true) := by
  have hs : a0.size = (#[.int .u8 (0 : Int), .int .u8 (0 : Int), .int .u8 (0 : Int), .int .u8 (0 : Int), .int .u8 (0 : Int)] : Array Value).size := by rw [h_a0.layLen]; kernel_rfl
  have hz : a0.size = 5 := by rw [h_a0.layLen]; kernel_rfl
  have hL : ∀ k, k < 5 → (lay Tryd.prog 24)[k * 1]? = some 4 := by
    intro k hk
    have h : (List.range 5).all (fun k => (lay Tryd.prog 24)[k * 1]? == some 4) = true := by kernel_rfl
    exact eq_of_beq (List.all_eq_true.1 h k (List.mem_range.2 hk))
  have h := iter_all (g := laws_toChances_g0 Tryd.prog a0) (fun k => ((k : Int), upto a0 (#[.int .u8 (0 : Int), .int .u8 (0 : Int), .int .u8 (0 : Int), .int .u8 (0 : Int), .int .u8 (0 : Int)] : Array Value) (k * 1))) (m := 5) (x := (((5 : Nat) : Int), upto a0 (#[.int .u8 (0 : Int), .int .u8 (0 : Int), .int .u8 (0 : Int), .int .u8 (0 : Int), .int .u8 (0 : Int)] : Array Value) (5 * 1))) (N := 1000) (fun k hk => by
    have h1 : decide ((k : Int) < 5) = true := decide_eq_true (by omega)
    have h0 : decide (0 ≤ (k : Int)) = true := decide_eq_true (by omega)
    have h3 : IntKind.i64.wrap ((k : Int) + 1) = ((k + 1 : Nat) : Int) := by rw [IntWalk.i64_in _ (by omega)]; omega
    have h4 : ((k : Int)).toNat = k := Int.toNat_natCast k
    have h5 : (upto a0 (#[.int .u8 (0 : Int), .int .u8 (0 : Int), .int .u8 (0 : Int), .int .u8 (0 : Int), .int .u8 (0 : Int)] : Array Value) (k * 1)).setIfInBounds (k * 1) (.int .u8 (num a0 (k * 1))) = upto a0 (#[.int .u8 (0 : Int), .int .u8 (0 : Int), .int .u8 (0 : Int), .int .u8 (0 : Int), .int .u8 (0 : Int)] : Array Value) ((k + 1) * 1) := by
      rw [Nat.add_mul]; exact upto_set hs (h_a0.int (k := .u8) (hL k hk)).1
    simp only [laws_toChances_g0, h1, h0, Bool.and_self, h4, cond_true, h3, h5]) (by
    have h1 : decide (((5 : Nat) : Int) < 5) = false := by decide
    simp only [laws_toChances_g0, h1, cond_false]) (by omega)
  simp only [Nat.zero_mul, upto_zero hs, upto_all hs hz] at h
  refine (laws_toChances_ans 1000 a0).trans ?_
  have h' : iterO (laws_toChances_g0 Tryd.prog a0) 1000 ((0 : Int), (#[.int .u8 (0 : Int), .int .u8 (0 : Int), .int .u8 (0 : Int), .int .u8 (0 : Int), .int .u8 (0 : Int)] : Array Value)) = some (((5 : Nat) : Int), a0) := h
  rw [h']
  rfl
noncomputable def laws_toChances_con : Con := fun args h => match args, h with
  | [.g a0 24], [] => some (.a (.g a0 34), .none, true)
  | _, _ => none
theorem laws_toChances_enter : ∀ args w, (callFunc 83 args).run Tryd.prog w = .ok (.enter 83 args) w := enter_ok (fn := Tryd.f83) (by kernel_rfl) (by kernel_rfl) (by kernel_rfl)
theorem laws_toChances_ok : ConOk Tryd.prog 83 laws_toChances_con := (ans_ok (N := 1000) (by kernel_rfl) mkΓ_nil (fn := Tryd.f83) (by kernel_rfl) (by kernel_rfl) [([4], [2])]).of (by
  intro ρ h w args vals r e hA hH hr
  unfold laws_toChances_con at hr
  split at hr
  · rename_i a0
    obtain ⟨rfl, hg⟩ := Prod.mk.inj (Option.some.inj hr)
    obtain ⟨rfl, hg2⟩ := Prod.mk.inj hg
    exact laws_toChances_main a0 (hA.wt 0 rfl) hg2
  · cases hr)

noncomputable def laws_toChancesA36_t0 (a0 : Array Value) : St := (⟨.a (.g a0 25) :: .a (.w 0) :: .a (.w 1) :: .a (.w 2) :: .a (.i .i64 (0 : Int)) :: us 11 ([]), [.row a0 25, .row (zc Tryd.prog 35) 35, .row (zc Tryd.prog 35) 35], []⟩ : St)

noncomputable def laws_toChancesA36_e0 : Int × Array Value → LS
  | (y0_4, r0_2) => ([.a (.i .i64 (y0_4))], [.row r0_2 35])

noncomputable def laws_toChancesA36_x0 : Int × Array Value → Exit × LS
  | t => ((.exit 0), laws_toChancesA36_e0 t)

noncomputable def laws_toChancesA36_g0 (P : Program) (a0 : Array Value) : Int × Array Value → Option (Stp (Int × Array Value) (Int × Array Value))
  | (y0_4, r0_2) => bif decide (y0_4 < (36 : Int)) then (bif (decide (0 ≤ y0_4) && decide (y0_4 < 36)) then (bif (decide (0 ≤ y0_4) && decide (y0_4 < 36)) then (some (.more ((IntKind.i64.wrap (y0_4 + (1 : Int))), (spl r0_2 ((y0_4).toNat * 5) (a0.extract ((y0_4).toNat * 5) (((y0_4).toNat * 5) + 5)).toList))))
        else (none))
      else (none))
    else (some (.done (y0_4, r0_2)))

theorem laws_toChancesA36_s0 (N : Nat) (a0 : Array Value) : ∀ t : Int × Array Value, stepV Tryd.prog (mkΓ [(83, con laws_toChances_con)]) N (cAt (codeOf Tryd.f54) [1, 1, 0, 1, 0, 0]) (pAt (mkPlan (codeOf Tryd.f54) [([4], [2])]).1 [1, 1, 0, 1, 0]) [4] [2] (laws_toChancesA36_t0 a0) (laws_toChancesA36_e0 t) = mapS laws_toChancesA36_e0 laws_toChancesA36_x0 (laws_toChancesA36_g0 Tryd.prog a0 t) := by
  rintro ⟨y0_4, r0_2⟩
  refine Eq.trans (b := (bif decide (y0_4 < (36 : Int)) then (bif (decide (0 ≤ y0_4) && decide (y0_4 < 36)) then (bif (decide (0 ≤ y0_4) && decide (y0_4 < 36)) then (some (.more ([.a (.i .i64 (IntKind.i64.wrap (y0_4 + (1 : Int))))], [.row (spl r0_2 ((y0_4).toNat * 5) (a0.extract ((y0_4).toNat * 5) (((y0_4).toNat * 5) + 5)).toList) 35])))
        else (none))
      else (none))
    else (some (.done ((.exit 0), ([.a (.i .i64 (y0_4))], [.row r0_2 35])))))) (by kernel_rfl) ?_
  simp only [laws_toChancesA36_g0, mapS_cond, mapS_more, mapS_done, mapS_none, laws_toChancesA36_e0, laws_toChancesA36_x0]

noncomputable def laws_toChancesA36_k0_0 (P : Program) (N : Nat) (a0 : Array Value) (z0_4 : Int) (q0_2 : Array Value) : Option (SV × Eff × Bool) := some (.a (.g q0_2 35), .none, true)

theorem laws_toChancesA36_k0_0_eq (N : Nat) (a0 : Array Value) (z0_4 : Int) (q0_2 : Array Value) : (kBlock 0 (kSeq (veC Tryd.prog (mkΓ [(83, con laws_toChances_con)]) N (cAt (codeOf Tryd.f54) [1, 1, 1]) (pAt (mkPlan (codeOf Tryd.f54) [([4], [2])]).1 [1, 1, 1]) (SV × Eff × Bool)) (finK Tryd.prog [] [.cell 2 35]))) (.exit 0) (left (writes (cAt (codeOf Tryd.f54) [1, 1, 0, 1, 0, 0])) [4] [2] (laws_toChancesA36_t0 a0) ([.a (.i .i64 (z0_4))], [.row q0_2 35])) = laws_toChancesA36_k0_0 Tryd.prog N a0 z0_4 q0_2 := by
  refine Eq.trans (b := (some (.a (.g q0_2 35), .none, true))) (by kernel_rfl) ?_
  rfl

theorem laws_toChancesA36_n0 (N : Nat) (a0 : Array Value) : bindX (iterO (stepV Tryd.prog (mkΓ [(83, con laws_toChances_con)]) N (cAt (codeOf Tryd.f54) [1, 1, 0, 1, 0, 0]) (pAt (mkPlan (codeOf Tryd.f54) [([4], [2])]).1 [1, 1, 0, 1, 0]) [4] [2] (laws_toChancesA36_t0 a0)) N ([.a (.i .i64 (0 : Int))], [.row (zc Tryd.prog 35) 35])) (fun e s => (kBlock 0 (kSeq (veC Tryd.prog (mkΓ [(83, con laws_toChances_con)]) N (cAt (codeOf Tryd.f54) [1, 1, 1]) (pAt (mkPlan (codeOf Tryd.f54) [([4], [2])]).1 [1, 1, 1]) (SV × Eff × Bool)) (finK Tryd.prog [] [.cell 2 35]))) e (left (writes (cAt (codeOf Tryd.f54) [1, 1, 0, 1, 0, 0])) [4] [2] (laws_toChancesA36_t0 a0) s)) = nodeX (iterO (laws_toChancesA36_g0 Tryd.prog a0) N ((0 : Int), (zc Tryd.prog 35))) (fun x => laws_toChancesA36_k0_0 Tryd.prog N a0 x.1 x.2) := by
  refine loop_node laws_toChancesA36_e0 laws_toChancesA36_x0 _ _ (laws_toChancesA36_s0 N a0) N ((0 : Int), (zc Tryd.prog 35)) _ _ ?_
  intro x; exact laws_toChancesA36_k0_0_eq N a0 x.1 x.2

theorem laws_toChancesA36_ans (N : Nat) (a0 : Array Value) : ansV Tryd.prog (mkΓ [(83, con laws_toChances_con)]) N Tryd.f54 [([4], [2])] [.g a0 25] [] = (nodeX (iterO (laws_toChancesA36_g0 Tryd.prog a0) N ((0 : Int), (zc Tryd.prog 35))) (fun x => laws_toChancesA36_k0_0 Tryd.prog N a0 x.1 x.2)) := by
  refine Eq.trans (b := (bindX (iterO (stepV Tryd.prog (mkΓ [(83, con laws_toChances_con)]) N (cAt (codeOf Tryd.f54) [1, 1, 0, 1, 0, 0]) (pAt (mkPlan (codeOf Tryd.f54) [([4], [2])]).1 [1, 1, 0, 1, 0]) [4] [2] (laws_toChancesA36_t0 a0)) N ([.a (.i .i64 (0 : Int))], [.row (zc Tryd.prog 35) 35])) (fun e s => (kBlock 0 (kSeq (veC Tryd.prog (mkΓ [(83, con laws_toChances_con)]) N (cAt (codeOf Tryd.f54) [1, 1, 1]) (pAt (mkPlan (codeOf Tryd.f54) [([4], [2])]).1 [1, 1, 1]) (SV × Eff × Bool)) (finK Tryd.prog [] [.cell 2 35]))) e (left (writes (cAt (codeOf Tryd.f54) [1, 1, 0, 1, 0, 0])) [4] [2] (laws_toChancesA36_t0 a0) s)))) (by kernel_rfl) ?_
  simp only [laws_toChancesA36_n0 N a0]

theorem laws_toChancesA36_main (a0 : Array Value) (h_a0 : WT Tryd.prog 25 a0) (hg : (true) = true) : ansV Tryd.prog (mkΓ [(83, con laws_toChances_con)]) 1000 Tryd.f54 [([4], [2])] [.g a0 25] [] = some (.a (.g a0 35), .none, true) := by
  have hs : a0.size = (zc Tryd.prog 35).size := by rw [h_a0.layLen]; kernel_rfl
  have hz : a0.size = 180 := by rw [h_a0.layLen]; kernel_rfl
  have hL : ∀ k, k < 36 → (lay Tryd.prog 25)[k * 5]? = some 4 := by
    intro k hk
    have h : (List.range 36).all (fun k => (lay Tryd.prog 25)[k * 5]? == some 4) = true := by kernel_rfl
    exact eq_of_beq (List.all_eq_true.1 h k (List.mem_range.2 hk))
  have h := iter_all (g := laws_toChancesA36_g0 Tryd.prog a0) (fun k => ((k : Int), upto a0 (zc Tryd.prog 35) (k * 5))) (m := 36) (x := (((36 : Nat) : Int), upto a0 (zc Tryd.prog 35) (36 * 5))) (N := 1000) (fun k hk => by
    have h1 : decide ((k : Int) < 36) = true := decide_eq_true (by omega)
    have h0 : decide (0 ≤ (k : Int)) = true := decide_eq_true (by omega)
    have h3 : IntKind.i64.wrap ((k : Int) + 1) = ((k + 1 : Nat) : Int) := by rw [IntWalk.i64_in _ (by omega)]; omega
    have h4 : ((k : Int)).toNat = k := Int.toNat_natCast k
    have h5 : spl (upto a0 (zc Tryd.prog 35) (k * 5)) (k * 5) (a0.extract (k * 5) (k * 5 + 5)).toList = upto a0 (zc Tryd.prog 35) ((k + 1) * 5) := by
      rw [Nat.add_mul]; exact upto_spl hs (by omega) rfl
    simp only [laws_toChancesA36_g0, h1, h0, Bool.and_self, h4, cond_true, h3, h5]) (by
    have h1 : decide (((36 : Nat) : Int) < 36) = false := by decide
    simp only [laws_toChancesA36_g0, h1, cond_false]) (by omega)
  simp only [Nat.zero_mul, upto_zero hs, upto_all hs hz] at h
  refine (laws_toChancesA36_ans 1000 a0).trans ?_
  have h' : iterO (laws_toChancesA36_g0 Tryd.prog a0) 1000 ((0 : Int), (zc Tryd.prog 35)) = some (((36 : Nat) : Int), a0) := h
  rw [h']
  rfl
noncomputable def laws_toChancesA36_con : Con := fun args h => match args, h with
  | [.g a0 25], [] => some (.a (.g a0 35), .none, true)
  | _, _ => none
theorem laws_toChancesA36_enter : ∀ args w, (callFunc 54 args).run Tryd.prog w = .ok (.enter 54 args) w := enter_ok (fn := Tryd.f54) (by kernel_rfl) (by kernel_rfl) (by kernel_rfl)
theorem laws_toChancesA36_ok : ConOk Tryd.prog 54 laws_toChancesA36_con := (ans_ok (N := 1000) (by kernel_rfl) (mkΓ_cons (con_ok laws_toChances_ok) laws_toChances_enter mkΓ_nil) (fn := Tryd.f54) (by kernel_rfl) (by kernel_rfl) [([4], [2])]).of (by
  intro ρ h w args vals r e hA hH hr
  unfold laws_toChancesA36_con at hr
  split at hr
  · rename_i a0
    obtain ⟨rfl, hg⟩ := Prod.mk.inj (Option.some.inj hr)
    obtain ⟨rfl, hg2⟩ := Prod.mk.inj hg
    exact laws_toChancesA36_main a0 (hA.wt 0 rfl) hg2
  · cases hr)

noncomputable def laws_toChancesA36A2_t0 (a0 : Array Value) : St := (⟨.a (.g a0 26) :: .a (.w 0) :: .a (.w 1) :: .a (.w 2) :: .a (.i .i64 (0 : Int)) :: us 11 ([]), [.row a0 26, .row (zc Tryd.prog 36) 36, .row (zc Tryd.prog 36) 36], []⟩ : St)

noncomputable def laws_toChancesA36A2_e0 : Int × Array Value → LS
  | (y0_4, r0_2) => ([.a (.i .i64 (y0_4))], [.row r0_2 36])

noncomputable def laws_toChancesA36A2_x0 : Int × Array Value → Exit × LS
  | t => ((.exit 0), laws_toChancesA36A2_e0 t)

noncomputable def laws_toChancesA36A2_g0 (P : Program) (a0 : Array Value) : Int × Array Value → Option (Stp (Int × Array Value) (Int × Array Value))
  | (y0_4, r0_2) => bif decide (y0_4 < (2 : Int)) then (bif (decide (0 ≤ y0_4) && decide (y0_4 < 2)) then (bif (decide (0 ≤ y0_4) && decide (y0_4 < 2)) then (some (.more ((IntKind.i64.wrap (y0_4 + (1 : Int))), (spl r0_2 ((y0_4).toNat * 180) (a0.extract ((y0_4).toNat * 180) (((y0_4).toNat * 180) + 180)).toList))))
        else (none))
      else (none))
    else (some (.done (y0_4, r0_2)))

theorem laws_toChancesA36A2_s0 (N : Nat) (a0 : Array Value) : ∀ t : Int × Array Value, stepV Tryd.prog (mkΓ [(54, con laws_toChancesA36_con)]) N (cAt (codeOf Tryd.f28) [1, 1, 0, 1, 0, 0]) (pAt (mkPlan (codeOf Tryd.f28) [([4], [2])]).1 [1, 1, 0, 1, 0]) [4] [2] (laws_toChancesA36A2_t0 a0) (laws_toChancesA36A2_e0 t) = mapS laws_toChancesA36A2_e0 laws_toChancesA36A2_x0 (laws_toChancesA36A2_g0 Tryd.prog a0 t) := by
  rintro ⟨y0_4, r0_2⟩
  refine Eq.trans (b := (bif decide (y0_4 < (2 : Int)) then (bif (decide (0 ≤ y0_4) && decide (y0_4 < 2)) then (bif (decide (0 ≤ y0_4) && decide (y0_4 < 2)) then (some (.more ([.a (.i .i64 (IntKind.i64.wrap (y0_4 + (1 : Int))))], [.row (spl r0_2 ((y0_4).toNat * 180) (a0.extract ((y0_4).toNat * 180) (((y0_4).toNat * 180) + 180)).toList) 36])))
        else (none))
      else (none))
    else (some (.done ((.exit 0), ([.a (.i .i64 (y0_4))], [.row r0_2 36])))))) (by kernel_rfl) ?_
  simp only [laws_toChancesA36A2_g0, mapS_cond, mapS_more, mapS_done, mapS_none, laws_toChancesA36A2_e0, laws_toChancesA36A2_x0]

noncomputable def laws_toChancesA36A2_k0_0 (P : Program) (N : Nat) (a0 : Array Value) (z0_4 : Int) (q0_2 : Array Value) : Option (SV × Eff × Bool) := some (.a (.g q0_2 36), .none, true)

theorem laws_toChancesA36A2_k0_0_eq (N : Nat) (a0 : Array Value) (z0_4 : Int) (q0_2 : Array Value) : (kBlock 0 (kSeq (veC Tryd.prog (mkΓ [(54, con laws_toChancesA36_con)]) N (cAt (codeOf Tryd.f28) [1, 1, 1]) (pAt (mkPlan (codeOf Tryd.f28) [([4], [2])]).1 [1, 1, 1]) (SV × Eff × Bool)) (finK Tryd.prog [] [.cell 2 36]))) (.exit 0) (left (writes (cAt (codeOf Tryd.f28) [1, 1, 0, 1, 0, 0])) [4] [2] (laws_toChancesA36A2_t0 a0) ([.a (.i .i64 (z0_4))], [.row q0_2 36])) = laws_toChancesA36A2_k0_0 Tryd.prog N a0 z0_4 q0_2 := by
  refine Eq.trans (b := (some (.a (.g q0_2 36), .none, true))) (by kernel_rfl) ?_
  rfl

theorem laws_toChancesA36A2_n0 (N : Nat) (a0 : Array Value) : bindX (iterO (stepV Tryd.prog (mkΓ [(54, con laws_toChancesA36_con)]) N (cAt (codeOf Tryd.f28) [1, 1, 0, 1, 0, 0]) (pAt (mkPlan (codeOf Tryd.f28) [([4], [2])]).1 [1, 1, 0, 1, 0]) [4] [2] (laws_toChancesA36A2_t0 a0)) N ([.a (.i .i64 (0 : Int))], [.row (zc Tryd.prog 36) 36])) (fun e s => (kBlock 0 (kSeq (veC Tryd.prog (mkΓ [(54, con laws_toChancesA36_con)]) N (cAt (codeOf Tryd.f28) [1, 1, 1]) (pAt (mkPlan (codeOf Tryd.f28) [([4], [2])]).1 [1, 1, 1]) (SV × Eff × Bool)) (finK Tryd.prog [] [.cell 2 36]))) e (left (writes (cAt (codeOf Tryd.f28) [1, 1, 0, 1, 0, 0])) [4] [2] (laws_toChancesA36A2_t0 a0) s)) = nodeX (iterO (laws_toChancesA36A2_g0 Tryd.prog a0) N ((0 : Int), (zc Tryd.prog 36))) (fun x => laws_toChancesA36A2_k0_0 Tryd.prog N a0 x.1 x.2) := by
  refine loop_node laws_toChancesA36A2_e0 laws_toChancesA36A2_x0 _ _ (laws_toChancesA36A2_s0 N a0) N ((0 : Int), (zc Tryd.prog 36)) _ _ ?_
  intro x; exact laws_toChancesA36A2_k0_0_eq N a0 x.1 x.2

theorem laws_toChancesA36A2_ans (N : Nat) (a0 : Array Value) : ansV Tryd.prog (mkΓ [(54, con laws_toChancesA36_con)]) N Tryd.f28 [([4], [2])] [.g a0 26] [] = (nodeX (iterO (laws_toChancesA36A2_g0 Tryd.prog a0) N ((0 : Int), (zc Tryd.prog 36))) (fun x => laws_toChancesA36A2_k0_0 Tryd.prog N a0 x.1 x.2)) := by
  refine Eq.trans (b := (bindX (iterO (stepV Tryd.prog (mkΓ [(54, con laws_toChancesA36_con)]) N (cAt (codeOf Tryd.f28) [1, 1, 0, 1, 0, 0]) (pAt (mkPlan (codeOf Tryd.f28) [([4], [2])]).1 [1, 1, 0, 1, 0]) [4] [2] (laws_toChancesA36A2_t0 a0)) N ([.a (.i .i64 (0 : Int))], [.row (zc Tryd.prog 36) 36])) (fun e s => (kBlock 0 (kSeq (veC Tryd.prog (mkΓ [(54, con laws_toChancesA36_con)]) N (cAt (codeOf Tryd.f28) [1, 1, 1]) (pAt (mkPlan (codeOf Tryd.f28) [([4], [2])]).1 [1, 1, 1]) (SV × Eff × Bool)) (finK Tryd.prog [] [.cell 2 36]))) e (left (writes (cAt (codeOf Tryd.f28) [1, 1, 0, 1, 0, 0])) [4] [2] (laws_toChancesA36A2_t0 a0) s)))) (by kernel_rfl) ?_
  simp only [laws_toChancesA36A2_n0 N a0]

theorem laws_toChancesA36A2_main (a0 : Array Value) (h_a0 : WT Tryd.prog 26 a0) (hg : (true) = true) : ansV Tryd.prog (mkΓ [(54, con laws_toChancesA36_con)]) 1000 Tryd.f28 [([4], [2])] [.g a0 26] [] = some (.a (.g a0 36), .none, true) := by
  have hs : a0.size = (zc Tryd.prog 36).size := by rw [h_a0.layLen]; kernel_rfl
  have hz : a0.size = 360 := by rw [h_a0.layLen]; kernel_rfl
  have hL : ∀ k, k < 2 → (lay Tryd.prog 26)[k * 180]? = some 4 := by
    intro k hk
    have h : (List.range 2).all (fun k => (lay Tryd.prog 26)[k * 180]? == some 4) = true := by kernel_rfl
    exact eq_of_beq (List.all_eq_true.1 h k (List.mem_range.2 hk))
  have h := iter_all (g := laws_toChancesA36A2_g0 Tryd.prog a0) (fun k => ((k : Int), upto a0 (zc Tryd.prog 36) (k * 180))) (m := 2) (x := (((2 : Nat) : Int), upto a0 (zc Tryd.prog 36) (2 * 180))) (N := 1000) (fun k hk => by
    have h1 : decide ((k : Int) < 2) = true := decide_eq_true (by omega)
    have h0 : decide (0 ≤ (k : Int)) = true := decide_eq_true (by omega)
    have h3 : IntKind.i64.wrap ((k : Int) + 1) = ((k + 1 : Nat) : Int) := by rw [IntWalk.i64_in _ (by omega)]; omega
    have h4 : ((k : Int)).toNat = k := Int.toNat_natCast k
    have h5 : spl (upto a0 (zc Tryd.prog 36) (k * 180)) (k * 180) (a0.extract (k * 180) (k * 180 + 180)).toList = upto a0 (zc Tryd.prog 36) ((k + 1) * 180) := by
      rw [Nat.add_mul]; exact upto_spl hs (by omega) rfl
    simp only [laws_toChancesA36A2_g0, h1, h0, Bool.and_self, h4, cond_true, h3, h5]) (by
    have h1 : decide (((2 : Nat) : Int) < 2) = false := by decide
    simp only [laws_toChancesA36A2_g0, h1, cond_false]) (by omega)
  simp only [Nat.zero_mul, upto_zero hs, upto_all hs hz] at h
  refine (laws_toChancesA36A2_ans 1000 a0).trans ?_
  have h' : iterO (laws_toChancesA36A2_g0 Tryd.prog a0) 1000 ((0 : Int), (zc Tryd.prog 36)) = some (((2 : Nat) : Int), a0) := h
  rw [h']
  rfl
noncomputable def laws_toChancesA36A2_con : Con := fun args h => match args, h with
  | [.g a0 26], [] => some (.a (.g a0 36), .none, true)
  | _, _ => none
theorem laws_toChancesA36A2_enter : ∀ args w, (callFunc 28 args).run Tryd.prog w = .ok (.enter 28 args) w := enter_ok (fn := Tryd.f28) (by kernel_rfl) (by kernel_rfl) (by kernel_rfl)
theorem laws_toChancesA36A2_ok : ConOk Tryd.prog 28 laws_toChancesA36A2_con := (ans_ok (N := 1000) (by kernel_rfl) (mkΓ_cons (con_ok laws_toChancesA36_ok) laws_toChancesA36_enter mkΓ_nil) (fn := Tryd.f28) (by kernel_rfl) (by kernel_rfl) [([4], [2])]).of (by
  intro ρ h w args vals r e hA hH hr
  unfold laws_toChancesA36A2_con at hr
  split at hr
  · rename_i a0
    obtain ⟨rfl, hg⟩ := Prod.mk.inj (Option.some.inj hr)
    obtain ⟨rfl, hg2⟩ := Prod.mk.inj hg
    exact laws_toChancesA36A2_main a0 (hA.wt 0 rfl) hg2
  · cases hr)

noncomputable def laws_toSea_G : Cons := (mkΓ [(28, con laws_toChancesA36A2_con)])
theorem laws_toSea_ans (N : Nat) (a0 : Array Value) : ansV Tryd.prog laws_toSea_G N Tryd.f9 [] [.g a0 28] [] = (some (.a (.g (spl ((((zc Tryd.prog 38).setIfInBounds 0 (.int .i8 (num a0 0))).setIfInBounds 1 (.int .i8 (num a0 1))).setIfInBounds 2 (.int .u64 (num a0 2))) 3 (a0.extract 3 (3 + 360)).toList) 38), .none, true)) := by kernel_rfl

theorem laws_toSea_main (a0 : Array Value) (h_a0 : WT Tryd.prog 28 a0) (hg : (true) = true) : ansV Tryd.prog laws_toSea_G 1000 Tryd.f9 [] [.g a0 28] [] = some (.a (.g a0 38), .none, true) := by
  have hs : a0.size = (zc Tryd.prog 38).size := by rw [h_a0.layLen]; kernel_rfl
  have hz : a0.size = 363 := by rw [h_a0.layLen]; kernel_rfl
  have e0 : (upto a0 (zc Tryd.prog 38) 0).setIfInBounds 0 (.int .i8 (num a0 0)) = upto a0 (zc Tryd.prog 38) 1 := upto_set hs (h_a0.int (k := .i8) (by kernel_rfl)).1
  rw [upto_zero hs] at e0
  have e1 : (upto a0 (zc Tryd.prog 38) 1).setIfInBounds 1 (.int .i8 (num a0 1)) = upto a0 (zc Tryd.prog 38) 2 := upto_set hs (h_a0.int (k := .i8) (by kernel_rfl)).1
  have e2 : (upto a0 (zc Tryd.prog 38) 2).setIfInBounds 2 (.int .u64 (num a0 2)) = upto a0 (zc Tryd.prog 38) 3 := upto_set hs (h_a0.int (k := .u64) (by kernel_rfl)).1
  have e3 : spl (upto a0 (zc Tryd.prog 38) 3) 3 (a0.extract 3 (3 + 360)).toList = upto a0 (zc Tryd.prog 38) 363 := upto_spl hs (by omega) rfl
  refine (laws_toSea_ans 1000 a0).trans ?_
  rw [e0, e1, e2, e3, upto_all hs hz]
noncomputable def laws_toSea_con : Con := fun args h => match args, h with
  | [.g a0 28], [] => some (.a (.g a0 38), .none, true)
  | _, _ => none
theorem laws_toSea_enter : ∀ args w, (callFunc 9 args).run Tryd.prog w = .ok (.enter 9 args) w := enter_ok (fn := Tryd.f9) (by kernel_rfl) (by kernel_rfl) (by kernel_rfl)
theorem laws_toSea_ok : ConOk Tryd.prog 9 laws_toSea_con := (ans_ok (N := 1000) (by kernel_rfl) (mkΓ_cons (con_ok laws_toChancesA36A2_ok) laws_toChancesA36A2_enter mkΓ_nil) (fn := Tryd.f9) (by kernel_rfl) (by kernel_rfl) []).of (by
  intro ρ h w args vals r e hA hH hr
  unfold laws_toSea_con at hr
  split at hr
  · rename_i a0
    obtain ⟨rfl, hg⟩ := Prod.mk.inj (Option.some.inj hr)
    obtain ⟨rfl, hg2⟩ := Prod.mk.inj hg
    exact laws_toSea_main a0 (hA.wt 0 rfl) hg2
  · cases hr)

theorem spec_l00In_ans (N : Nat) (a0 : Int) (a1 : Int) (a2 : Int) : ansV Tryd.prog (mkΓ []) N Tryd.f27 [] [.i .i64 (a0), .i .i64 (a1), .i .i64 (a2)] [] = (bif decide (a0 ≥ a1) then (some (.a (.b (decide (a0 ≤ a2))), .none, true))
    else (some (.a (.b (false)), .none, true))) := by kernel_rfl

noncomputable def spec_l00In_v0 (a0 : Int) (a1 : Int) (a2 : Int) : Bool := (bif decide (a0 ≥ a1) then decide (a0 ≤ a2) else false)

theorem spec_l00In_main (a0 : Int) (a1 : Int) (a2 : Int) (h_a0 : IntKind.i64.min ≤ a0 ∧ a0 ≤ IntKind.i64.max) (h_a1 : IntKind.i64.min ≤ a1 ∧ a1 ≤ IntKind.i64.max) (h_a2 : IntKind.i64.min ≤ a2 ∧ a2 ≤ IntKind.i64.max) (hg : (true) = true) : ansV Tryd.prog (mkΓ []) 1000 Tryd.f27 [] [.i .i64 (a0), .i .i64 (a1), .i .i64 (a2)] [] = some (.a (.b ((spec_l00In_v0 a0 a1 a2))), .none, true) := by
  refine (spec_l00In_ans 1000 a0 a1 a2).trans ?_
  unfold spec_l00In_v0
  revert hg
  generalize (decide (a0 ≥ a1)) = b2
  intro hg
  cases b2
  · skip
    first | (simp only [cond_true, cond_false, Bool.and_true, Bool.true_and, Bool.and_false, Bool.false_and]; done) | rfl | exact (nomatch (hg : false = true))
  · skip
    first | (simp only [cond_true, cond_false, Bool.and_true, Bool.true_and, Bool.and_false, Bool.false_and]; done) | rfl | exact (nomatch (hg : false = true))
noncomputable def spec_l00In_con : Con := fun args h => match args, h with
  | [.i .i64 a0, .i .i64 a1, .i .i64 a2], [] => some (.a (.b ((spec_l00In_v0 a0 a1 a2))), .none, true)
  | _, _ => none
theorem spec_l00In_enter : ∀ args w, (callFunc 27 args).run Tryd.prog w = .ok (.enter 27 args) w := enter_ok (fn := Tryd.f27) (by kernel_rfl) (by kernel_rfl) (by kernel_rfl)
theorem spec_l00In_ok : ConOk Tryd.prog 27 spec_l00In_con := (ans_ok (N := 1000) (by kernel_rfl) mkΓ_nil (fn := Tryd.f27) (by kernel_rfl) (by kernel_rfl) []).of (by
  intro ρ h w args vals r e hA hH hr
  unfold spec_l00In_con at hr
  split at hr
  · rename_i a0 a1 a2
    obtain ⟨rfl, hg⟩ := Prod.mk.inj (Option.some.inj hr)
    obtain ⟨rfl, hg2⟩ := Prod.mk.inj hg
    exact spec_l00In_main a0 a1 a2 (hA.rng 0 rfl) (hA.rng 1 rfl) (hA.rng 2 rfl) hg2
  · cases hr)

theorem spec_l01Is_ans (N : Nat) (a1 : Int) (a0 : Array Value) : ansV Tryd.prog (mkΓ [(27, con spec_l00In_con)]) N Tryd.f60 [] [.w 0, .i .i64 (a1)] [.row a0 38] = (bif (spec_l00In_v0 a1 (0 : Int) (35 : Int)) then (bif decide (((a1).tmod (6 : Int)) < (IntKind.i64.wrap (num a0 0))) then (some (.a (.b (decide ((IntKind.i64.wrap ((a1).tdiv (6 : Int))) < (IntKind.i64.wrap (num a0 1))))), .none, true))
      else (some (.a (.b (false)), .none, true)))
    else (some (.a (.b (false)), .none, true))) := by kernel_rfl

noncomputable def spec_l01Is_v0 (a1 : Int) (a0 : Array Value) : Bool := (bif (spec_l00In_v0 a1 (0 : Int) (35 : Int)) then (bif decide (((a1).tmod (6 : Int)) < (IntKind.i64.wrap (num a0 0))) then decide ((IntKind.i64.wrap ((a1).tdiv (6 : Int))) < (IntKind.i64.wrap (num a0 1))) else false) else false)

theorem spec_l01Is_main (a1 : Int) (a0 : Array Value) (h_a1 : IntKind.i64.min ≤ a1 ∧ a1 ≤ IntKind.i64.max) (h_a0 : WT Tryd.prog 38 a0) (hg : (true) = true) : ansV Tryd.prog (mkΓ [(27, con spec_l00In_con)]) 1000 Tryd.f60 [] [.w 0, .i .i64 (a1)] [.row a0 38] = some (.a (.b ((spec_l01Is_v0 a1 a0))), .none, true) := by
  refine (spec_l01Is_ans 1000 a1 a0).trans ?_
  unfold spec_l01Is_v0
  revert hg
  generalize ((spec_l00In_v0 a1 (0 : Int) (35 : Int))) = b2
  intro hg
  cases b2
  · skip
    first | (simp only [cond_true, cond_false, Bool.and_true, Bool.true_and, Bool.and_false, Bool.false_and]; done) | rfl | exact (nomatch (hg : false = true))
  · skip
    revert hg
    generalize (decide (((a1).tmod (6 : Int)) < (IntKind.i64.wrap (num a0 0)))) = b4
    intro hg
    cases b4
    · skip
      first | (simp only [cond_true, cond_false, Bool.and_true, Bool.true_and, Bool.and_false, Bool.false_and]; done) | rfl | exact (nomatch (hg : false = true))
    · skip
      first | (simp only [cond_true, cond_false, Bool.and_true, Bool.true_and, Bool.and_false, Bool.false_and]; done) | rfl | exact (nomatch (hg : false = true))
noncomputable def spec_l01Is_con : Con := fun args h => match args, h with
  | [.w 0, .i .i64 a1], [.row a0 38] => some (.a (.b ((spec_l01Is_v0 a1 a0))), .none, true)
  | _, _ => none
theorem spec_l01Is_enter : ∀ args w, (callFunc 60 args).run Tryd.prog w = .ok (.enter 60 args) w := enter_ok (fn := Tryd.f60) (by kernel_rfl) (by kernel_rfl) (by kernel_rfl)
theorem spec_l01Is_ok : ConOk Tryd.prog 60 spec_l01Is_con := (ans_ok (N := 1000) (by kernel_rfl) (mkΓ_cons (con_ok spec_l00In_ok) spec_l00In_enter mkΓ_nil) (fn := Tryd.f60) (by kernel_rfl) (by kernel_rfl) []).of (by
  intro ρ h w args vals r e hA hH hr
  unfold spec_l01Is_con at hr
  split at hr
  · rename_i a1 a0
    obtain ⟨rfl, hg⟩ := Prod.mk.inj (Option.some.inj hr)
    obtain ⟨rfl, hg2⟩ := Prod.mk.inj hg
    exact spec_l01Is_main a1 a0 (hA.rng 1 rfl) (hH.wt 0 rfl) hg2
  · cases hr)

theorem spec_l01Tide_ans (N : Nat) (a0 : Int) : ansV Tryd.prog (mkΓ [(27, con spec_l00In_con)]) N Tryd.f58 [] [.i .i64 (a0)] [] = (some (.a (.b ((spec_l00In_v0 a0 (0 : Int) (1 : Int)))), .none, true)) := by kernel_rfl



theorem spec_l01Tide_main (a0 : Int) (h_a0 : IntKind.i64.min ≤ a0 ∧ a0 ≤ IntKind.i64.max) (hg : (true) = true) : ansV Tryd.prog (mkΓ [(27, con spec_l00In_con)]) 1000 Tryd.f58 [] [.i .i64 (a0)] [] = some (.a (.b ((spec_l00In_v0 a0 (0 : Int) (1 : Int)))), .none, true) := by
  refine (spec_l01Tide_ans 1000 a0).trans ?_
  rfl
noncomputable def spec_l01Tide_con : Con := fun args h => match args, h with
  | [.i .i64 a0], [] => some (.a (.b ((spec_l00In_v0 a0 (0 : Int) (1 : Int)))), .none, true)
  | _, _ => none
theorem spec_l01Tide_enter : ∀ args w, (callFunc 58 args).run Tryd.prog w = .ok (.enter 58 args) w := enter_ok (fn := Tryd.f58) (by kernel_rfl) (by kernel_rfl) (by kernel_rfl)
theorem spec_l01Tide_ok : ConOk Tryd.prog 58 spec_l01Tide_con := (ans_ok (N := 1000) (by kernel_rfl) (mkΓ_cons (con_ok spec_l00In_ok) spec_l00In_enter mkΓ_nil) (fn := Tryd.f58) (by kernel_rfl) (by kernel_rfl) []).of (by
  intro ρ h w args vals r e hA hH hr
  unfold spec_l01Tide_con at hr
  split at hr
  · rename_i a0
    obtain ⟨rfl, hg⟩ := Prod.mk.inj (Option.some.inj hr)
    obtain ⟨rfl, hg2⟩ := Prod.mk.inj hg
    exact spec_l01Tide_main a0 (hA.rng 0 rfl) hg2
  · cases hr)

theorem spec_l01Dry_ans (N : Nat) (a1 : Int) (a0 : Array Value) : ansV Tryd.prog (mkΓ []) N Tryd.f61 [] [.w 0, .i .i64 (a1)] [.row a0 38] = (bif decide (0 ≤ (IntKind.u64.wrap a1)) then (some (.a (.b (((((((num a0 2)).fdiv (2 ^ (min ((IntKind.u64.wrap a1)).toNat IntKind.u64.bits)))).tmod (2 : Int)) == (1 : Int)))), .none, true))
    else (none)) := by kernel_rfl

noncomputable def spec_l01Dry_v0 (a1 : Int) (a0 : Array Value) : Bool := ((((((num a0 2)).fdiv (2 ^ (min ((IntKind.u64.wrap a1)).toNat IntKind.u64.bits)))).tmod (2 : Int)) == (1 : Int))

theorem spec_l01Dry_main (a1 : Int) (a0 : Array Value) (h_a1 : IntKind.i64.min ≤ a1 ∧ a1 ≤ IntKind.i64.max) (h_a0 : WT Tryd.prog 38 a0) (hg : (decide (0 ≤ (IntKind.u64.wrap a1))) = true) : ansV Tryd.prog (mkΓ []) 1000 Tryd.f61 [] [.w 0, .i .i64 (a1)] [.row a0 38] = some (.a (.b ((spec_l01Dry_v0 a1 a0))), .none, true) := by
  refine (spec_l01Dry_ans 1000 a1 a0).trans ?_
  unfold spec_l01Dry_v0
  revert hg
  generalize (decide (0 ≤ (IntKind.u64.wrap a1))) = b2
  intro hg
  cases b2
  · skip
    first | exact (nomatch (hg : false = true)) | (simp only [cond_true, cond_false, Bool.and_true, Bool.true_and, Bool.and_false, Bool.false_and]; done) | rfl
  · skip
    first | (simp only [cond_true, cond_false, Bool.and_true, Bool.true_and, Bool.and_false, Bool.false_and]; done) | rfl | exact (nomatch (hg : false = true))
noncomputable def spec_l01Dry_con : Con := fun args h => match args, h with
  | [.w 0, .i .i64 a1], [.row a0 38] => some (.a (.b ((spec_l01Dry_v0 a1 a0))), .none, decide (0 ≤ (IntKind.u64.wrap a1)))
  | _, _ => none
theorem spec_l01Dry_enter : ∀ args w, (callFunc 61 args).run Tryd.prog w = .ok (.enter 61 args) w := enter_ok (fn := Tryd.f61) (by kernel_rfl) (by kernel_rfl) (by kernel_rfl)
theorem spec_l01Dry_ok : ConOk Tryd.prog 61 spec_l01Dry_con := (ans_ok (N := 1000) (by kernel_rfl) mkΓ_nil (fn := Tryd.f61) (by kernel_rfl) (by kernel_rfl) []).of (by
  intro ρ h w args vals r e hA hH hr
  unfold spec_l01Dry_con at hr
  split at hr
  · rename_i a1 a0
    obtain ⟨rfl, hg⟩ := Prod.mk.inj (Option.some.inj hr)
    obtain ⟨rfl, hg2⟩ := Prod.mk.inj hg
    exact spec_l01Dry_main a1 a0 (hA.rng 1 rfl) (hH.wt 0 rfl) hg2
  · cases hr)

noncomputable def spec_l01Wet_G : Cons := (mkΓ [(60, con spec_l01Is_con), (61, con spec_l01Dry_con)])
theorem spec_l01Wet_ans (N : Nat) (a1 : Int) (a0 : Array Value) : ansV Tryd.prog spec_l01Wet_G N Tryd.f35 [] [.w 0, .i .i64 (a1)] [.row a0 38] = (bif (spec_l01Is_v0 a1 a0) then (bif decide (0 ≤ (IntKind.u64.wrap a1)) then (some (.a (.b ((!((spec_l01Dry_v0 a1 a0))))), .none, true))
      else (none))
    else (some (.a (.b (false)), .none, true))) := by kernel_rfl

noncomputable def spec_l01Wet_v0 (a1 : Int) (a0 : Array Value) : Bool := (bif (spec_l01Is_v0 a1 a0) then (!((spec_l01Dry_v0 a1 a0))) else false)
noncomputable def spec_l01Wet_gd (a1 : Int) (a0 : Array Value) : Bool := (bif (spec_l01Is_v0 a1 a0) then decide (0 ≤ (IntKind.u64.wrap a1)) else true)

theorem spec_l01Wet_main (a1 : Int) (a0 : Array Value) (h_a1 : IntKind.i64.min ≤ a1 ∧ a1 ≤ IntKind.i64.max) (h_a0 : WT Tryd.prog 38 a0) (hg : ((spec_l01Wet_gd a1 a0)) = true) : ansV Tryd.prog spec_l01Wet_G 1000 Tryd.f35 [] [.w 0, .i .i64 (a1)] [.row a0 38] = some (.a (.b ((spec_l01Wet_v0 a1 a0))), .none, true) := by
  refine (spec_l01Wet_ans 1000 a1 a0).trans ?_
  unfold spec_l01Wet_gd at hg
  unfold spec_l01Wet_v0
  revert hg
  generalize ((spec_l01Is_v0 a1 a0)) = b2
  intro hg
  cases b2
  · skip
    first | (simp only [cond_true, cond_false, Bool.and_true, Bool.true_and, Bool.and_false, Bool.false_and]; done) | rfl | exact (nomatch (hg : false = true))
  · skip
    revert hg
    generalize (decide (0 ≤ (IntKind.u64.wrap a1))) = b4
    intro hg
    cases b4
    · skip
      first | exact (nomatch (hg : false = true)) | (simp only [cond_true, cond_false, Bool.and_true, Bool.true_and, Bool.and_false, Bool.false_and]; done) | rfl
    · skip
      first | (simp only [cond_true, cond_false, Bool.and_true, Bool.true_and, Bool.and_false, Bool.false_and]; done) | rfl | exact (nomatch (hg : false = true))
noncomputable def spec_l01Wet_con : Con := fun args h => match args, h with
  | [.w 0, .i .i64 a1], [.row a0 38] => some (.a (.b ((spec_l01Wet_v0 a1 a0))), .none, (spec_l01Wet_gd a1 a0))
  | _, _ => none
theorem spec_l01Wet_enter : ∀ args w, (callFunc 35 args).run Tryd.prog w = .ok (.enter 35 args) w := enter_ok (fn := Tryd.f35) (by kernel_rfl) (by kernel_rfl) (by kernel_rfl)
theorem spec_l01Wet_ok : ConOk Tryd.prog 35 spec_l01Wet_con := (ans_ok (N := 1000) (by kernel_rfl) (mkΓ_cons (con_ok spec_l01Is_ok) spec_l01Is_enter (mkΓ_cons (con_ok spec_l01Dry_ok) spec_l01Dry_enter mkΓ_nil)) (fn := Tryd.f35) (by kernel_rfl) (by kernel_rfl) []).of (by
  intro ρ h w args vals r e hA hH hr
  unfold spec_l01Wet_con at hr
  split at hr
  · rename_i a1 a0
    obtain ⟨rfl, hg⟩ := Prod.mk.inj (Option.some.inj hr)
    obtain ⟨rfl, hg2⟩ := Prod.mk.inj hg
    exact spec_l01Wet_main a1 a0 (hA.rng 1 rfl) (hH.wt 0 rfl) hg2
  · cases hr)

theorem impl_hasPlace_ans (N : Nat) (a0 : Array Value) (a1 : Array Value) : ansV Tryd.prog (mkΓ []) N Tryd.f107 [] [.g a0 38, .g a1 174] [] = (bif decide ((num a1 0) ≥ (0 : Int)) then (bif decide ((num a1 0) < (IntKind.i64.wrap (num a0 0))) then (bif decide ((num a1 1) ≥ (0 : Int)) then (some (.a (.b (decide ((num a1 1) < (IntKind.i64.wrap (num a0 1))))), .none, true))
        else (some (.a (.b (false)), .none, true)))
      else (some (.a (.b (false)), .none, true)))
    else (some (.a (.b (false)), .none, true))) := by kernel_rfl

noncomputable def impl_hasPlace_v0 (a0 : Array Value) (a1 : Array Value) : Bool := (bif decide ((num a1 0) ≥ (0 : Int)) then (bif decide ((num a1 0) < (IntKind.i64.wrap (num a0 0))) then (bif decide ((num a1 1) ≥ (0 : Int)) then decide ((num a1 1) < (IntKind.i64.wrap (num a0 1))) else false) else false) else false)

theorem impl_hasPlace_main (a0 : Array Value) (a1 : Array Value) (h_a0 : WT Tryd.prog 38 a0) (h_a1 : WT Tryd.prog 174 a1) (hg : (true) = true) : ansV Tryd.prog (mkΓ []) 1000 Tryd.f107 [] [.g a0 38, .g a1 174] [] = some (.a (.b ((impl_hasPlace_v0 a0 a1))), .none, true) := by
  refine (impl_hasPlace_ans 1000 a0 a1).trans ?_
  unfold impl_hasPlace_v0
  revert hg
  generalize (decide ((num a1 0) ≥ (0 : Int))) = b2
  intro hg
  cases b2
  · skip
    first | (simp only [cond_true, cond_false, Bool.and_true, Bool.true_and, Bool.and_false, Bool.false_and]; done) | rfl | exact (nomatch (hg : false = true))
  · skip
    revert hg
    generalize (decide ((num a1 0) < (IntKind.i64.wrap (num a0 0)))) = b4
    intro hg
    cases b4
    · skip
      first | (simp only [cond_true, cond_false, Bool.and_true, Bool.true_and, Bool.and_false, Bool.false_and]; done) | rfl | exact (nomatch (hg : false = true))
    · skip
      revert hg
      generalize (decide ((num a1 1) ≥ (0 : Int))) = b6
      intro hg
      cases b6
      · skip
        first | (simp only [cond_true, cond_false, Bool.and_true, Bool.true_and, Bool.and_false, Bool.false_and]; done) | rfl | exact (nomatch (hg : false = true))
      · skip
        first | (simp only [cond_true, cond_false, Bool.and_true, Bool.true_and, Bool.and_false, Bool.false_and]; done) | rfl | exact (nomatch (hg : false = true))
noncomputable def impl_hasPlace_con : Con := fun args h => match args, h with
  | [.g a0 38, .g a1 174], [] => some (.a (.b ((impl_hasPlace_v0 a0 a1))), .none, true)
  | _, _ => none
theorem impl_hasPlace_enter : ∀ args w, (callFunc 107 args).run Tryd.prog w = .ok (.enter 107 args) w := enter_ok (fn := Tryd.f107) (by kernel_rfl) (by kernel_rfl) (by kernel_rfl)
theorem impl_hasPlace_ok : ConOk Tryd.prog 107 impl_hasPlace_con := (ans_ok (N := 1000) (by kernel_rfl) mkΓ_nil (fn := Tryd.f107) (by kernel_rfl) (by kernel_rfl) []).of (by
  intro ρ h w args vals r e hA hH hr
  unfold impl_hasPlace_con at hr
  split at hr
  · rename_i a0 a1
    obtain ⟨rfl, hg⟩ := Prod.mk.inj (Option.some.inj hr)
    obtain ⟨rfl, hg2⟩ := Prod.mk.inj hg
    exact impl_hasPlace_main a0 a1 (hA.wt 0 rfl) (hA.wt 1 rfl) hg2
  · cases hr)

theorem impl_placeOf_ans (N : Nat) (a0 : Int) : ansV Tryd.prog (mkΓ []) N Tryd.f108 [] [.i .i64 (a0)] [] = (some (.a (.g #[.int .i64 ((a0).tmod (6 : Int)), .int .i64 (IntKind.i64.wrap ((a0).tdiv (6 : Int)))] 174), .none, true)) := by kernel_rfl



theorem impl_placeOf_main (a0 : Int) (h_a0 : IntKind.i64.min ≤ a0 ∧ a0 ≤ IntKind.i64.max) (hg : (true) = true) : ansV Tryd.prog (mkΓ []) 1000 Tryd.f108 [] [.i .i64 (a0)] [] = some (.a (.g #[.int .i64 ((a0).tmod (6 : Int)), .int .i64 (IntKind.i64.wrap ((a0).tdiv (6 : Int)))] 174), .none, true) := by
  refine (impl_placeOf_ans 1000 a0).trans ?_
  rfl
noncomputable def impl_placeOf_con : Con := fun args h => match args, h with
  | [.i .i64 a0], [] => some (.a (.g #[.int .i64 ((a0).tmod (6 : Int)), .int .i64 (IntKind.i64.wrap ((a0).tdiv (6 : Int)))] 174), .none, true)
  | _, _ => none
theorem impl_placeOf_enter : ∀ args w, (callFunc 108 args).run Tryd.prog w = .ok (.enter 108 args) w := enter_ok (fn := Tryd.f108) (by kernel_rfl) (by kernel_rfl) (by kernel_rfl)
theorem impl_placeOf_ok : ConOk Tryd.prog 108 impl_placeOf_con := (ans_ok (N := 1000) (by kernel_rfl) mkΓ_nil (fn := Tryd.f108) (by kernel_rfl) (by kernel_rfl) []).of (by
  intro ρ h w args vals r e hA hH hr
  unfold impl_placeOf_con at hr
  split at hr
  · rename_i a0
    obtain ⟨rfl, hg⟩ := Prod.mk.inj (Option.some.inj hr)
    obtain ⟨rfl, hg2⟩ := Prod.mk.inj hg
    exact impl_placeOf_main a0 (hA.rng 0 rfl) hg2
  · cases hr)

noncomputable def impl_hasCell_G : Cons := (mkΓ [(107, con impl_hasPlace_con), (108, con impl_placeOf_con)])
theorem impl_hasCell_ans (N : Nat) (a0 : Array Value) (a1 : Int) : ansV Tryd.prog impl_hasCell_G N Tryd.f84 [] [.g a0 38, .i .i64 (a1)] [] = (bif decide (a1 ≥ (0 : Int)) then (bif decide (a1 < (36 : Int)) then (some (.a (.b ((impl_hasPlace_v0 a0 (#[.int .i64 ((a1).tmod (6 : Int)), .int .i64 (IntKind.i64.wrap ((a1).tdiv (6 : Int)))] : Array Value)))), .none, true))
      else (some (.a (.b (false)), .none, true)))
    else (some (.a (.b (false)), .none, true))) := by kernel_rfl

noncomputable def impl_hasCell_v0 (a0 : Array Value) (a1 : Int) : Bool := (bif decide (a1 ≥ (0 : Int)) then (bif decide (a1 < (36 : Int)) then (impl_hasPlace_v0 a0 (#[.int .i64 ((a1).tmod (6 : Int)), .int .i64 (IntKind.i64.wrap ((a1).tdiv (6 : Int)))] : Array Value)) else false) else false)

theorem impl_hasCell_main (a0 : Array Value) (a1 : Int) (h_a0 : WT Tryd.prog 38 a0) (h_a1 : IntKind.i64.min ≤ a1 ∧ a1 ≤ IntKind.i64.max) (hg : (true) = true) : ansV Tryd.prog impl_hasCell_G 1000 Tryd.f84 [] [.g a0 38, .i .i64 (a1)] [] = some (.a (.b ((impl_hasCell_v0 a0 a1))), .none, true) := by
  refine (impl_hasCell_ans 1000 a0 a1).trans ?_
  unfold impl_hasCell_v0
  revert hg
  generalize (decide (a1 ≥ (0 : Int))) = b2
  intro hg
  cases b2
  · skip
    first | (simp only [cond_true, cond_false, Bool.and_true, Bool.true_and, Bool.and_false, Bool.false_and]; done) | rfl | exact (nomatch (hg : false = true))
  · skip
    revert hg
    generalize (decide (a1 < (36 : Int))) = b4
    intro hg
    cases b4
    · skip
      first | (simp only [cond_true, cond_false, Bool.and_true, Bool.true_and, Bool.and_false, Bool.false_and]; done) | rfl | exact (nomatch (hg : false = true))
    · skip
      first | (simp only [cond_true, cond_false, Bool.and_true, Bool.true_and, Bool.and_false, Bool.false_and]; done) | rfl | exact (nomatch (hg : false = true))
noncomputable def impl_hasCell_con : Con := fun args h => match args, h with
  | [.g a0 38, .i .i64 a1], [] => some (.a (.b ((impl_hasCell_v0 a0 a1))), .none, true)
  | _, _ => none
theorem impl_hasCell_enter : ∀ args w, (callFunc 84 args).run Tryd.prog w = .ok (.enter 84 args) w := enter_ok (fn := Tryd.f84) (by kernel_rfl) (by kernel_rfl) (by kernel_rfl)
theorem impl_hasCell_ok : ConOk Tryd.prog 84 impl_hasCell_con := (ans_ok (N := 1000) (by kernel_rfl) (mkΓ_cons (con_ok impl_hasPlace_ok) impl_hasPlace_enter (mkΓ_cons (con_ok impl_placeOf_ok) impl_placeOf_enter mkΓ_nil)) (fn := Tryd.f84) (by kernel_rfl) (by kernel_rfl) []).of (by
  intro ρ h w args vals r e hA hH hr
  unfold impl_hasCell_con at hr
  split at hr
  · rename_i a0 a1
    obtain ⟨rfl, hg⟩ := Prod.mk.inj (Option.some.inj hr)
    obtain ⟨rfl, hg2⟩ := Prod.mk.inj hg
    exact impl_hasCell_main a0 a1 (hA.wt 0 rfl) (hA.rng 1 rfl) hg2
  · cases hr)

theorem impl_bitOf_ans (N : Nat) (a0 : Int) : ansV Tryd.prog (mkΓ []) N Tryd.f72 [] [.i .i64 (a0)] [] = (bif decide (0 ≤ a0) then (some (.a (.i .u64 (IntKind.u64.wrap ((1 : Int) * 2 ^ (min (a0).toNat IntKind.u64.bits)))), .none, true))
    else (none)) := by kernel_rfl

noncomputable def impl_bitOf_v0 (a0 : Int) : Int := (IntKind.u64.wrap ((1 : Int) * 2 ^ (min (a0).toNat IntKind.u64.bits)))

theorem impl_bitOf_main (a0 : Int) (h_a0 : IntKind.i64.min ≤ a0 ∧ a0 ≤ IntKind.i64.max) (hg : (decide (0 ≤ a0)) = true) : ansV Tryd.prog (mkΓ []) 1000 Tryd.f72 [] [.i .i64 (a0)] [] = some (.a (.i .u64 (impl_bitOf_v0 a0)), .none, true) := by
  refine (impl_bitOf_ans 1000 a0).trans ?_
  unfold impl_bitOf_v0
  revert hg
  generalize (decide (0 ≤ a0)) = b2
  intro hg
  cases b2
  · skip
    first | exact (nomatch (hg : false = true)) | (simp only [cond_true, cond_false, Bool.and_true, Bool.true_and, Bool.and_false, Bool.false_and]; done) | rfl
  · skip
    first | (simp only [cond_true, cond_false, Bool.and_true, Bool.true_and, Bool.and_false, Bool.false_and]; done) | rfl | exact (nomatch (hg : false = true))
noncomputable def impl_bitOf_con : Con := fun args h => match args, h with
  | [.i .i64 a0], [] => some (.a (.i .u64 (impl_bitOf_v0 a0)), .none, decide (0 ≤ a0))
  | _, _ => none
theorem impl_bitOf_enter : ∀ args w, (callFunc 72 args).run Tryd.prog w = .ok (.enter 72 args) w := enter_ok (fn := Tryd.f72) (by kernel_rfl) (by kernel_rfl) (by kernel_rfl)
theorem impl_bitOf_ok : ConOk Tryd.prog 72 impl_bitOf_con := (ans_ok (N := 1000) (by kernel_rfl) mkΓ_nil (fn := Tryd.f72) (by kernel_rfl) (by kernel_rfl) []).of (by
  intro ρ h w args vals r e hA hH hr
  unfold impl_bitOf_con at hr
  split at hr
  · rename_i a0
    obtain ⟨rfl, hg⟩ := Prod.mk.inj (Option.some.inj hr)
    obtain ⟨rfl, hg2⟩ := Prod.mk.inj hg
    exact impl_bitOf_main a0 (hA.rng 0 rfl) hg2
  · cases hr)

theorem impl_isLand_ans (N : Nat) (a0 : Array Value) (a1 : Int) : ansV Tryd.prog (mkΓ [(72, con impl_bitOf_con)]) N Tryd.f109 [] [.g a0 38, .i .i64 (a1)] [] = (bif decide (0 ≤ a1) then (some (.a (.b (((IntKind.u64.wrap (BitVec.ofInt IntKind.u64.bits (num a0 2) &&& BitVec.ofInt IntKind.u64.bits (impl_bitOf_v0 a1)).toNat) != (0 : Int)))), .none, true))
    else (none)) := by kernel_rfl

noncomputable def impl_isLand_v0 (a0 : Array Value) (a1 : Int) : Bool := ((IntKind.u64.wrap (BitVec.ofInt IntKind.u64.bits (num a0 2) &&& BitVec.ofInt IntKind.u64.bits (impl_bitOf_v0 a1)).toNat) != (0 : Int))

theorem impl_isLand_main (a0 : Array Value) (a1 : Int) (h_a0 : WT Tryd.prog 38 a0) (h_a1 : IntKind.i64.min ≤ a1 ∧ a1 ≤ IntKind.i64.max) (hg : (decide (0 ≤ a1)) = true) : ansV Tryd.prog (mkΓ [(72, con impl_bitOf_con)]) 1000 Tryd.f109 [] [.g a0 38, .i .i64 (a1)] [] = some (.a (.b ((impl_isLand_v0 a0 a1))), .none, true) := by
  refine (impl_isLand_ans 1000 a0 a1).trans ?_
  unfold impl_isLand_v0
  revert hg
  generalize (decide (0 ≤ a1)) = b2
  intro hg
  cases b2
  · skip
    first | exact (nomatch (hg : false = true)) | (simp only [cond_true, cond_false, Bool.and_true, Bool.true_and, Bool.and_false, Bool.false_and]; done) | rfl
  · skip
    first | (simp only [cond_true, cond_false, Bool.and_true, Bool.true_and, Bool.and_false, Bool.false_and]; done) | rfl | exact (nomatch (hg : false = true))
noncomputable def impl_isLand_con : Con := fun args h => match args, h with
  | [.g a0 38, .i .i64 a1], [] => some (.a (.b ((impl_isLand_v0 a0 a1))), .none, decide (0 ≤ a1))
  | _, _ => none
theorem impl_isLand_enter : ∀ args w, (callFunc 109 args).run Tryd.prog w = .ok (.enter 109 args) w := enter_ok (fn := Tryd.f109) (by kernel_rfl) (by kernel_rfl) (by kernel_rfl)
theorem impl_isLand_ok : ConOk Tryd.prog 109 impl_isLand_con := (ans_ok (N := 1000) (by kernel_rfl) (mkΓ_cons (con_ok impl_bitOf_ok) impl_bitOf_enter mkΓ_nil) (fn := Tryd.f109) (by kernel_rfl) (by kernel_rfl) []).of (by
  intro ρ h w args vals r e hA hH hr
  unfold impl_isLand_con at hr
  split at hr
  · rename_i a0 a1
    obtain ⟨rfl, hg⟩ := Prod.mk.inj (Option.some.inj hr)
    obtain ⟨rfl, hg2⟩ := Prod.mk.inj hg
    exact impl_isLand_main a0 a1 (hA.wt 0 rfl) (hA.rng 1 rfl) hg2
  · cases hr)

theorem impl_isWater_ans (N : Nat) (a0 : Array Value) (a1 : Int) : ansV Tryd.prog (mkΓ [(109, con impl_isLand_con)]) N Tryd.f85 [] [.g a0 38, .i .i64 (a1)] [] = (bif decide (0 ≤ a1) then (some (.a (.b ((!((impl_isLand_v0 a0 a1))))), .none, true))
    else (none)) := by kernel_rfl

noncomputable def impl_isWater_v0 (a0 : Array Value) (a1 : Int) : Bool := (!((impl_isLand_v0 a0 a1)))

theorem impl_isWater_main (a0 : Array Value) (a1 : Int) (h_a0 : WT Tryd.prog 38 a0) (h_a1 : IntKind.i64.min ≤ a1 ∧ a1 ≤ IntKind.i64.max) (hg : (decide (0 ≤ a1)) = true) : ansV Tryd.prog (mkΓ [(109, con impl_isLand_con)]) 1000 Tryd.f85 [] [.g a0 38, .i .i64 (a1)] [] = some (.a (.b ((impl_isWater_v0 a0 a1))), .none, true) := by
  refine (impl_isWater_ans 1000 a0 a1).trans ?_
  unfold impl_isWater_v0
  revert hg
  generalize (decide (0 ≤ a1)) = b2
  intro hg
  cases b2
  · skip
    first | exact (nomatch (hg : false = true)) | (simp only [cond_true, cond_false, Bool.and_true, Bool.true_and, Bool.and_false, Bool.false_and]; done) | rfl
  · skip
    first | (simp only [cond_true, cond_false, Bool.and_true, Bool.true_and, Bool.and_false, Bool.false_and]; done) | rfl | exact (nomatch (hg : false = true))
noncomputable def impl_isWater_con : Con := fun args h => match args, h with
  | [.g a0 38, .i .i64 a1], [] => some (.a (.b ((impl_isWater_v0 a0 a1))), .none, decide (0 ≤ a1))
  | _, _ => none
theorem impl_isWater_enter : ∀ args w, (callFunc 85 args).run Tryd.prog w = .ok (.enter 85 args) w := enter_ok (fn := Tryd.f85) (by kernel_rfl) (by kernel_rfl) (by kernel_rfl)
theorem impl_isWater_ok : ConOk Tryd.prog 85 impl_isWater_con := (ans_ok (N := 1000) (by kernel_rfl) (mkΓ_cons (con_ok impl_isLand_ok) impl_isLand_enter mkΓ_nil) (fn := Tryd.f85) (by kernel_rfl) (by kernel_rfl) []).of (by
  intro ρ h w args vals r e hA hH hr
  unfold impl_isWater_con at hr
  split at hr
  · rename_i a0 a1
    obtain ⟨rfl, hg⟩ := Prod.mk.inj (Option.some.inj hr)
    obtain ⟨rfl, hg2⟩ := Prod.mk.inj hg
    exact impl_isWater_main a0 a1 (hA.wt 0 rfl) (hA.rng 1 rfl) hg2
  · cases hr)

theorem impl_hasTide_ans (N : Nat) (a0 : Int) : ansV Tryd.prog (mkΓ []) N Tryd.f92 [] [.i .i64 (a0)] [] = (bif (a0 == (0 : Int)) then (some (.a (.b (true)), .none, true))
    else (some (.a (.b ((a0 == (1 : Int)))), .none, true))) := by kernel_rfl

noncomputable def impl_hasTide_v0 (a0 : Int) : Bool := (bif (a0 == (0 : Int)) then true else (a0 == (1 : Int)))

theorem impl_hasTide_main (a0 : Int) (h_a0 : IntKind.i64.min ≤ a0 ∧ a0 ≤ IntKind.i64.max) (hg : (true) = true) : ansV Tryd.prog (mkΓ []) 1000 Tryd.f92 [] [.i .i64 (a0)] [] = some (.a (.b ((impl_hasTide_v0 a0))), .none, true) := by
  refine (impl_hasTide_ans 1000 a0).trans ?_
  unfold impl_hasTide_v0
  revert hg
  generalize ((a0 == (0 : Int))) = b2
  intro hg
  cases b2
  · skip
    first | (simp only [cond_true, cond_false, Bool.and_true, Bool.true_and, Bool.and_false, Bool.false_and]; done) | rfl | exact (nomatch (hg : false = true))
  · skip
    first | (simp only [cond_true, cond_false, Bool.and_true, Bool.true_and, Bool.and_false, Bool.false_and]; done) | rfl | exact (nomatch (hg : false = true))
noncomputable def impl_hasTide_con : Con := fun args h => match args, h with
  | [.i .i64 a0], [] => some (.a (.b ((impl_hasTide_v0 a0))), .none, true)
  | _, _ => none
theorem impl_hasTide_enter : ∀ args w, (callFunc 92 args).run Tryd.prog w = .ok (.enter 92 args) w := enter_ok (fn := Tryd.f92) (by kernel_rfl) (by kernel_rfl) (by kernel_rfl)
theorem impl_hasTide_ok : ConOk Tryd.prog 92 impl_hasTide_con := (ans_ok (N := 1000) (by kernel_rfl) mkΓ_nil (fn := Tryd.f92) (by kernel_rfl) (by kernel_rfl) []).of (by
  intro ρ h w args vals r e hA hH hr
  unfold impl_hasTide_con at hr
  split at hr
  · rename_i a0
    obtain ⟨rfl, hg⟩ := Prod.mk.inj (Option.some.inj hr)
    obtain ⟨rfl, hg2⟩ := Prod.mk.inj hg
    exact impl_hasTide_main a0 (hA.rng 0 rfl) hg2
  · cases hr)

theorem impl_cellOf_ans (N : Nat) (a0 : Array Value) : ansV Tryd.prog (mkΓ []) N Tryd.f124 [] [.g a0 174] [] = (some (.a (.i .i64 (IntKind.i64.wrap ((num a0 0) + (IntKind.i64.wrap ((6 : Int) * (num a0 1)))))), .none, true)) := by kernel_rfl



theorem impl_cellOf_main (a0 : Array Value) (h_a0 : WT Tryd.prog 174 a0) (hg : (true) = true) : ansV Tryd.prog (mkΓ []) 1000 Tryd.f124 [] [.g a0 174] [] = some (.a (.i .i64 (IntKind.i64.wrap ((num a0 0) + (IntKind.i64.wrap ((6 : Int) * (num a0 1)))))), .none, true) := by
  refine (impl_cellOf_ans 1000 a0).trans ?_
  rfl
noncomputable def impl_cellOf_con : Con := fun args h => match args, h with
  | [.g a0 174], [] => some (.a (.i .i64 (IntKind.i64.wrap ((num a0 0) + (IntKind.i64.wrap ((6 : Int) * (num a0 1)))))), .none, true)
  | _, _ => none
theorem impl_cellOf_enter : ∀ args w, (callFunc 124 args).run Tryd.prog w = .ok (.enter 124 args) w := enter_ok (fn := Tryd.f124) (by kernel_rfl) (by kernel_rfl) (by kernel_rfl)
theorem impl_cellOf_ok : ConOk Tryd.prog 124 impl_cellOf_con := (ans_ok (N := 1000) (by kernel_rfl) mkΓ_nil (fn := Tryd.f124) (by kernel_rfl) (by kernel_rfl) []).of (by
  intro ρ h w args vals r e hA hH hr
  unfold impl_cellOf_con at hr
  split at hr
  · rename_i a0
    obtain ⟨rfl, hg⟩ := Prod.mk.inj (Option.some.inj hr)
    obtain ⟨rfl, hg2⟩ := Prod.mk.inj hg
    exact impl_cellOf_main a0 (hA.wt 0 rfl) hg2
  · cases hr)


theorem cell_is (S : Array Value) (c : Int) : impl_hasCell_v0 S c = spec_l01Is_v0 c S := by
  unfold impl_hasCell_v0 spec_l01Is_v0 spec_l00In_v0
  by_cases h0 : 0 ≤ c
  · have e1 : ∀ x y : Int, 0 ≤ x → 0 ≤ y → impl_hasPlace_v0 S #[.int .i64 x, .int .i64 y] = (bif decide (x < IntKind.i64.wrap (num S 0)) then decide (y < IntKind.i64.wrap (num S 1)) else false) := fun x y hx hy => by
      show (bif decide (x ≥ 0) then (bif decide (x < IntKind.i64.wrap (num S 0)) then (bif decide (y ≥ 0) then decide (y < IntKind.i64.wrap (num S 1)) else false) else false) else false) = _
      rw [decide_eq_true (show x ≥ 0 from hx), decide_eq_true (show y ≥ 0 from hy)]
      cases decide (x < IntKind.i64.wrap (num S 0)) <;> rfl
    by_cases h1 : c ≤ 35
    · have hx : 0 ≤ c.tmod 6 := Int.tmod_nonneg 6 h0
      have hy : 0 ≤ IntKind.i64.wrap (c.tdiv 6) := by
        have : c.tdiv 6 = c / 6 := Int.tdiv_eq_ediv_of_nonneg h0
        rw [this, IntWalk.i64_in _ (by omega)]; omega
      rw [e1 _ _ hx hy, decide_eq_true (show c ≥ 0 from h0), decide_eq_true (show c < 36 by omega), decide_eq_true h1]
      rfl
    · rw [decide_eq_false (show ¬ c < 36 by omega), decide_eq_false h1]; cases decide (c ≥ 0) <;> rfl
  · rw [decide_eq_false (show ¬ c ≥ 0 from h0)]; rfl
theorem is_range {S : Array Value} {c : Int} (h : spec_l01Is_v0 c S = true) : 0 ≤ c ∧ c ≤ 35 := by
  unfold spec_l01Is_v0 spec_l00In_v0 at h
  cases h0 : decide (c ≥ 0) with
  | false => rw [h0] at h; exact nomatch h
  | true =>
    cases h1 : decide (c ≤ 35) with
    | false => rw [h0, h1] at h; exact nomatch h
    | true => exact ⟨of_decide_eq_true h0, of_decide_eq_true h1⟩
theorem u64_c {c : Int} (hc : 0 ≤ c ∧ c ≤ 35) : IntKind.u64.wrap c = c := by rw [IntKind.wrap_u64]; omega
theorem min_c {c : Int} (hc : 0 ≤ c ∧ c ≤ 35) : min c.toNat IntKind.u64.bits = c.toNat := Nat.min_eq_left (by show _ ≤ 64; omega)
theorem bit_of {c : Int} (hc : 0 ≤ c ∧ c ≤ 35) : impl_bitOf_v0 c = IntKind.u64.wrap ((1 : Int) * 2 ^ (min ((IntKind.u64.wrap c)).toNat IntKind.u64.bits)) := by
  unfold impl_bitOf_v0; rw [u64_c hc]
theorem land_dry {S : Array Value} (hS : 0 ≤ num S 2 ∧ num S 2 ≤ 18446744073709551615) {c : Int} (hc : 0 ≤ c ∧ c ≤ 35) : impl_isLand_v0 S c = spec_l01Dry_v0 c S := by
  have h := land_bit (ld := num S 2) (c := c) (by show (decide _ && decide _) = true; rw [decide_eq_true (show IntKind.u64.min ≤ num S 2 from hS.1), decide_eq_true (show num S 2 ≤ IntKind.u64.max from hS.2)]; rfl) hc
  unfold impl_isLand_v0 spec_l01Dry_v0 impl_bitOf_v0
  rw [u64_c hc, min_c hc, Int.one_mul, Int.fdiv_eq_ediv_of_nonneg _ (Int.le_of_lt (Int.pow_pos (by omega)))]
  exact h
theorem wt_land {T : TypeId} (hL : lay Tryd.prog T = 0 :: 0 :: 7 :: List.replicate 360 4) {S : Array Value} (h : WT Tryd.prog T S) : 0 ≤ num S 2 ∧ num S 2 ≤ 18446744073709551615 := (h.int (o := 2) (k := .u64) (by rw [hL]; rfl)).2
theorem lay_lawsea : lay Tryd.prog 28 = 0 :: 0 :: 7 :: List.replicate 360 4 := by kernel_rfl


end
end Go.Proofs.YthpcidnfbceliaaDoor
