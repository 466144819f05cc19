/- What comes back to a beach. -/
import Derived.Test.YtmkkckhfghomfaaProg
import Derived.Test.YtmkkckhfghomfaaVePbD
namespace Go.Proofs.Ytmkkckhfghomfaa
open Go.ChangeShapes Go.WideShapes Go.ChangeAt Go.RowKit Ve
set_option linter.unusedVariables false
set_option linter.unusedSimpArgs false
set_option maxRecDepth 100000
noncomputable section
theorem wrap12 : ∀ k, k < 14 → IntKind.i64.wrap ((12 : Int) ^ k * 12) = 12 ^ (k + 1) := by decide

noncomputable def spec_l02Parts_e0 : Int × Int → LS
  | (y0_3, y0_4) => ([.a (.i .i64 (y0_3)), .a (.i .i64 (y0_4))], [])

noncomputable def spec_l02Parts_x0 : Int × Int → Exit × LS
  | t => ((.exit 0), spec_l02Parts_e0 t)

noncomputable def spec_l02Parts_g0 (P : Program) (a0 : Int) : Int × Int → Option (Stp (Int × Int) (Int × Int))
  | (y0_3, y0_4) => bif decide (y0_4 < a0) then (some (.more ((IntKind.i64.wrap (y0_3 * (12 : Int))), (IntKind.i64.wrap (y0_4 + (1 : Int))))))
    else (some (.done (y0_3, y0_4)))

theorem spec_l02Parts_s0 (N : Nat) (a0 : Int) : ∀ t : Int × Int, stepV Try.prog (mkΓ []) N (cAt (codeOf Try.f69) [1, 1, 0, 1, 0, 0]) (pAt (mkPlan (codeOf Try.f69) [([3, 4], [])]).1 [1, 1, 0, 1, 0]) [3, 4] [] (⟨.a (.i .i64 (a0)) :: .a (.u) :: .a (.i .i64 (0 : Int)) :: .a (.i .i64 (1 : Int)) :: .a (.i .i64 (0 : Int)) :: us 8 ([]), [], []⟩ : St) (spec_l02Parts_e0 t) = mapS spec_l02Parts_e0 spec_l02Parts_x0 (spec_l02Parts_g0 Try.prog a0 t) := by
  rintro ⟨y0_3, y0_4⟩
  refine Eq.trans (b := (bif decide (y0_4 < a0) then (some (.more ([.a (.i .i64 (IntKind.i64.wrap (y0_3 * (12 : Int)))), .a (.i .i64 (IntKind.i64.wrap (y0_4 + (1 : Int))))], [])))
    else (some (.done ((.exit 0), ([.a (.i .i64 (y0_3)), .a (.i .i64 (y0_4))], [])))))) (by kernel_rfl) ?_
  simp only [spec_l02Parts_g0, mapS_cond, mapS_more, mapS_done, mapS_none, spec_l02Parts_e0, spec_l02Parts_x0]

noncomputable def spec_l02Parts_k0_0 (P : Program) (N : Nat) (a0 : Int) (z0_3 : Int) (z0_4 : Int) : Option (SV × Eff × Bool) := some (.a (.i .i64 (z0_3)), .none, true)

theorem spec_l02Parts_k0_0_eq (N : Nat) (a0 : Int) (z0_3 : Int) (z0_4 : Int) : (kBlock 0 (kSeq (veC Try.prog (mkΓ []) N (cAt (codeOf Try.f69) [1, 1, 1]) (pAt (mkPlan (codeOf Try.f69) [([3, 4], [])]).1 [1, 1, 1]) (SV × Eff × Bool)) (finK Try.prog [] [.tmp 2]))) (.exit 0) (left (writes (cAt (codeOf Try.f69) [1, 1, 0, 1, 0, 0])) [3, 4] [] (⟨.a (.i .i64 (a0)) :: .a (.u) :: .a (.i .i64 (0 : Int)) :: .a (.i .i64 (1 : Int)) :: .a (.i .i64 (0 : Int)) :: us 8 ([]), [], []⟩ : St) ([.a (.i .i64 (z0_3)), .a (.i .i64 (z0_4))], [])) = spec_l02Parts_k0_0 Try.prog N a0 z0_3 z0_4 := by
  refine Eq.trans (b := (some (.a (.i .i64 (z0_3)), .none, true))) (by kernel_rfl) ?_
  rfl

theorem spec_l02Parts_n0 (N : Nat) (a0 : Int) : bindX (iterO (stepV Try.prog (mkΓ []) N (cAt (codeOf Try.f69) [1, 1, 0, 1, 0, 0]) (pAt (mkPlan (codeOf Try.f69) [([3, 4], [])]).1 [1, 1, 0, 1, 0]) [3, 4] [] (⟨.a (.i .i64 (a0)) :: .a (.u) :: .a (.i .i64 (0 : Int)) :: .a (.i .i64 (1 : Int)) :: .a (.i .i64 (0 : Int)) :: us 8 ([]), [], []⟩ : St)) N ([.a (.i .i64 (1 : Int)), .a (.i .i64 (0 : Int))], [])) (fun e s => (kBlock 0 (kSeq (veC Try.prog (mkΓ []) N (cAt (codeOf Try.f69) [1, 1, 1]) (pAt (mkPlan (codeOf Try.f69) [([3, 4], [])]).1 [1, 1, 1]) (SV × Eff × Bool)) (finK Try.prog [] [.tmp 2]))) e (left (writes (cAt (codeOf Try.f69) [1, 1, 0, 1, 0, 0])) [3, 4] [] (⟨.a (.i .i64 (a0)) :: .a (.u) :: .a (.i .i64 (0 : Int)) :: .a (.i .i64 (1 : Int)) :: .a (.i .i64 (0 : Int)) :: us 8 ([]), [], []⟩ : St) s)) = nodeX (iterO (spec_l02Parts_g0 Try.prog a0) N ((1 : Int), (0 : Int))) (fun x => spec_l02Parts_k0_0 Try.prog N a0 x.1 x.2) := by
  refine loop_node spec_l02Parts_e0 spec_l02Parts_x0 _ _ (spec_l02Parts_s0 N a0) N ((1 : Int), (0 : Int)) _ _ ?_
  intro x; exact spec_l02Parts_k0_0_eq N a0 x.1 x.2

theorem spec_l02Parts_ans (N : Nat) (a0 : Int) : ansV Try.prog (mkΓ []) N Try.f69 [([3, 4], [])] [.i .i64 (a0)] [] = (nodeX (iterO (spec_l02Parts_g0 Try.prog a0) N ((1 : Int), (0 : Int))) (fun x => spec_l02Parts_k0_0 Try.prog N a0 x.1 x.2)) := by
  refine Eq.trans (b := (bindX (iterO (stepV Try.prog (mkΓ []) N (cAt (codeOf Try.f69) [1, 1, 0, 1, 0, 0]) (pAt (mkPlan (codeOf Try.f69) [([3, 4], [])]).1 [1, 1, 0, 1, 0]) [3, 4] [] (⟨.a (.i .i64 (a0)) :: .a (.u) :: .a (.i .i64 (0 : Int)) :: .a (.i .i64 (1 : Int)) :: .a (.i .i64 (0 : Int)) :: us 8 ([]), [], []⟩ : St)) N ([.a (.i .i64 (1 : Int)), .a (.i .i64 (0 : Int))], [])) (fun e s => (kBlock 0 (kSeq (veC Try.prog (mkΓ []) N (cAt (codeOf Try.f69) [1, 1, 1]) (pAt (mkPlan (codeOf Try.f69) [([3, 4], [])]).1 [1, 1, 1]) (SV × Eff × Bool)) (finK Try.prog [] [.tmp 2]))) e (left (writes (cAt (codeOf Try.f69) [1, 1, 0, 1, 0, 0])) [3, 4] [] (⟨.a (.i .i64 (a0)) :: .a (.u) :: .a (.i .i64 (0 : Int)) :: .a (.i .i64 (1 : Int)) :: .a (.i .i64 (0 : Int)) :: us 8 ([]), [], []⟩ : St) s)))) (by kernel_rfl) ?_
  simp only [spec_l02Parts_n0 N a0]

theorem spec_l02Parts_main (a0 : Int) (h_a0 : IntKind.i64.min ≤ a0 ∧ a0 ≤ IntKind.i64.max) (hg : ((decide (0 ≤ a0) && decide (a0 ≤ 14))) = true) : ansV Try.prog (mkΓ []) 1000 Try.f69 [([3, 4], [])] [.i .i64 (a0)] [] = some (.a (.i .i64 (12 ^ a0.toNat)), .none, true) := by
  simp only [Bool.and_eq_true, decide_eq_true_eq] at hg
  obtain ⟨h0, h14⟩ := hg
  obtain ⟨m, rfl⟩ := Int.eq_ofNat_of_zero_le h0
  refine (spec_l02Parts_ans 1000 _).trans ?_
  have h := iter_all (g := spec_l02Parts_g0 Try.prog (m : Int)) (fun k => ((12 : Int) ^ k, (k : Int))) (m := m) (x := ((12 : Int) ^ m, (m : Int))) (N := 1000) (fun k hk => by
    have h1 : decide ((k : Int) < (m : Int)) = true := decide_eq_true (by omega)
    have h2 : IntKind.i64.wrap ((k : Int) + 1) = ((k + 1 : Nat) : Int) := by rw [IntWalk.i64_in _ (by omega)]; omega
    simp only [spec_l02Parts_g0, h1, cond_true, wrap12 k (by omega), h2]) (by
    have h1 : decide ((m : Int) < (m : Int)) = false := decide_eq_false (by omega)
    simp only [spec_l02Parts_g0, h1, cond_false]) (by omega)
  have h' : iterO (spec_l02Parts_g0 Try.prog (m : Int)) 1000 ((1 : Int), (0 : Int)) = some ((12 : Int) ^ m, (m : Int)) := h
  rw [h']
  rfl
noncomputable def spec_l02Parts_con : Con := fun args h => match args, h with
  | [.i .i64 a0], [] => some (.a (.i .i64 (12 ^ a0.toNat)), .none, (decide (0 ≤ a0) && decide (a0 ≤ 14)))
  | _, _ => none
theorem spec_l02Parts_enter : ∀ args w, (callFunc 69 args).run Try.prog w = .ok (.enter 69 args) w := enter_ok (fn := Try.f69) (by kernel_rfl) (by kernel_rfl) (by kernel_rfl)
theorem spec_l02Parts_ok : ConOk Try.prog 69 spec_l02Parts_con := (ans_ok (N := 1000) (by kernel_rfl) mkΓ_nil (fn := Try.f69) (by kernel_rfl) (by kernel_rfl) [([3, 4], [])]).of (by
  intro ρ h w args vals r e hA hH hr
  unfold spec_l02Parts_con at hr
  split at hr
  · rename_i a0
    obtain ⟨rfl, hg⟩ := Prod.mk.inj (Option.some.inj hr)
    obtain ⟨rfl, hg2⟩ := Prod.mk.inj hg
    exact spec_l02Parts_main a0 (hA.rng 0 rfl) hg2
  · cases hr)

noncomputable def spec_PartsBack_e0 : Int × Array Value → LS
  | (y0_11, r0_4) => ([.a (.i .i64 (y0_11))], [.row r0_4 61])

noncomputable def spec_PartsBack_x0 : Int × Array Value → Exit × LS
  | t => ((.exit 0), spec_PartsBack_e0 t)

noncomputable def spec_PartsBack_g0 (P : Program) (a0 : Array Value) (a1 : Int) (a2 : Int) (a3 : Int) : Int × Array Value → Option (Stp (Int × Array Value) (Int × Array Value))
  | (y0_11, r0_4) => bif decide (y0_11 < (36 : Int)) then (bif (spec_l01Wet_gd y0_11 a0) then (bif (spec_l01Wet_v0 y0_11 a0) then (bif (okS a0 && ((spec_l01Is_v0 y0_11 a0 && spec_l00In_v0 a2 0 1) && spec_l00In_v0 a3 0 14)) then (bif (decide (0 ≤ a1) && decide (a1 < 36)) then (bif (decide (0 ≤ y0_11) && decide (y0_11 < 36)) then (some (.more ((IntKind.i64.wrap (y0_11 + (1 : Int))), (r0_4.setIfInBounds ((y0_11).toNat * 1) (.int .i64 (num (driftV Try.prog a0 (oneX Try.prog y0_11 a2) a3.toNat) (3 + ((a1).toNat * 1))))))))
              else (none))
            else (none))
          else (none))
        else (some (.more ((IntKind.i64.wrap (y0_11 + (1 : Int))), r0_4))))
      else (none))
    else (some (.done (y0_11, r0_4)))

theorem spec_PartsBack_s0 (N : Nat) (a0 : Array Value) (a1 : Int) (a2 : Int) (a3 : Int) : ∀ t : Int × Array Value, stepV Try.prog (mkΓ [(38, con spec_l01Ok_con), (39, con spec_l01Tide_con), (41, con spec_l01Is_con), (65, con spec_l04Hours_con), (66, con spec_l01Dry_con), (67, con spec_l01Wet_con), (68, con spec_l03Behind_con), (69, con spec_l02Parts_con)]) N (cAt (codeOf Try.f35) [1, 1, 1, 1, 1, 0, 1, 0, 0]) (pAt (mkPlan (codeOf Try.f35) [([11], [4])]).1 [1, 1, 1, 1, 1, 0, 1, 0]) [11] [4] (⟨.a (.g a0 36) :: .a (.i .i64 (a1)) :: .a (.i .i64 (a2)) :: .a (.i .i64 (a3)) :: .a (.w 0) :: us 3 (.a (.w 1) :: .a (.i .i64 (0 : Int)) :: .a (.w 4) :: .a (.i .i64 (0 : Int)) :: .a (.u) :: .a (.g (zc Try.prog 61) 61) :: .a (.b ((okS a0))) :: .a (.b ((!((okS a0))))) :: .a (.u) :: .a (.i .i64 (a1)) :: .a (.b ((spec_l01Is_v0 a1 a0))) :: .a (.b ((!((spec_l01Is_v0 a1 a0))))) :: .a (.b (false)) :: .a (.i .i64 (a2)) :: .a (.b ((spec_l00In_v0 a2 (0 : Int) (1 : Int)))) :: .a (.b ((!((spec_l00In_v0 a2 (0 : Int) (1 : Int)))))) :: .a (.b ((!((spec_l00In_v0 a2 (0 : Int) (1 : Int)))))) :: .a (.b (false)) :: .a (.i .i64 (a3)) :: .a (.b ((spec_l00In_v0 a3 (0 : Int) (14 : Int)))) :: .a (.b ((!((spec_l00In_v0 a3 (0 : Int) (14 : Int)))))) :: .a (.b ((!((spec_l00In_v0 a3 (0 : Int) (14 : Int)))))) :: .a (.u) :: .a (.i .i64 (a1)) :: .a (.b ((spec_l01Dry_v0 a1 a0))) :: .a (.b ((!((spec_l01Dry_v0 a1 a0))))) :: us 22 ([])), [.row a0 36, .row (zc Try.prog 61) 61, .no, .no, .row (zc Try.prog 61) 61, .no], [4]⟩ : St) (spec_PartsBack_e0 t) = mapS spec_PartsBack_e0 spec_PartsBack_x0 (spec_PartsBack_g0 Try.prog a0 a1 a2 a3 t) := by
  rintro ⟨y0_11, r0_4⟩
  refine Eq.trans (b := (bif decide (y0_11 < (36 : Int)) then (bif (spec_l01Wet_gd y0_11 a0) then (bif (spec_l01Wet_v0 y0_11 a0) then (bif (okS a0 && ((spec_l01Is_v0 y0_11 a0 && spec_l00In_v0 a2 0 1) && spec_l00In_v0 a3 0 14)) then (bif (decide (0 ≤ a1) && decide (a1 < 36)) then (bif (decide (0 ≤ y0_11) && decide (y0_11 < 36)) then (some (.more ([.a (.i .i64 (IntKind.i64.wrap (y0_11 + (1 : Int))))], [.row (r0_4.setIfInBounds ((y0_11).toNat * 1) (.int .i64 (num (driftV Try.prog a0 (oneX Try.prog y0_11 a2) a3.toNat) (3 + ((a1).toNat * 1))))) 61])))
              else (none))
            else (none))
          else (none))
        else (some (.more ([.a (.i .i64 (IntKind.i64.wrap (y0_11 + (1 : Int))))], [.row r0_4 61]))))
      else (none))
    else (some (.done ((.exit 0), ([.a (.i .i64 (y0_11))], [.row r0_4 61])))))) (by kernel_rfl) ?_
  simp only [spec_PartsBack_g0, mapS_cond, mapS_more, mapS_done, mapS_none, spec_PartsBack_e0, spec_PartsBack_x0]

noncomputable def spec_PartsBack_k0_0 (P : Program) (N : Nat) (a0 : Array Value) (a1 : Int) (a2 : Int) (a3 : Int) (z0_11 : Int) (q0_4 : Array Value) : Option (SV × Eff × Bool) := bif (decide (0 ≤ a3) && decide (a3 ≤ 14)) then (bif (decide (0 ≤ a1) && decide (a1 < 36)) then (some (.t [.g (q0_4.setIfInBounds ((a1).toNat * 1) (.int .i64 (12 ^ a3.toNat))) 61, .i .i64 (0 : Int)], .none, true))
      else (none))
    else (none)

theorem spec_PartsBack_k0_0_eq (N : Nat) (a0 : Array Value) (a1 : Int) (a2 : Int) (a3 : Int) (z0_11 : Int) (q0_4 : Array Value) : (kBlock 0 (kSeq (veC Try.prog (mkΓ [(38, con spec_l01Ok_con), (39, con spec_l01Tide_con), (41, con spec_l01Is_con), (65, con spec_l04Hours_con), (66, con spec_l01Dry_con), (67, con spec_l01Wet_con), (68, con spec_l03Behind_con), (69, con spec_l02Parts_con)]) N (cAt (codeOf Try.f35) [1, 1, 1, 1, 1, 1]) (pAt (mkPlan (codeOf Try.f35) [([11], [4])]).1 [1, 1, 1, 1, 1, 1]) (SV × Eff × Bool)) (finK Try.prog [] [.cell 8 61, .tmp 9]))) (.exit 0) (left (writes (cAt (codeOf Try.f35) [1, 1, 1, 1, 1, 0, 1, 0, 0])) [11] [4] (⟨.a (.g a0 36) :: .a (.i .i64 (a1)) :: .a (.i .i64 (a2)) :: .a (.i .i64 (a3)) :: .a (.w 0) :: us 3 (.a (.w 1) :: .a (.i .i64 (0 : Int)) :: .a (.w 4) :: .a (.i .i64 (0 : Int)) :: .a (.u) :: .a (.g (zc Try.prog 61) 61) :: .a (.b ((okS a0))) :: .a (.b ((!((okS a0))))) :: .a (.u) :: .a (.i .i64 (a1)) :: .a (.b ((spec_l01Is_v0 a1 a0))) :: .a (.b ((!((spec_l01Is_v0 a1 a0))))) :: .a (.b (false)) :: .a (.i .i64 (a2)) :: .a (.b ((spec_l00In_v0 a2 (0 : Int) (1 : Int)))) :: .a (.b ((!((spec_l00In_v0 a2 (0 : Int) (1 : Int)))))) :: .a (.b ((!((spec_l00In_v0 a2 (0 : Int) (1 : Int)))))) :: .a (.b (false)) :: .a (.i .i64 (a3)) :: .a (.b ((spec_l00In_v0 a3 (0 : Int) (14 : Int)))) :: .a (.b ((!((spec_l00In_v0 a3 (0 : Int) (14 : Int)))))) :: .a (.b ((!((spec_l00In_v0 a3 (0 : Int) (14 : Int)))))) :: .a (.u) :: .a (.i .i64 (a1)) :: .a (.b ((spec_l01Dry_v0 a1 a0))) :: .a (.b ((!((spec_l01Dry_v0 a1 a0))))) :: us 22 ([])), [.row a0 36, .row (zc Try.prog 61) 61, .no, .no, .row (zc Try.prog 61) 61, .no], [4]⟩ : St) ([.a (.i .i64 (z0_11))], [.row q0_4 61])) = spec_PartsBack_k0_0 Try.prog N a0 a1 a2 a3 z0_11 q0_4 := by
  refine Eq.trans (b := (bif (decide (0 ≤ a3) && decide (a3 ≤ 14)) then (bif (decide (0 ≤ a1) && decide (a1 < 36)) then (some (.t [.g (q0_4.setIfInBounds ((a1).toNat * 1) (.int .i64 (12 ^ a3.toNat))) 61, .i .i64 (0 : Int)], .none, true))
      else (none))
    else (none))) (by kernel_rfl) ?_
  rfl

theorem spec_PartsBack_n0 (N : Nat) (a0 : Array Value) (a1 : Int) (a2 : Int) (a3 : Int) : bindX (iterO (stepV Try.prog (mkΓ [(38, con spec_l01Ok_con), (39, con spec_l01Tide_con), (41, con spec_l01Is_con), (65, con spec_l04Hours_con), (66, con spec_l01Dry_con), (67, con spec_l01Wet_con), (68, con spec_l03Behind_con), (69, con spec_l02Parts_con)]) N (cAt (codeOf Try.f35) [1, 1, 1, 1, 1, 0, 1, 0, 0]) (pAt (mkPlan (codeOf Try.f35) [([11], [4])]).1 [1, 1, 1, 1, 1, 0, 1, 0]) [11] [4] (⟨.a (.g a0 36) :: .a (.i .i64 (a1)) :: .a (.i .i64 (a2)) :: .a (.i .i64 (a3)) :: .a (.w 0) :: us 3 (.a (.w 1) :: .a (.i .i64 (0 : Int)) :: .a (.w 4) :: .a (.i .i64 (0 : Int)) :: .a (.u) :: .a (.g (zc Try.prog 61) 61) :: .a (.b ((okS a0))) :: .a (.b ((!((okS a0))))) :: .a (.u) :: .a (.i .i64 (a1)) :: .a (.b ((spec_l01Is_v0 a1 a0))) :: .a (.b ((!((spec_l01Is_v0 a1 a0))))) :: .a (.b (false)) :: .a (.i .i64 (a2)) :: .a (.b ((spec_l00In_v0 a2 (0 : Int) (1 : Int)))) :: .a (.b ((!((spec_l00In_v0 a2 (0 : Int) (1 : Int)))))) :: .a (.b ((!((spec_l00In_v0 a2 (0 : Int) (1 : Int)))))) :: .a (.b (false)) :: .a (.i .i64 (a3)) :: .a (.b ((spec_l00In_v0 a3 (0 : Int) (14 : Int)))) :: .a (.b ((!((spec_l00In_v0 a3 (0 : Int) (14 : Int)))))) :: .a (.b ((!((spec_l00In_v0 a3 (0 : Int) (14 : Int)))))) :: .a (.u) :: .a (.i .i64 (a1)) :: .a (.b ((spec_l01Dry_v0 a1 a0))) :: .a (.b ((!((spec_l01Dry_v0 a1 a0))))) :: us 22 ([])), [.row a0 36, .row (zc Try.prog 61) 61, .no, .no, .row (zc Try.prog 61) 61, .no], [4]⟩ : St)) N ([.a (.i .i64 (0 : Int))], [.row (zc Try.prog 61) 61])) (fun e s => (kBlock 0 (kSeq (veC Try.prog (mkΓ [(38, con spec_l01Ok_con), (39, con spec_l01Tide_con), (41, con spec_l01Is_con), (65, con spec_l04Hours_con), (66, con spec_l01Dry_con), (67, con spec_l01Wet_con), (68, con spec_l03Behind_con), (69, con spec_l02Parts_con)]) N (cAt (codeOf Try.f35) [1, 1, 1, 1, 1, 1]) (pAt (mkPlan (codeOf Try.f35) [([11], [4])]).1 [1, 1, 1, 1, 1, 1]) (SV × Eff × Bool)) (finK Try.prog [] [.cell 8 61, .tmp 9]))) e (left (writes (cAt (codeOf Try.f35) [1, 1, 1, 1, 1, 0, 1, 0, 0])) [11] [4] (⟨.a (.g a0 36) :: .a (.i .i64 (a1)) :: .a (.i .i64 (a2)) :: .a (.i .i64 (a3)) :: .a (.w 0) :: us 3 (.a (.w 1) :: .a (.i .i64 (0 : Int)) :: .a (.w 4) :: .a (.i .i64 (0 : Int)) :: .a (.u) :: .a (.g (zc Try.prog 61) 61) :: .a (.b ((okS a0))) :: .a (.b ((!((okS a0))))) :: .a (.u) :: .a (.i .i64 (a1)) :: .a (.b ((spec_l01Is_v0 a1 a0))) :: .a (.b ((!((spec_l01Is_v0 a1 a0))))) :: .a (.b (false)) :: .a (.i .i64 (a2)) :: .a (.b ((spec_l00In_v0 a2 (0 : Int) (1 : Int)))) :: .a (.b ((!((spec_l00In_v0 a2 (0 : Int) (1 : Int)))))) :: .a (.b ((!((spec_l00In_v0 a2 (0 : Int) (1 : Int)))))) :: .a (.b (false)) :: .a (.i .i64 (a3)) :: .a (.b ((spec_l00In_v0 a3 (0 : Int) (14 : Int)))) :: .a (.b ((!((spec_l00In_v0 a3 (0 : Int) (14 : Int)))))) :: .a (.b ((!((spec_l00In_v0 a3 (0 : Int) (14 : Int)))))) :: .a (.u) :: .a (.i .i64 (a1)) :: .a (.b ((spec_l01Dry_v0 a1 a0))) :: .a (.b ((!((spec_l01Dry_v0 a1 a0))))) :: us 22 ([])), [.row a0 36, .row (zc Try.prog 61) 61, .no, .no, .row (zc Try.prog 61) 61, .no], [4]⟩ : St) s)) = nodeX (iterO (spec_PartsBack_g0 Try.prog a0 a1 a2 a3) N ((0 : Int), (zc Try.prog 61))) (fun x => spec_PartsBack_k0_0 Try.prog N a0 a1 a2 a3 x.1 x.2) := by
  refine loop_node spec_PartsBack_e0 spec_PartsBack_x0 _ _ (spec_PartsBack_s0 N a0 a1 a2 a3) N ((0 : Int), (zc Try.prog 61)) _ _ ?_
  intro x; exact spec_PartsBack_k0_0_eq N a0 a1 a2 a3 x.1 x.2

theorem spec_PartsBack_ans (N : Nat) (a0 : Array Value) (a1 : Int) (a2 : Int) (a3 : Int) : ansV Try.prog (mkΓ [(38, con spec_l01Ok_con), (39, con spec_l01Tide_con), (41, con spec_l01Is_con), (65, con spec_l04Hours_con), (66, con spec_l01Dry_con), (67, con spec_l01Wet_con), (68, con spec_l03Behind_con), (69, con spec_l02Parts_con)]) N Try.f35 [([11], [4])] [.g a0 36, .i .i64 (a1), .i .i64 (a2), .i .i64 (a3)] [] = (bif (!((okS a0))) then (some (.t [.g (zc Try.prog 61) 61, .i .i64 (1 : Int)], .none, true))
    else (bif (!((spec_l01Is_v0 a1 a0))) then (some (.t [.g (zc Try.prog 61) 61, .i .i64 (2 : Int)], .none, true))
      else (bif (!((spec_l00In_v0 a2 (0 : Int) (1 : Int)))) then (some (.t [.g (zc Try.prog 61) 61, .i .i64 (2 : Int)], .none, true))
        else (bif (!((spec_l00In_v0 a3 (0 : Int) (14 : Int)))) then (some (.t [.g (zc Try.prog 61) 61, .i .i64 (2 : Int)], .none, true))
          else (bif decide (0 ≤ (IntKind.u64.wrap a1)) then (bif (!((spec_l01Dry_v0 a1 a0))) then (some (.t [.g (zc Try.prog 61) 61, .i .i64 (4 : Int)], .none, true))
              else (nodeX (iterO (spec_PartsBack_g0 Try.prog a0 a1 a2 a3) N ((0 : Int), (zc Try.prog 61))) (fun x => spec_PartsBack_k0_0 Try.prog N a0 a1 a2 a3 x.1 x.2)))
            else (none)))))) := by
  refine Eq.trans (b := (bif (!((okS a0))) then (some (.t [.g (zc Try.prog 61) 61, .i .i64 (1 : Int)], .none, true))
    else (bif (!((spec_l01Is_v0 a1 a0))) then (some (.t [.g (zc Try.prog 61) 61, .i .i64 (2 : Int)], .none, true))
      else (bif (!((spec_l00In_v0 a2 (0 : Int) (1 : Int)))) then (some (.t [.g (zc Try.prog 61) 61, .i .i64 (2 : Int)], .none, true))
        else (bif (!((spec_l00In_v0 a3 (0 : Int) (14 : Int)))) then (some (.t [.g (zc Try.prog 61) 61, .i .i64 (2 : Int)], .none, true))
          else (bif decide (0 ≤ (IntKind.u64.wrap a1)) then (bif (!((spec_l01Dry_v0 a1 a0))) then (some (.t [.g (zc Try.prog 61) 61, .i .i64 (4 : Int)], .none, true))
              else (bindX (iterO (stepV Try.prog (mkΓ [(38, con spec_l01Ok_con), (39, con spec_l01Tide_con), (41, con spec_l01Is_con), (65, con spec_l04Hours_con), (66, con spec_l01Dry_con), (67, con spec_l01Wet_con), (68, con spec_l03Behind_con), (69, con spec_l02Parts_con)]) N (cAt (codeOf Try.f35) [1, 1, 1, 1, 1, 0, 1, 0, 0]) (pAt (mkPlan (codeOf Try.f35) [([11], [4])]).1 [1, 1, 1, 1, 1, 0, 1, 0]) [11] [4] (⟨.a (.g a0 36) :: .a (.i .i64 (a1)) :: .a (.i .i64 (a2)) :: .a (.i .i64 (a3)) :: .a (.w 0) :: us 3 (.a (.w 1) :: .a (.i .i64 (0 : Int)) :: .a (.w 4) :: .a (.i .i64 (0 : Int)) :: .a (.u) :: .a (.g (zc Try.prog 61) 61) :: .a (.b ((okS a0))) :: .a (.b ((!((okS a0))))) :: .a (.u) :: .a (.i .i64 (a1)) :: .a (.b ((spec_l01Is_v0 a1 a0))) :: .a (.b ((!((spec_l01Is_v0 a1 a0))))) :: .a (.b (false)) :: .a (.i .i64 (a2)) :: .a (.b ((spec_l00In_v0 a2 (0 : Int) (1 : Int)))) :: .a (.b ((!((spec_l00In_v0 a2 (0 : Int) (1 : Int)))))) :: .a (.b ((!((spec_l00In_v0 a2 (0 : Int) (1 : Int)))))) :: .a (.b (false)) :: .a (.i .i64 (a3)) :: .a (.b ((spec_l00In_v0 a3 (0 : Int) (14 : Int)))) :: .a (.b ((!((spec_l00In_v0 a3 (0 : Int) (14 : Int)))))) :: .a (.b ((!((spec_l00In_v0 a3 (0 : Int) (14 : Int)))))) :: .a (.u) :: .a (.i .i64 (a1)) :: .a (.b ((spec_l01Dry_v0 a1 a0))) :: .a (.b ((!((spec_l01Dry_v0 a1 a0))))) :: us 22 ([])), [.row a0 36, .row (zc Try.prog 61) 61, .no, .no, .row (zc Try.prog 61) 61, .no], [4]⟩ : St)) N ([.a (.i .i64 (0 : Int))], [.row (zc Try.prog 61) 61])) (fun e s => (kBlock 0 (kSeq (veC Try.prog (mkΓ [(38, con spec_l01Ok_con), (39, con spec_l01Tide_con), (41, con spec_l01Is_con), (65, con spec_l04Hours_con), (66, con spec_l01Dry_con), (67, con spec_l01Wet_con), (68, con spec_l03Behind_con), (69, con spec_l02Parts_con)]) N (cAt (codeOf Try.f35) [1, 1, 1, 1, 1, 1]) (pAt (mkPlan (codeOf Try.f35) [([11], [4])]).1 [1, 1, 1, 1, 1, 1]) (SV × Eff × Bool)) (finK Try.prog [] [.cell 8 61, .tmp 9]))) e (left (writes (cAt (codeOf Try.f35) [1, 1, 1, 1, 1, 0, 1, 0, 0])) [11] [4] (⟨.a (.g a0 36) :: .a (.i .i64 (a1)) :: .a (.i .i64 (a2)) :: .a (.i .i64 (a3)) :: .a (.w 0) :: us 3 (.a (.w 1) :: .a (.i .i64 (0 : Int)) :: .a (.w 4) :: .a (.i .i64 (0 : Int)) :: .a (.u) :: .a (.g (zc Try.prog 61) 61) :: .a (.b ((okS a0))) :: .a (.b ((!((okS a0))))) :: .a (.u) :: .a (.i .i64 (a1)) :: .a (.b ((spec_l01Is_v0 a1 a0))) :: .a (.b ((!((spec_l01Is_v0 a1 a0))))) :: .a (.b (false)) :: .a (.i .i64 (a2)) :: .a (.b ((spec_l00In_v0 a2 (0 : Int) (1 : Int)))) :: .a (.b ((!((spec_l00In_v0 a2 (0 : Int) (1 : Int)))))) :: .a (.b ((!((spec_l00In_v0 a2 (0 : Int) (1 : Int)))))) :: .a (.b (false)) :: .a (.i .i64 (a3)) :: .a (.b ((spec_l00In_v0 a3 (0 : Int) (14 : Int)))) :: .a (.b ((!((spec_l00In_v0 a3 (0 : Int) (14 : Int)))))) :: .a (.b ((!((spec_l00In_v0 a3 (0 : Int) (14 : Int)))))) :: .a (.u) :: .a (.i .i64 (a1)) :: .a (.b ((spec_l01Dry_v0 a1 a0))) :: .a (.b ((!((spec_l01Dry_v0 a1 a0))))) :: us 22 ([])), [.row a0 36, .row (zc Try.prog 61) 61, .no, .no, .row (zc Try.prog 61) 61, .no], [4]⟩ : St) s))))
            else (none))))))) (by kernel_rfl) ?_
  simp only [spec_PartsBack_n0 N a0 a1 a2 a3]

theorem impl_PartsBack_ans (N : Nat) (a0 : Array Value) (a1 : Int) (a2 : Int) (a3 : Int) : ansV Try.prog (mkΓ [(52, con sum_impl_rowsBack_con), (53, con impl_onlyAt_con), (56, con impl_bottleCode_con), (70, con impl_isWater_con)]) N Try.f36 [] [.g a0 36, .i .i64 (a1), .i .i64 (a2), .i .i64 (a3)] [] = (bif ((impl_bottleCode_v0 a0 a1 a2 a3) != (0 : Int)) then (some (.t [.g (zc Try.prog 61) 61, .i .i64 (impl_bottleCode_v0 a0 a1 a2 a3)], .none, true))
    else (bif decide (0 ≤ a1) then (bif (impl_isWater_v0 a0 a1) then (some (.t [.g (zc Try.prog 61) 61, .i .i64 (4 : Int)], .none, true))
        else (bif (decide (0 ≤ a1) && decide (a1 < 36)) then (bif ((okS a0 && (decide (0 ≤ a2) && decide (a2 < 2))) && (decide (0 ≤ a3) && decide (a3 ≤ 14))) then (bif (decide (0 ≤ a3) && decide (a3 < (((a3.toNat + 1)) : Int))) then (some (.t [.g ((catR Try.prog sumL a0 (impl_onlyAt_v0 Try.prog a1) a2 a3 (a3.toNat + 1)).extract ((a3).toNat * 36) (((a3).toNat * 36) + 36)) 61, .i .i64 (0 : Int)], .none, true))
              else (none))
            else (none))
          else (none)))
      else (none))) := by kernel_rfl


noncomputable def pkC (S : Array Value) (c b h : Int) : Int := bif spec_l04Asked_v0 c c b h S == 0 then (bif spec_l01Dry_v0 c S then 0 else 4) else spec_l04Asked_v0 c c b h S
noncomputable def pkV (P : Program) (S : Array Value) (c b h : Int) : Array Value := bif pkC S c b h == 0 then rowR P sumL S (impl_onlyAt_v0 P c) b h h.toNat else zc P 61
/-- A row of 36 numbers. -/
noncomputable def Row36 (A : Array Value) : Prop := A.size = 36 ∧ ∀ i, i < 36 → A[i]? = some (.int .i64 (num A i))
theorem row_ext {A B : Array Value} (hA : Row36 A) (hB : Row36 B) (h : ∀ i, i < 36 → num A i = num B i) : A = B := arr_ext fun i => by
  by_cases hi : i < 36
  · rw [hA.2 i hi, hB.2 i hi, h i hi]
  · rw [Array.getElem?_eq_none (by rw [hA.1]; omega), Array.getElem?_eq_none (by rw [hB.1]; omega)]
theorem row_set {A : Array Value} (hA : Row36 A) (k : Nat) (n : Int) : Row36 (A.setIfInBounds k (.int .i64 n)) := by
  refine ⟨by rw [Array.size_setIfInBounds]; exact hA.1, fun i hi => ?_⟩
  by_cases e : k = i
  · subst e
    rw [num_set (by rw [hA.1]; exact hi), Array.getElem?_setIfInBounds, if_pos rfl, if_pos (by rw [hA.1]; exact hi)]
  · unfold num
    rw [Array.getElem?_setIfInBounds, if_neg e, hA.2 i hi]
theorem row_zc : Row36 (zc Try.prog 61) := ⟨zc_row, fun i hi => by
  have := zc_at i hi
  rw [this]; unfold num; rw [this]⟩
theorem rowF_row (V : List (Int × Int) → Array Value → Int) (S L : Array Value) (t : Int) : Row36 (rowF Try.prog V S L t) := by
  unfold rowF
  exact folds_inv (fun _ (r : Array Value) => Row36 r) row_zc (fun k s _ h => by split; exact row_set h _ _; exact h) 36 (Nat.le_refl _)
theorem rowR_row (V : List (Int × Int) → Array Value → Int) (S : Array Value) (c b h : Int) : ∀ j, Row36 (rowR Try.prog V S (impl_onlyAt_v0 Try.prog c) b h j)
  | 0 => by unfold rowR impl_onlyAt_v0; exact row_set row_zc _ _
  | j + 1 => by unfold rowR; exact rowF_row V S _ _
theorem sumL_in (r : Array Value) (l : List (Int × Int)) : -9223372036854775808 ≤ sumL l r ∧ sumL l r ≤ 9223372036854775807 := by
  have h : ∀ (l : List (Int × Int)) (c : Int), (-9223372036854775808 ≤ c ∧ c ≤ 9223372036854775807) → -9223372036854775808 ≤ l.foldl (sumF r) c ∧ l.foldl (sumF r) c ≤ 9223372036854775807 := fun l => by
    induction l with
    | nil => exact fun c hc => hc
    | cons p l ih => exact fun c _ => ih _ (wrap_in .i64 _)
  exact h l 0 (by omega)
theorem row_in (S : Array Value) {c b h : Int} (hc : 0 ≤ c ∧ c ≤ 35) {k : Nat} (hk : k < 36) : ∀ j, -9223372036854775808 ≤ num (rowR Try.prog sumL S (impl_onlyAt_v0 Try.prog c) b h j) k ∧ num (rowR Try.prog sumL S (impl_onlyAt_v0 Try.prog c) b h j) k ≤ 9223372036854775807
  | 0 => by rw [rowR, only_num hc hk]; split <;> omega
  | j + 1 => by
    have := rowF_at sumL S (rowR Try.prog sumL S (impl_onlyAt_v0 Try.prog c) b h j) ((IntKind.i64.wrap (b + IntKind.i64.wrap (h - ((j + 1 : Nat) : Int)))).tmod 2) hk
    rw [Nat.mul_one] at this
    rw [rowR, this]
    split
    · exact sumL_in _ _
    · omega
theorem ad_in {r : Array Value} {i : Nat} (m : Int) (h : ∀ j, j < 36 → -9223372036854775808 ≤ num r (3 + j) ∧ num r (3 + j) ≤ 9223372036854775807) : ∀ j, j < 36 → -9223372036854775808 ≤ num (adN r i m) (3 + j) ∧ num (adN r i m) (3 + j) ≤ 9223372036854775807 := fun j hj => by
  by_cases e : i = 3 + j
  · by_cases hs : i < r.size
    · subst e; rw [adN_eq m hs]; exact wrap_in .i64 _
    · have : adN r i m = r := arr_ext fun q => by
        unfold adN
        rw [Array.getElem?_setIfInBounds]
        split
        · rename_i e2; subst e2; exact (Array.getElem?_eq_none (by omega)).symm
        · rfl
      rw [this]; exact h j hj
  · rw [adN_ne m e]; exact h j hj
theorem drift_in (S : Array Value) {c b : Int} (hb : 0 ≤ b ∧ b ≤ 1) (hc : 0 ≤ c ∧ c ≤ 35) : ∀ n, ∀ j, j < 36 → -9223372036854775808 ≤ num (driftV Try.prog S (oneX Try.prog c b) n) (3 + j) ∧ num (driftV Try.prog S (oneX Try.prog c b) n) (3 + j) ≤ 9223372036854775807
  | 0, j, hj => by rw [driftV, (oneX_num hb hc).2.2.2 j hj]; split <;> omega
  | n + 1, j, hj => by
    rw [driftV]
    unfold hourV
    exact folds_inv (fun _ (r : Array Value) => ∀ j, j < 36 → -9223372036854775808 ≤ num r (3 + j) ∧ num r (3 + j) ≤ 9223372036854775807) (fun j hj => by rw [(hourI_num _).2.2 j hj]; omega)
      (fun k s _ hs => cellF_keep (Q := fun r => ∀ j, j < 36 → -9223372036854775808 ≤ num r (3 + j) ∧ num r (3 + j) ≤ 9223372036854775807) (fun r i m h => ad_in m h) S _ _ s k hs) 36 (Nat.le_refl _) j hj
/-- What comes to a cell from another one, forward and backward. -/
theorem fore_eq {S : Array Value} (hS : WT Try.prog 36 S) (hok : okS S = true) {c e b : Int} {h : Nat} (hb : 0 ≤ b ∧ b ≤ 1) (hc : 0 ≤ c ∧ c ≤ 35) (he : 0 ≤ e ∧ e ≤ 35) (hi : inC (num S 0) (num S 1) e.toNat = true) (hh : h ≤ 14) :
    num (driftV Try.prog S (oneX Try.prog c b) h) (3 + e.toNat) = num (rowR Try.prog sumL S (impl_onlyAt_v0 Try.prog e) b (h : Int) h) c.toNat := by
  have hf := fore_back hS hok (h := h) hb hc he hi hh h (Nat.le_refl _)
  rw [Nat.sub_self] at hf
  have e1 : dot (driftV Try.prog S (oneX Try.prog c b) h) (rowR Try.prog sumL S (impl_onlyAt_v0 Try.prog e) b (h : Int) 0) = num (driftV Try.prog S (oneX Try.prog c b) h) (3 + e.toNat) := by
    unfold dot
    rw [sm_one 36 (show e.toNat < 36 by omega) (fun i hi hne => by rw [rowR, only_num he hi, if_neg hne]; omega), rowR, only_num he (by omega), if_pos rfl]; omega
  have e2 : dot (oneX Try.prog c b) (rowR Try.prog sumL S (impl_onlyAt_v0 Try.prog e) b (h : Int) h) = num (rowR Try.prog sumL S (impl_onlyAt_v0 Try.prog e) b (h : Int) h) c.toNat := by
    unfold dot
    rw [sm_one 36 (show c.toNat < 36 by omega) (fun i hi hne => by rw [(oneX_num hb hc).2.2.2 i hi, if_neg hne]; omega), (oneX_num hb hc).2.2.2 _ (by omega), if_pos rfl]; omega
  rw [e1, e2] at hf
  exact cg_eq hf (drift_in S hb hc h _ (by omega)) (row_in S he (by omega) h)
/-- On land nothing comes but to where it is. -/
theorem row_land {S : Array Value} (hS : WT Try.prog 36 S) {e b : Int} (he : 0 ≤ e ∧ e ≤ 35) {k : Nat} (hk : k < 36) (hi : inC (num S 0) (num S 1) k = true) (hd : spec_l01Dry_v0 (k : Int) S = true) (h : Int) : ∀ j, j ≤ 14 → num (rowR Try.prog sumL S (impl_onlyAt_v0 Try.prog e) b h j) k = if k = e.toNat then 12 ^ j else 0
  | 0, _ => by rw [rowR, only_num he hk]; split <;> rfl
  | j + 1, hj => by
    have := rowF_at sumL S (rowR Try.prog sumL S (impl_onlyAt_v0 Try.prog e) b h j) ((IntKind.i64.wrap (b + IntKind.i64.wrap (h - ((j + 1 : Nat) : Int)))).tmod 2) hk
    rw [Nat.mul_one] at this
    rw [rowR, this, hi, if_pos rfl]
    unfold stL
    rw [← dry_land hS hk, hd, cond_true]
    have e1 : ∀ r : Array Value, sumL [((k : Int), 12)] r = IntKind.i64.wrap (0 + IntKind.i64.wrap (12 * num r k)) := fun r => by
      show IntKind.i64.wrap (0 + IntKind.i64.wrap (12 * laterOf r (k : Int))) = _
      unfold laterOf; rw [Int.toNat_natCast, Nat.mul_one]
    rw [e1, row_land hS he hk hi hd h j (by omega)]
    split
    · rw [Int.mul_comm, wrap12 j (by omega), Int.zero_add]
      have hp : ∀ m, m < 15 → IntKind.i64.wrap ((12 : Int) ^ m) = 12 ^ m := by decide
      exact hp (j + 1) (by omega)
    · rfl

theorem impl_PartsBack_main (a0 : Array Value) (a1 : Int) (a2 : Int) (a3 : Int) (h_a0 : WT Try.prog 36 a0) (h_a1 : IntKind.i64.min ≤ a1 ∧ a1 ≤ IntKind.i64.max) (h_a2 : IntKind.i64.min ≤ a2 ∧ a2 ≤ IntKind.i64.max) (h_a3 : IntKind.i64.min ≤ a3 ∧ a3 ≤ IntKind.i64.max) (hg : (true) = true) : ansV Try.prog (mkΓ [(52, con sum_impl_rowsBack_con), (53, con impl_onlyAt_con), (56, con impl_bottleCode_con), (70, con impl_isWater_con)]) 1000 Try.f36 [] [.g a0 36, .i .i64 (a1), .i .i64 (a2), .i .i64 (a3)] [] = some (.t [.g (pkV Try.prog a0 a1 a2 a3) 61, .i .i64 (pkC a0 a1 a2 a3)], .none, true) := by
  refine (impl_PartsBack_ans 1000 a0 a1 a2 a3).trans ?_
  rw [ask_bottle]
  unfold pkV pkC
  cases hc : (spec_l04Asked_v0 a1 a1 a2 a3 a0 == 0)
  · rw [ne_of' hc]; simp only [cond_true, cond_false, hc]
  obtain ⟨g1, g2, g3, g4⟩ := ask_guard hc
  obtain ⟨hok, his, _, _, hhr⟩ := ask_all hc
  have r1 := is_range his
  have r5 := in_range hhr
  obtain ⟨m, rfl⟩ : ∃ m : Nat, a3 = (m : Int) := ⟨a3.toNat, by omega⟩
  obtain ⟨k, rfl⟩ : ∃ k : Nat, a1 = (k : Int) := ⟨a1.toNat, by omega⟩
  have hw : impl_isWater_v0 a0 (k : Int) = !(spec_l01Dry_v0 (k : Int) a0) := by unfold impl_isWater_v0; rw [dry_land h_a0 (by omega)]
  have g5 : (decide (0 ≤ (m : Int)) && decide ((m : Int) < (((m : Int).toNat : Nat) : Int) + 1)) = true := by rw [decide_eq_true (by omega), decide_eq_true (by omega)]; rfl
  have hL : (impl_onlyAt_v0 Try.prog (k : Int)).size = 36 := by unfold impl_onlyAt_v0; rw [Array.size_setIfInBounds, zc_row]
  rw [ne_of hc, hw, g1, g3, g5, decide_eq_true r1.1]
  simp only [cond_true, cond_false, Int.toNat_natCast]
  rw [catR_at sumL a0 hL a2 (m : Int) (m + 1) (show m < m + 1 by omega)]
  cases spec_l01Dry_v0 (k : Int) a0 <;> rfl
noncomputable def impl_PartsBack_con : Con := fun args h => match args, h with
  | [.g a0 36, .i .i64 a1, .i .i64 a2, .i .i64 a3], [] => some (.t [.g (pkV Try.prog a0 a1 a2 a3) 61, .i .i64 (pkC a0 a1 a2 a3)], .none, true)
  | _, _ => none
theorem impl_PartsBack_enter : ∀ args w, (callFunc 36 args).run Try.prog w = .ok (.enter 36 args) w := enter_ok (fn := Try.f36) (by kernel_rfl) (by kernel_rfl) (by kernel_rfl)
theorem impl_PartsBack_ok : ConOk Try.prog 36 impl_PartsBack_con := (ans_ok (N := 1000) (by kernel_rfl) (mkΓ_cons (con_ok sum_impl_rowsBack_ok) sum_impl_rowsBack_enter (mkΓ_cons (con_ok impl_onlyAt_ok) impl_onlyAt_enter (mkΓ_cons (con_ok impl_bottleCode_ok) impl_bottleCode_enter (mkΓ_cons (con_ok impl_isWater_ok) impl_isWater_enter mkΓ_nil)))) (fn := Try.f36) (by kernel_rfl) (by kernel_rfl) []).of (by
  intro ρ h w args vals r e hA hH hr
  unfold impl_PartsBack_con at hr
  split at hr
  · rename_i a0 a1 a2 a3
    obtain ⟨rfl, hg⟩ := Prod.mk.inj (Option.some.inj hr)
    obtain ⟨rfl, hg2⟩ := Prod.mk.inj hg
    exact impl_PartsBack_main a0 a1 a2 a3 (hA.wt 0 rfl) (hA.rng 1 rfl) (hA.rng 2 rfl) (hA.rng 3 rfl) hg2
  · cases hr)

theorem spec_PartsBack_main (a0 : Array Value) (a1 : Int) (a2 : Int) (a3 : Int) (h_a0 : WT Try.prog 36 a0) (h_a1 : IntKind.i64.min ≤ a1 ∧ a1 ≤ IntKind.i64.max) (h_a2 : IntKind.i64.min ≤ a2 ∧ a2 ≤ IntKind.i64.max) (h_a3 : IntKind.i64.min ≤ a3 ∧ a3 ≤ IntKind.i64.max) (hg : (true) = true) : ansV Try.prog (mkΓ [(38, con spec_l01Ok_con), (39, con spec_l01Tide_con), (41, con spec_l01Is_con), (65, con spec_l04Hours_con), (66, con spec_l01Dry_con), (67, con spec_l01Wet_con), (68, con spec_l03Behind_con), (69, con spec_l02Parts_con)]) 1000 Try.f35 [([11], [4])] [.g a0 36, .i .i64 (a1), .i .i64 (a2), .i .i64 (a3)] [] = some (.t [.g (pkV Try.prog a0 a1 a2 a3) 61, .i .i64 (pkC a0 a1 a2 a3)], .none, true) := by
  refine (spec_PartsBack_ans 1000 a0 a1 a2 a3).trans ?_
  unfold pkV pkC spec_l04Asked_v0
  cases hok : okS a0
  · rfl
  cases his : spec_l01Is_v0 a1 a0
  · rfl
  cases htd : spec_l00In_v0 a2 0 1
  · rfl
  cases hhr : spec_l00In_v0 a3 0 14
  · rfl
  have r1 := is_range his
  have r2 := in_range htd
  have r5 := in_range hhr
  rw [decide_eq_true (show 0 ≤ IntKind.u64.wrap a1 from (wrap_in .u64 _).1)]
  simp only [Bool.not_true, cond_true, cond_false]
  rw [show ((0 : Int) == 0) = true from rfl]
  simp only [cond_true]
  cases hd : spec_l01Dry_v0 a1 a0
  · rfl
  obtain ⟨m, rfl⟩ : ∃ m : Nat, a3 = (m : Int) := ⟨a3.toNat, by omega⟩
  obtain ⟨e, rfl⟩ : ∃ k : Nat, a1 = (k : Int) := ⟨a1.toNat, by omega⟩
  have he : e < 36 := by omega
  have hie : inC (num a0 0) (num a0 1) e = true := by rw [← is_inC h_a0 he]; exact his
  have h := iter_folds (g := spec_PartsBack_g0 Try.prog a0 (e : Int) a2 (m : Int)) (fun o k => ((k : Int), o)) (fun o k => bif spec_l01Wet_v0 (k : Int) a0 then o.setIfInBounds (k * 1) (.int .i64 (num (driftV Try.prog a0 (oneX Try.prog (k : Int) a2) m) (3 + e * 1))) else o) (m := 36) (t := zc Try.prog 61) (N := 1000) (fun k s hk _ => by
    have h1 : decide ((k : Int) < 36) = true := decide_eq_true (by omega)
    have h0 : decide (0 ≤ (k : Int)) = true := decide_eq_true (by omega)
    have h3 : IntKind.i64.wrap ((k : Int) + 1) = ((k + 1 : Nat) : Int) := by rw [w64 (by omega)]; omega
    have h4 := dec2 (a := (e : Int)) (b := 36) (by omega) (by omega)
    obtain ⟨w1, w2⟩ := wet_all h_a0 hk
    cases hw : spec_l01Wet_v0 (k : Int) a0 with
    | false => simp only [spec_PartsBack_g0, h1, h3, w1, hw, cond_true, cond_false]
    | true =>
      rw [hw] at w2
      have hi : spec_l01Is_v0 (k : Int) a0 = true := by rw [is_inC h_a0 hk]; exact (Bool.and_eq_true_iff.1 w2.symm).1
      simp only [spec_PartsBack_g0, h1, h0, h3, h4, w1, hw, hi, hok, htd, hhr, Bool.and_self, cond_true, Int.toNat_natCast]) (by
    have h1 : decide (((36 : Nat) : Int) < 36) = false := by decide
    simp only [spec_PartsBack_g0, h1, cond_false]
    rfl) (by omega)
  have hres : (folds (fun o k => bif spec_l01Wet_v0 (k : Int) a0 then o.setIfInBounds (k * 1) (.int .i64 (num (driftV Try.prog a0 (oneX Try.prog (k : Int) a2) m) (3 + e * 1))) else o) (zc Try.prog 61) 36).setIfInBounds (e * 1) (.int .i64 (12 ^ m)) = rowR Try.prog sumL a0 (impl_onlyAt_v0 Try.prog (e : Int)) a2 (m : Int) m := by
    have hinv := folds_inv (f := fun o k => bif spec_l01Wet_v0 (k : Int) a0 then o.setIfInBounds (k * 1) (.int .i64 (num (driftV Try.prog a0 (oneX Try.prog (k : Int) a2) m) (3 + e * 1))) else o) (t := zc Try.prog 61) (n := 36)
      (fun q (o : Array Value) => Row36 o ∧ ∀ i, i < 36 → num o i = if i < q ∧ spec_l01Wet_v0 (i : Int) a0 = true then num (driftV Try.prog a0 (oneX Try.prog (i : Int) a2) m) (3 + e) else 0) ⟨row_zc, fun i hi => by unfold num; rw [zc_at i hi]; simp⟩ (fun q o hq ho => by
        cases hw : spec_l01Wet_v0 (q : Int) a0 with
        | false =>
          simp only [cond_false]
          refine ⟨ho.1, fun i hi => ?_⟩
          rw [ho.2 i hi]
          by_cases e2 : i = q
          · subst e2; simp [hw]
          · by_cases c : i < q
            · simp [c, show i < q + 1 by omega]
            · simp [c, show ¬ i < q + 1 by omega]
        | true =>
          simp only [cond_true, Nat.mul_one]
          refine ⟨row_set ho.1 _ _, fun i hi => ?_⟩
          by_cases e2 : q = i
          · subst e2
            rw [num_set (by rw [ho.1.1]; exact hi), if_pos ⟨by omega, hw⟩]
          · have : num (o.setIfInBounds q (.int .i64 (num (driftV Try.prog a0 (oneX Try.prog (q : Int) a2) m) (3 + e)))) i = num o i := by unfold num; rw [Array.getElem?_setIfInBounds, if_neg e2]
            rw [this, ho.2 i hi]
            by_cases c : i < q
            · simp [c, show i < q + 1 by omega]
            · simp [c, show ¬ i < q + 1 by omega]) 36 (Nat.le_refl _)
    have key : ∀ O : Array Value, (Row36 O ∧ ∀ i, i < 36 → num O i = if i < 36 ∧ spec_l01Wet_v0 (i : Int) a0 = true then num (driftV Try.prog a0 (oneX Try.prog (i : Int) a2) m) (3 + e) else 0) → O.setIfInBounds (e * 1) (.int .i64 (12 ^ m)) = rowR Try.prog sumL a0 (impl_onlyAt_v0 Try.prog (e : Int)) a2 (m : Int) m := by
      intro O hinv
      rw [Nat.mul_one]
      refine row_ext (row_set hinv.1 _ _) (rowR_row sumL a0 (e : Int) a2 (m : Int) m) fun i hi => ?_
      by_cases e2 : e = i
      · subst e2
        rw [num_set (by rw [hinv.1.1]; exact he), row_land h_a0 r1 he hie hd (m : Int) m (by omega), if_pos (by rw [Int.toNat_natCast])]
      · have e3 : num (O.setIfInBounds e (.int .i64 (12 ^ m))) i = num O i := by unfold num; rw [Array.getElem?_setIfInBounds, if_neg e2]
        rw [e3]
        refine (hinv.2 i hi).trans ?_
        obtain ⟨w1, w2⟩ := wet_all h_a0 hi
        rw [w2]
        cases hi2 : inC (num a0 0) (num a0 1) i with
        | false =>
          rw [Bool.false_and, if_neg (by simp)]
          exact (row_zero r1 (by rw [Int.toNat_natCast]; exact hie) (m : Int) m i hi hi2).symm
        | true =>
          cases hd2 : spec_l01Dry_v0 (i : Int) a0 with
          | true =>
            rw [if_neg (by simp), row_land h_a0 r1 hi hi2 hd2 (m : Int) m (by omega), if_neg (by rw [Int.toNat_natCast]; omega)]
          | false =>
            rw [if_pos ⟨hi, rfl⟩]
            have := fore_eq h_a0 hok (c := (i : Int)) (e := (e : Int)) (b := a2) (h := m) r2 (by omega) r1 (by rw [Int.toNat_natCast]; exact hie) (by omega)
            rw [Int.toNat_natCast, Int.toNat_natCast] at this
            exact this
    exact key _ hinv
  have h' : iterO (spec_PartsBack_g0 Try.prog a0 (e : Int) a2 (m : Int)) 1000 ((0 : Int), zc Try.prog 61) = _ := h
  rw [h']
  simp only [nodeX, spec_PartsBack_k0_0]
  rw [decide_eq_true r5.1, decide_eq_true r5.2, dec2 r1.1 (show (e : Int) < 36 by omega)]
  simp only [Bool.and_self, cond_true, Int.toNat_natCast]
  rw [hres]
  rfl
noncomputable def spec_PartsBack_con : Con := fun args h => match args, h with
  | [.g a0 36, .i .i64 a1, .i .i64 a2, .i .i64 a3], [] => some (.t [.g (pkV Try.prog a0 a1 a2 a3) 61, .i .i64 (pkC a0 a1 a2 a3)], .none, true)
  | _, _ => none
theorem spec_PartsBack_enter : ∀ args w, (callFunc 35 args).run Try.prog w = .ok (.enter 35 args) w := enter_ok (fn := Try.f35) (by kernel_rfl) (by kernel_rfl) (by kernel_rfl)
theorem spec_PartsBack_ok : ConOk Try.prog 35 spec_PartsBack_con := (ans_ok (N := 1000) (by kernel_rfl) (mkΓ_cons (con_ok spec_l01Ok_ok) spec_l01Ok_enter (mkΓ_cons (con_ok spec_l01Tide_ok) spec_l01Tide_enter (mkΓ_cons (con_ok spec_l01Is_ok) spec_l01Is_enter (mkΓ_cons (con_ok spec_l04Hours_ok) spec_l04Hours_enter (mkΓ_cons (con_ok spec_l01Dry_ok) spec_l01Dry_enter (mkΓ_cons (con_ok spec_l01Wet_ok) spec_l01Wet_enter (mkΓ_cons (con_ok spec_l03Behind_ok) spec_l03Behind_enter (mkΓ_cons (con_ok spec_l02Parts_ok) spec_l02Parts_enter mkΓ_nil)))))))) (fn := Try.f35) (by kernel_rfl) (by kernel_rfl) [([11], [4])]).of (by
  intro ρ h w args vals r e hA hH hr
  unfold spec_PartsBack_con at hr
  split at hr
  · rename_i a0 a1 a2 a3
    obtain ⟨rfl, hg⟩ := Prod.mk.inj (Option.some.inj hr)
    obtain ⟨rfl, hg2⟩ := Prod.mk.inj hg
    exact spec_PartsBack_main a0 a1 a2 a3 (hA.wt 0 rfl) (hA.rng 1 rfl) (hA.rng 2 rfl) (hA.rng 3 rfl) hg2
  · cases hr)

end
end Go.Proofs.Ytmkkckhfghomfaa
