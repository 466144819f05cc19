/- For every sea and tide spec and program sum the same flows. -/
import Derived.Test.YtafmhcdelokmbaaRows
import Derived.Test.YtafmhcdelokmbaaChecked
import Derived.Test.YtafmhcdelokmbaaBase
import Derived.Test.YtafmhcdelokmbaaVeOk
namespace Go.Proofs.Ytafmhcdelokmbaa
open Go.ChangeShapes Go.WideShapes Go.ChangeAt Go.RowKit Ve
set_option linter.unusedVariables false
set_option linter.unusedSimpArgs false
set_option maxRecDepth 100000
noncomputable section
theorem tide_eq (t : Int) : impl_hasTide_v0 t = spec_l00In_v0 t 0 1 := by
  unfold impl_hasTide_v0 spec_l00In_v0
  by_cases h0 : t = 0
  · subst h0; rfl
  · by_cases h1 : t = 1
    · subst h1; rfl
    · rw [show (t == 0) = false from beq_eq_false_iff_ne.2 h0, show (t == 1) = false from beq_eq_false_iff_ne.2 h1]
      by_cases h2 : t ≥ 0
      · rw [decide_eq_true h2, decide_eq_false (show ¬ t ≤ 1 by omega)]; rfl
      · rw [decide_eq_false h2]; rfl
theorem tide_range {t : Int} (h : spec_l00In_v0 t 0 1 = true) : 0 ≤ t ∧ t ≤ 1 := by
  unfold spec_l00In_v0 at h
  cases h0 : decide (t ≥ 0) with
  | false => rw [h0] at h; exact nomatch h
  | true => rw [h0] at h; exact ⟨of_decide_eq_true h0, of_decide_eq_true h⟩

theorem wrap_idem (n : Int) : IntKind.i64.wrap (IntKind.i64.wrap n) = IntKind.i64.wrap n := IntWalk.i64_in _ (wrap_in .i64 n)
noncomputable def fF (S : Array Value) (t : Nat) (s : Int × Int) (k : Nat) : Int × Int :=
  (IntKind.i64.wrap (s.1 + IntKind.i64.wrap (IntKind.i64.wrap (num S (3 + t * 180 + k * 5 + 2)) - IntKind.i64.wrap (num S (3 + t * 180 + k * 5 + 4)))), IntKind.i64.wrap (s.2 + IntKind.i64.wrap (IntKind.i64.wrap (num S (3 + t * 180 + k * 5 + 3)) - IntKind.i64.wrap (num S (3 + t * 180 + k * 5 + 1)))))
/-- All flows in a tide. -/
noncomputable def flows (S : Array Value) (t : Int) : Int × Int := folds (fF S t.toNat) (0, 0) 36

noncomputable def spec_MeanFlow_e0 : Int × Int × Int → LS
  | (y0_7, y0_8, y0_9) => ([.a (.i .i64 (y0_7)), .a (.i .i64 (y0_8)), .a (.i .i64 (y0_9))], [])

noncomputable def spec_MeanFlow_x0 : Int × Int × Int → Exit × LS
  | t => ((.exit 0), spec_MeanFlow_e0 t)

noncomputable def spec_MeanFlow_g0 (P : Program) (a0 : Array Value) (a1 : Int) : Int × Int × Int → Option (Stp (Int × Int × Int) (Int × Int × Int))
  | (y0_7, y0_8, y0_9) => bif decide (y0_9 < (36 : Int)) then (bif (decide (0 ≤ a1) && decide (a1 < 2)) then (bif (decide (0 ≤ y0_9) && decide (y0_9 < 36)) then (some (.more ((IntKind.i64.wrap (y0_7 + (IntKind.i64.wrap ((IntKind.i64.wrap (num (a0.extract ((3 + ((a1).toNat * 180)) + ((y0_9).toNat * 5)) (((3 + ((a1).toNat * 180)) + ((y0_9).toNat * 5)) + 5)) 2)) - (IntKind.i64.wrap (num (a0.extract ((3 + ((a1).toNat * 180)) + ((y0_9).toNat * 5)) (((3 + ((a1).toNat * 180)) + ((y0_9).toNat * 5)) + 5)) 4)))))), (IntKind.i64.wrap (y0_8 + (IntKind.i64.wrap ((IntKind.i64.wrap (num (a0.extract ((3 + ((a1).toNat * 180)) + ((y0_9).toNat * 5)) (((3 + ((a1).toNat * 180)) + ((y0_9).toNat * 5)) + 5)) 3)) - (IntKind.i64.wrap (num (a0.extract ((3 + ((a1).toNat * 180)) + ((y0_9).toNat * 5)) (((3 + ((a1).toNat * 180)) + ((y0_9).toNat * 5)) + 5)) 1)))))), (IntKind.i64.wrap (y0_9 + (1 : Int))))))
        else (none))
      else (none))
    else (some (.done (y0_7, y0_8, y0_9)))

theorem spec_MeanFlow_s0 (N : Nat) (a0 : Array Value) (a1 : Int) : ∀ t : Int × Int × Int, stepV Try.prog (mkΓ [(61, con spec_l01Ok_con), (75, con spec_l01Tide_con)]) N (cAt (codeOf Try.f23) [1, 1, 1, 1, 1, 0, 1, 0, 0]) (pAt (mkPlan (codeOf Try.f23) [([7, 8, 9], [])]).1 [1, 1, 1, 1, 1, 0, 1, 0]) [7, 8, 9] [] (⟨[.a (.g a0 29), .a (.i .i64 (a1)), .a (.w 0), .a (.u), .a (.i .i64 (0 : Int)), .a (.i .i64 (0 : Int)), .a (.i .i64 (0 : Int)), .a (.i .i64 (0 : Int)), .a (.i .i64 (0 : Int)), .a (.i .i64 (0 : Int)), .a (.u), .a (.b ((okS a0))), .a (.b ((!((okS a0))))), .a (.i .i64 (a1)), .a (.b ((spec_l00In_v0 a1 (0 : Int) (1 : Int)))), .a (.b ((!((spec_l00In_v0 a1 (0 : Int) (1 : Int)))))), .a (.u), .a (.u), .a (.u), .a (.u), .a (.u), .a (.u), .a (.u), .a (.u), .a (.u), .a (.u), .a (.u), .a (.u), .a (.u), .a (.u), .a (.u), .a (.u), .a (.u), .a (.u), .a (.u), .a (.u), .a (.u), .a (.u), .a (.u), .a (.u), .a (.u), .a (.u), .a (.u), .a (.u), .a (.u), .a (.u)], [.row a0 29, .no, .no, .no], []⟩ : St) (spec_MeanFlow_e0 t) = mapS spec_MeanFlow_e0 spec_MeanFlow_x0 (spec_MeanFlow_g0 Try.prog a0 a1 t) := by
  rintro ⟨y0_7, y0_8, y0_9⟩
  have h : stepV Try.prog (mkΓ [(61, con spec_l01Ok_con), (75, con spec_l01Tide_con)]) N (cAt (codeOf Try.f23) [1, 1, 1, 1, 1, 0, 1, 0, 0]) (pAt (mkPlan (codeOf Try.f23) [([7, 8, 9], [])]).1 [1, 1, 1, 1, 1, 0, 1, 0]) [7, 8, 9] [] (⟨[.a (.g a0 29), .a (.i .i64 (a1)), .a (.w 0), .a (.u), .a (.i .i64 (0 : Int)), .a (.i .i64 (0 : Int)), .a (.i .i64 (0 : Int)), .a (.i .i64 (0 : Int)), .a (.i .i64 (0 : Int)), .a (.i .i64 (0 : Int)), .a (.u), .a (.b ((okS a0))), .a (.b ((!((okS a0))))), .a (.i .i64 (a1)), .a (.b ((spec_l00In_v0 a1 (0 : Int) (1 : Int)))), .a (.b ((!((spec_l00In_v0 a1 (0 : Int) (1 : Int)))))), .a (.u), .a (.u), .a (.u), .a (.u), .a (.u), .a (.u), .a (.u), .a (.u), .a (.u), .a (.u), .a (.u), .a (.u), .a (.u), .a (.u), .a (.u), .a (.u), .a (.u), .a (.u), .a (.u), .a (.u), .a (.u), .a (.u), .a (.u), .a (.u), .a (.u), .a (.u), .a (.u), .a (.u), .a (.u), .a (.u)], [.row a0 29, .no, .no, .no], []⟩ : St) ([.a (.i .i64 (y0_7)), .a (.i .i64 (y0_8)), .a (.i .i64 (y0_9))], []) = (bif decide (y0_9 < (36 : Int)) then (bif (decide (0 ≤ a1) && decide (a1 < 2)) then (bif (decide (0 ≤ y0_9) && decide (y0_9 < 36)) then (some (.more ([.a (.i .i64 (IntKind.i64.wrap (y0_7 + (IntKind.i64.wrap ((IntKind.i64.wrap (num (a0.extract ((3 + ((a1).toNat * 180)) + ((y0_9).toNat * 5)) (((3 + ((a1).toNat * 180)) + ((y0_9).toNat * 5)) + 5)) 2)) - (IntKind.i64.wrap (num (a0.extract ((3 + ((a1).toNat * 180)) + ((y0_9).toNat * 5)) (((3 + ((a1).toNat * 180)) + ((y0_9).toNat * 5)) + 5)) 4))))))), .a (.i .i64 (IntKind.i64.wrap (y0_8 + (IntKind.i64.wrap ((IntKind.i64.wrap (num (a0.extract ((3 + ((a1).toNat * 180)) + ((y0_9).toNat * 5)) (((3 + ((a1).toNat * 180)) + ((y0_9).toNat * 5)) + 5)) 3)) - (IntKind.i64.wrap (num (a0.extract ((3 + ((a1).toNat * 180)) + ((y0_9).toNat * 5)) (((3 + ((a1).toNat * 180)) + ((y0_9).toNat * 5)) + 5)) 1))))))), .a (.i .i64 (IntKind.i64.wrap (y0_9 + (1 : Int))))], [])))
        else (none))
      else (none))
    else (some (.done ((.exit 0), ([.a (.i .i64 (y0_7)), .a (.i .i64 (y0_8)), .a (.i .i64 (y0_9))], []))))) := by kernel_rfl
  refine h.trans ?_
  simp only [spec_MeanFlow_g0, mapS_cond, mapS_more, mapS_done, mapS_none, spec_MeanFlow_e0, spec_MeanFlow_x0]

noncomputable def spec_MeanFlow_k0_0 (P : Program) (N : Nat) (a0 : Array Value) (a1 : Int) (z0_7 : Int) (z0_8 : Int) (z0_9 : Int) : Option (SV × Eff × Bool) := some (.t [.i .i64 (z0_7), .i .i64 (z0_8), .i .i64 (0 : Int)], .none, true)

theorem spec_MeanFlow_k0_0_eq (N : Nat) (a0 : Array Value) (a1 : Int) (z0_7 : Int) (z0_8 : Int) (z0_9 : Int) : (kBlock 0 (kSeq (veC Try.prog (mkΓ [(61, con spec_l01Ok_con), (75, con spec_l01Tide_con)]) N (cAt (codeOf Try.f23) [1, 1, 1, 1, 1, 1]) (pAt (mkPlan (codeOf Try.f23) [([7, 8, 9], [])]).1 [1, 1, 1, 1, 1, 1]) (SV × Eff × Bool)) (finK Try.prog [] [.tmp 4, .tmp 5, .tmp 6]))) (.exit 0) (left (writes (cAt (codeOf Try.f23) [1, 1, 1, 1, 1, 0, 1, 0, 0])) [7, 8, 9] [] (⟨[.a (.g a0 29), .a (.i .i64 (a1)), .a (.w 0), .a (.u), .a (.i .i64 (0 : Int)), .a (.i .i64 (0 : Int)), .a (.i .i64 (0 : Int)), .a (.i .i64 (0 : Int)), .a (.i .i64 (0 : Int)), .a (.i .i64 (0 : Int)), .a (.u), .a (.b ((okS a0))), .a (.b ((!((okS a0))))), .a (.i .i64 (a1)), .a (.b ((spec_l00In_v0 a1 (0 : Int) (1 : Int)))), .a (.b ((!((spec_l00In_v0 a1 (0 : Int) (1 : Int)))))), .a (.u), .a (.u), .a (.u), .a (.u), .a (.u), .a (.u), .a (.u), .a (.u), .a (.u), .a (.u), .a (.u), .a (.u), .a (.u), .a (.u), .a (.u), .a (.u), .a (.u), .a (.u), .a (.u), .a (.u), .a (.u), .a (.u), .a (.u), .a (.u), .a (.u), .a (.u), .a (.u), .a (.u), .a (.u), .a (.u)], [.row a0 29, .no, .no, .no], []⟩ : St) ([.a (.i .i64 (z0_7)), .a (.i .i64 (z0_8)), .a (.i .i64 (z0_9))], [])) = spec_MeanFlow_k0_0 Try.prog N a0 a1 z0_7 z0_8 z0_9 := by
  have h : (kBlock 0 (kSeq (veC Try.prog (mkΓ [(61, con spec_l01Ok_con), (75, con spec_l01Tide_con)]) N (cAt (codeOf Try.f23) [1, 1, 1, 1, 1, 1]) (pAt (mkPlan (codeOf Try.f23) [([7, 8, 9], [])]).1 [1, 1, 1, 1, 1, 1]) (SV × Eff × Bool)) (finK Try.prog [] [.tmp 4, .tmp 5, .tmp 6]))) (.exit 0) (left (writes (cAt (codeOf Try.f23) [1, 1, 1, 1, 1, 0, 1, 0, 0])) [7, 8, 9] [] (⟨[.a (.g a0 29), .a (.i .i64 (a1)), .a (.w 0), .a (.u), .a (.i .i64 (0 : Int)), .a (.i .i64 (0 : Int)), .a (.i .i64 (0 : Int)), .a (.i .i64 (0 : Int)), .a (.i .i64 (0 : Int)), .a (.i .i64 (0 : Int)), .a (.u), .a (.b ((okS a0))), .a (.b ((!((okS a0))))), .a (.i .i64 (a1)), .a (.b ((spec_l00In_v0 a1 (0 : Int) (1 : Int)))), .a (.b ((!((spec_l00In_v0 a1 (0 : Int) (1 : Int)))))), .a (.u), .a (.u), .a (.u), .a (.u), .a (.u), .a (.u), .a (.u), .a (.u), .a (.u), .a (.u), .a (.u), .a (.u), .a (.u), .a (.u), .a (.u), .a (.u), .a (.u), .a (.u), .a (.u), .a (.u), .a (.u), .a (.u), .a (.u), .a (.u), .a (.u), .a (.u), .a (.u), .a (.u), .a (.u), .a (.u)], [.row a0 29, .no, .no, .no], []⟩ : St) ([.a (.i .i64 (z0_7)), .a (.i .i64 (z0_8)), .a (.i .i64 (z0_9))], [])) = (some (.t [.i .i64 (z0_7), .i .i64 (z0_8), .i .i64 (0 : Int)], .none, true)) := by kernel_rfl
  refine h.trans ?_
  rfl

theorem spec_MeanFlow_n0 (N : Nat) (a0 : Array Value) (a1 : Int) : bindX (iterO (stepV Try.prog (mkΓ [(61, con spec_l01Ok_con), (75, con spec_l01Tide_con)]) N (cAt (codeOf Try.f23) [1, 1, 1, 1, 1, 0, 1, 0, 0]) (pAt (mkPlan (codeOf Try.f23) [([7, 8, 9], [])]).1 [1, 1, 1, 1, 1, 0, 1, 0]) [7, 8, 9] [] (⟨[.a (.g a0 29), .a (.i .i64 (a1)), .a (.w 0), .a (.u), .a (.i .i64 (0 : Int)), .a (.i .i64 (0 : Int)), .a (.i .i64 (0 : Int)), .a (.i .i64 (0 : Int)), .a (.i .i64 (0 : Int)), .a (.i .i64 (0 : Int)), .a (.u), .a (.b ((okS a0))), .a (.b ((!((okS a0))))), .a (.i .i64 (a1)), .a (.b ((spec_l00In_v0 a1 (0 : Int) (1 : Int)))), .a (.b ((!((spec_l00In_v0 a1 (0 : Int) (1 : Int)))))), .a (.u), .a (.u), .a (.u), .a (.u), .a (.u), .a (.u), .a (.u), .a (.u), .a (.u), .a (.u), .a (.u), .a (.u), .a (.u), .a (.u), .a (.u), .a (.u), .a (.u), .a (.u), .a (.u), .a (.u), .a (.u), .a (.u), .a (.u), .a (.u), .a (.u), .a (.u), .a (.u), .a (.u), .a (.u), .a (.u)], [.row a0 29, .no, .no, .no], []⟩ : St)) N ([.a (.i .i64 (0 : Int)), .a (.i .i64 (0 : Int)), .a (.i .i64 (0 : Int))], [])) (fun e s => (kBlock 0 (kSeq (veC Try.prog (mkΓ [(61, con spec_l01Ok_con), (75, con spec_l01Tide_con)]) N (cAt (codeOf Try.f23) [1, 1, 1, 1, 1, 1]) (pAt (mkPlan (codeOf Try.f23) [([7, 8, 9], [])]).1 [1, 1, 1, 1, 1, 1]) (SV × Eff × Bool)) (finK Try.prog [] [.tmp 4, .tmp 5, .tmp 6]))) e (left (writes (cAt (codeOf Try.f23) [1, 1, 1, 1, 1, 0, 1, 0, 0])) [7, 8, 9] [] (⟨[.a (.g a0 29), .a (.i .i64 (a1)), .a (.w 0), .a (.u), .a (.i .i64 (0 : Int)), .a (.i .i64 (0 : Int)), .a (.i .i64 (0 : Int)), .a (.i .i64 (0 : Int)), .a (.i .i64 (0 : Int)), .a (.i .i64 (0 : Int)), .a (.u), .a (.b ((okS a0))), .a (.b ((!((okS a0))))), .a (.i .i64 (a1)), .a (.b ((spec_l00In_v0 a1 (0 : Int) (1 : Int)))), .a (.b ((!((spec_l00In_v0 a1 (0 : Int) (1 : Int)))))), .a (.u), .a (.u), .a (.u), .a (.u), .a (.u), .a (.u), .a (.u), .a (.u), .a (.u), .a (.u), .a (.u), .a (.u), .a (.u), .a (.u), .a (.u), .a (.u), .a (.u), .a (.u), .a (.u), .a (.u), .a (.u), .a (.u), .a (.u), .a (.u), .a (.u), .a (.u), .a (.u), .a (.u), .a (.u), .a (.u)], [.row a0 29, .no, .no, .no], []⟩ : St) s)) = nodeX (iterO (spec_MeanFlow_g0 Try.prog a0 a1) N ((0 : Int), (0 : Int), (0 : Int))) (fun x => spec_MeanFlow_k0_0 Try.prog N a0 a1 x.1 x.2.1 x.2.2) := by
  refine loop_node spec_MeanFlow_e0 spec_MeanFlow_x0 _ _ (spec_MeanFlow_s0 N a0 a1) N ((0 : Int), (0 : Int), (0 : Int)) _ _ ?_
  intro x; exact spec_MeanFlow_k0_0_eq N a0 a1 x.1 x.2.1 x.2.2

theorem spec_MeanFlow_ans (N : Nat) (a0 : Array Value) (a1 : Int) : ansV Try.prog (mkΓ [(61, con spec_l01Ok_con), (75, con spec_l01Tide_con)]) N Try.f23 [([7, 8, 9], [])] [.g a0 29, .i .i64 (a1)] [] = (bif (!((okS a0))) then (some (.t [.i .i64 (0 : Int), .i .i64 (0 : Int), .i .i64 (1 : Int)], .none, true))
    else (bif (!((spec_l00In_v0 a1 (0 : Int) (1 : Int)))) then (some (.t [.i .i64 (0 : Int), .i .i64 (0 : Int), .i .i64 (2 : Int)], .none, true))
      else (nodeX (iterO (spec_MeanFlow_g0 Try.prog a0 a1) N ((0 : Int), (0 : Int), (0 : Int))) (fun x => spec_MeanFlow_k0_0 Try.prog N a0 a1 x.1 x.2.1 x.2.2)))) := by
  have h : ansV Try.prog (mkΓ [(61, con spec_l01Ok_con), (75, con spec_l01Tide_con)]) N Try.f23 [([7, 8, 9], [])] [.g a0 29, .i .i64 (a1)] [] = (bif (!((okS a0))) then (some (.t [.i .i64 (0 : Int), .i .i64 (0 : Int), .i .i64 (1 : Int)], .none, true))
    else (bif (!((spec_l00In_v0 a1 (0 : Int) (1 : Int)))) then (some (.t [.i .i64 (0 : Int), .i .i64 (0 : Int), .i .i64 (2 : Int)], .none, true))
      else (bindX (iterO (stepV Try.prog (mkΓ [(61, con spec_l01Ok_con), (75, con spec_l01Tide_con)]) N (cAt (codeOf Try.f23) [1, 1, 1, 1, 1, 0, 1, 0, 0]) (pAt (mkPlan (codeOf Try.f23) [([7, 8, 9], [])]).1 [1, 1, 1, 1, 1, 0, 1, 0]) [7, 8, 9] [] (⟨[.a (.g a0 29), .a (.i .i64 (a1)), .a (.w 0), .a (.u), .a (.i .i64 (0 : Int)), .a (.i .i64 (0 : Int)), .a (.i .i64 (0 : Int)), .a (.i .i64 (0 : Int)), .a (.i .i64 (0 : Int)), .a (.i .i64 (0 : Int)), .a (.u), .a (.b ((okS a0))), .a (.b ((!((okS a0))))), .a (.i .i64 (a1)), .a (.b ((spec_l00In_v0 a1 (0 : Int) (1 : Int)))), .a (.b ((!((spec_l00In_v0 a1 (0 : Int) (1 : Int)))))), .a (.u), .a (.u), .a (.u), .a (.u), .a (.u), .a (.u), .a (.u), .a (.u), .a (.u), .a (.u), .a (.u), .a (.u), .a (.u), .a (.u), .a (.u), .a (.u), .a (.u), .a (.u), .a (.u), .a (.u), .a (.u), .a (.u), .a (.u), .a (.u), .a (.u), .a (.u), .a (.u), .a (.u), .a (.u), .a (.u)], [.row a0 29, .no, .no, .no], []⟩ : St)) N ([.a (.i .i64 (0 : Int)), .a (.i .i64 (0 : Int)), .a (.i .i64 (0 : Int))], [])) (fun e s => (kBlock 0 (kSeq (veC Try.prog (mkΓ [(61, con spec_l01Ok_con), (75, con spec_l01Tide_con)]) N (cAt (codeOf Try.f23) [1, 1, 1, 1, 1, 1]) (pAt (mkPlan (codeOf Try.f23) [([7, 8, 9], [])]).1 [1, 1, 1, 1, 1, 1]) (SV × Eff × Bool)) (finK Try.prog [] [.tmp 4, .tmp 5, .tmp 6]))) e (left (writes (cAt (codeOf Try.f23) [1, 1, 1, 1, 1, 0, 1, 0, 0])) [7, 8, 9] [] (⟨[.a (.g a0 29), .a (.i .i64 (a1)), .a (.w 0), .a (.u), .a (.i .i64 (0 : Int)), .a (.i .i64 (0 : Int)), .a (.i .i64 (0 : Int)), .a (.i .i64 (0 : Int)), .a (.i .i64 (0 : Int)), .a (.i .i64 (0 : Int)), .a (.u), .a (.b ((okS a0))), .a (.b ((!((okS a0))))), .a (.i .i64 (a1)), .a (.b ((spec_l00In_v0 a1 (0 : Int) (1 : Int)))), .a (.b ((!((spec_l00In_v0 a1 (0 : Int) (1 : Int)))))), .a (.u), .a (.u), .a (.u), .a (.u), .a (.u), .a (.u), .a (.u), .a (.u), .a (.u), .a (.u), .a (.u), .a (.u), .a (.u), .a (.u), .a (.u), .a (.u), .a (.u), .a (.u), .a (.u), .a (.u), .a (.u), .a (.u), .a (.u), .a (.u), .a (.u), .a (.u), .a (.u), .a (.u), .a (.u), .a (.u)], [.row a0 29, .no, .no, .no], []⟩ : St) s))))) := by kernel_rfl
  refine h.trans ?_
  simp only [spec_MeanFlow_n0]

theorem spec_MeanFlow_main (a0 : Array Value) (a1 : Int) (h_a0 : WT Try.prog 29 a0) (h_a1 : IntKind.i64.min ≤ a1 ∧ a1 ≤ IntKind.i64.max) (hg : (true) = true) : ansV Try.prog (mkΓ [(61, con spec_l01Ok_con), (75, con spec_l01Tide_con)]) 1000 Try.f23 [([7, 8, 9], [])] [.g a0 29, .i .i64 (a1)] [] = some (.t [.i .i64 (bif okS a0 then (bif spec_l00In_v0 a1 0 1 then (flows a0 a1).1 else 0) else 0), .i .i64 (bif okS a0 then (bif spec_l00In_v0 a1 0 1 then (flows a0 a1).2 else 0) else 0), .i .i64 (bif okS a0 then (bif spec_l00In_v0 a1 0 1 then (0 : Int) else 2) else 1)], .none, true) := by
  refine (spec_MeanFlow_ans 1000 a0 a1).trans ?_
  cases hok : okS a0
  · rfl
  cases hti' : spec_l00In_v0 a1 0 1
  · rfl
  have ht := tide_range hti'
  have d2 : (decide (0 ≤ a1) && decide (a1 < 2)) = true := by rw [decide_eq_true ht.1, decide_eq_true (show a1 < 2 by omega)]; rfl
  have h := iter_folds (g := spec_MeanFlow_g0 Try.prog a0 a1) (fun s k => (s.1, s.2, (k : Int))) (fF a0 a1.toNat) (m := 36) (t := (0, 0)) (x := ((flows a0 a1).1, (flows a0 a1).2, 36)) (N := 1000) (fun k s hk _ => by
    have h1 : decide ((k : Int) < 36) = true := decide_eq_true (by omega)
    have h0 : decide (0 ≤ (k : Int)) = true := decide_eq_true (by omega)
    have h3 : IntKind.i64.wrap ((k : Int) + 1) = ((k + 1 : Nat) : Int) := by rw [IntWalk.i64_in _ (by omega)]; omega
    simp only [spec_MeanFlow_g0, h1, h0, d2, Bool.and_self, cond_true, h3, Int.toNat_natCast, num_sub (show 1 < 5 by omega), num_sub (show 2 < 5 by omega), num_sub (show 3 < 5 by omega), num_sub (show 4 < 5 by omega), fF]) (by
    have h1 : decide (((36 : Nat) : Int) < 36) = false := by decide
    simp only [spec_MeanFlow_g0, h1, cond_false]
    rfl) (by omega)
  have h' : iterO (spec_MeanFlow_g0 Try.prog a0 a1) 1000 ((0 : Int), (0 : Int), (0 : Int)) = some ((flows a0 a1).1, (flows a0 a1).2, (36 : Int)) := h
  simp only [cond_true, cond_false, Bool.not_true, h']
  rfl
noncomputable def spec_MeanFlow_con : Con := fun args h => match args, h with
  | [.g a0 29, .i .i64 a1], [] => some (.t [.i .i64 (bif okS a0 then (bif spec_l00In_v0 a1 0 1 then (flows a0 a1).1 else 0) else 0), .i .i64 (bif okS a0 then (bif spec_l00In_v0 a1 0 1 then (flows a0 a1).2 else 0) else 0), .i .i64 (bif okS a0 then (bif spec_l00In_v0 a1 0 1 then (0 : Int) else 2) else 1)], .none, true)
  | _, _ => none
theorem spec_MeanFlow_enter : ∀ args w, (callFunc 23 args).run Try.prog w = .ok (.enter 23 args) w := enter_ok (fn := Try.f23) (by kernel_rfl) (by kernel_rfl) (by kernel_rfl)
theorem spec_MeanFlow_ok : ConOk Try.prog 23 spec_MeanFlow_con := (ans_ok (N := 1000) (by kernel_rfl) (mkΓ_cons (con_ok spec_l01Ok_ok) spec_l01Ok_enter (mkΓ_cons (con_ok spec_l01Tide_ok) spec_l01Tide_enter mkΓ_nil)) (fn := Try.f23) (by kernel_rfl) (by kernel_rfl) [([7, 8, 9], [])]).of (by
  intro ρ h w args vals r e hA hH hr
  unfold spec_MeanFlow_con at hr
  split at hr
  · rename_i a0 a1
    obtain ⟨rfl, hg⟩ := Prod.mk.inj (Option.some.inj hr)
    obtain ⟨rfl, hg2⟩ := Prod.mk.inj hg
    exact spec_MeanFlow_main a0 a1 (hA.wt 0 rfl) (hA.rng 1 rfl) hg2
  · cases hr)

noncomputable def impl_MeanFlow_e0 : Int × Int → BS
  | (r0_6, r0_5) => ([.row #[.int .i64 (r0_6)] 2, .row #[.int .i64 (r0_5)] 2] : BS)

noncomputable def impl_MeanFlow_x0 : Empty → Exit × BS := fun x => nomatch x

noncomputable def impl_MeanFlow_g0 (P : Program) (a0 : Array Value) (a1 : Int) (x0 : Int) : Int × Int → Option (Stp (Int × Int) Empty)
  | (r0_6, r0_5) => bif (decide (0 ≤ a1) && decide (a1 < 2)) then (bif (decide (0 ≤ x0) && decide (x0 < 36)) then (some (.more ((IntKind.i64.wrap (r0_6 + (IntKind.i64.wrap ((IntKind.i64.wrap (num (a0.extract ((3 + ((a1).toNat * 180)) + ((x0).toNat * 5)) (((3 + ((a1).toNat * 180)) + ((x0).toNat * 5)) + 5)) 3)) - (IntKind.i64.wrap (num (a0.extract ((3 + ((a1).toNat * 180)) + ((x0).toNat * 5)) (((3 + ((a1).toNat * 180)) + ((x0).toNat * 5)) + 5)) 1)))))), (IntKind.i64.wrap (r0_5 + (IntKind.i64.wrap ((IntKind.i64.wrap (num (a0.extract ((3 + ((a1).toNat * 180)) + ((x0).toNat * 5)) (((3 + ((a1).toNat * 180)) + ((x0).toNat * 5)) + 5)) 2)) - (IntKind.i64.wrap (num (a0.extract ((3 + ((a1).toNat * 180)) + ((x0).toNat * 5)) (((3 + ((a1).toNat * 180)) + ((x0).toNat * 5)) + 5)) 4)))))))))
      else (none))
    else (none)

theorem impl_MeanFlow_s0 (N : Nat) (a0 : Array Value) (a1 : Int) (x0 : Int) : ∀ t : Int × Int, stepI Try.prog (mkΓx [(65, con impl_seaCode_con), (76, con impl_hasTide_con)] [(57, impl_eachWater_nc)] [(101, impl_eachWater_1_ic)]) N (cAt (codeOf Try.f24) [1, 1, 1, 1, 0, 1, 0, 0]) (pAt (mkPlan (codeOf Try.f24) [([], [6, 5])]).1 [1, 1, 1, 1, 0, 1, 0]) 15 [6, 5] [22] [(10, 22)] (⟨[.a (.g a0 29), .a (.i .i64 (a1)), .a (.w 0), .a (.w 1), .a (.i .i64 (0 : Int)), .a (.i .i64 (0 : Int)), .a (.i .i64 (0 : Int)), .a (.i .i64 (bif okS a0 then 0 else 1)), .a (.w 5), .a (.w 6), .a (.u), .a (.u), .a (.g a0 29), .a (.i .i64 (bif okS a0 then 0 else 1)), .a (.i .i64 (bif okS a0 then 0 else 1)), .a (.b (((bif okS a0 then 0 else 1) != (0 : Int)))), .a (.u), .a (.i .i64 (a1)), .a (.b ((impl_hasTide_v0 a1))), .a (.b ((!((impl_hasTide_v0 a1))))), .a (.g a0 29), .a (.c 101 [10]), .a (.u), .a (.u), .a (.u), .a (.u), .a (.u), .a (.u), .a (.u), .a (.u), .a (.u), .a (.u), .a (.u), .a (.u), .a (.u), .a (.u), .a (.u), .a (.u), .a (.u), .a (.u), .a (.u), .a (.u), .a (.u), .a (.u), .a (.u), .a (.u), .a (.u), .a (.u), .a (.u)], [.row a0 29, .row #[.int .i64 (a1)] 2, .no, .no, .no, .row #[.int .i64 (0 : Int)] 2, .row #[.int .i64 (0 : Int)] 2, .no, .no, .no, .row a0 29, .no, .no, .no, .no], []⟩ : St) [.i .i64 (x0)] (impl_MeanFlow_e0 t) = mapS impl_MeanFlow_e0 impl_MeanFlow_x0 (impl_MeanFlow_g0 Try.prog a0 a1 x0 t) := by
  rintro ⟨r0_6, r0_5⟩
  have h : stepI Try.prog (mkΓx [(65, con impl_seaCode_con), (76, con impl_hasTide_con)] [(57, impl_eachWater_nc)] [(101, impl_eachWater_1_ic)]) N (cAt (codeOf Try.f24) [1, 1, 1, 1, 0, 1, 0, 0]) (pAt (mkPlan (codeOf Try.f24) [([], [6, 5])]).1 [1, 1, 1, 1, 0, 1, 0]) 15 [6, 5] [22] [(10, 22)] (⟨[.a (.g a0 29), .a (.i .i64 (a1)), .a (.w 0), .a (.w 1), .a (.i .i64 (0 : Int)), .a (.i .i64 (0 : Int)), .a (.i .i64 (0 : Int)), .a (.i .i64 (bif okS a0 then 0 else 1)), .a (.w 5), .a (.w 6), .a (.u), .a (.u), .a (.g a0 29), .a (.i .i64 (bif okS a0 then 0 else 1)), .a (.i .i64 (bif okS a0 then 0 else 1)), .a (.b (((bif okS a0 then 0 else 1) != (0 : Int)))), .a (.u), .a (.i .i64 (a1)), .a (.b ((impl_hasTide_v0 a1))), .a (.b ((!((impl_hasTide_v0 a1))))), .a (.g a0 29), .a (.c 101 [10]), .a (.u), .a (.u), .a (.u), .a (.u), .a (.u), .a (.u), .a (.u), .a (.u), .a (.u), .a (.u), .a (.u), .a (.u), .a (.u), .a (.u), .a (.u), .a (.u), .a (.u), .a (.u), .a (.u), .a (.u), .a (.u), .a (.u), .a (.u), .a (.u), .a (.u), .a (.u), .a (.u)], [.row a0 29, .row #[.int .i64 (a1)] 2, .no, .no, .no, .row #[.int .i64 (0 : Int)] 2, .row #[.int .i64 (0 : Int)] 2, .no, .no, .no, .row a0 29, .no, .no, .no, .no], []⟩ : St) [.i .i64 (x0)] ([.row #[.int .i64 (r0_6)] 2, .row #[.int .i64 (r0_5)] 2] : BS) = (bif (decide (0 ≤ a1) && decide (a1 < 2)) then (bif (decide (0 ≤ x0) && decide (x0 < 36)) then (some (.more ([.row #[.int .i64 (IntKind.i64.wrap (r0_6 + (IntKind.i64.wrap ((IntKind.i64.wrap (num (a0.extract ((3 + ((a1).toNat * 180)) + ((x0).toNat * 5)) (((3 + ((a1).toNat * 180)) + ((x0).toNat * 5)) + 5)) 3)) - (IntKind.i64.wrap (num (a0.extract ((3 + ((a1).toNat * 180)) + ((x0).toNat * 5)) (((3 + ((a1).toNat * 180)) + ((x0).toNat * 5)) + 5)) 1))))))] 2, .row #[.int .i64 (IntKind.i64.wrap (r0_5 + (IntKind.i64.wrap ((IntKind.i64.wrap (num (a0.extract ((3 + ((a1).toNat * 180)) + ((x0).toNat * 5)) (((3 + ((a1).toNat * 180)) + ((x0).toNat * 5)) + 5)) 2)) - (IntKind.i64.wrap (num (a0.extract ((3 + ((a1).toNat * 180)) + ((x0).toNat * 5)) (((3 + ((a1).toNat * 180)) + ((x0).toNat * 5)) + 5)) 4))))))] 2] : BS)))
      else (none))
    else (none)) := by kernel_rfl
  refine h.trans ?_
  simp only [impl_MeanFlow_g0, mapS_cond, mapS_more, mapS_done, mapS_none, impl_MeanFlow_e0, impl_MeanFlow_x0]

noncomputable def impl_MeanFlow_k0_n (P : Program) (N : Nat) (a0 : Array Value) (a1 : Int) (q0_6 : Int) (q0_5 : Int) : Option (SV × Eff × Bool) := some (.t [.i .i64 (q0_5), .i .i64 (q0_6), .i .i64 (0 : Int)], .none, true)

theorem impl_MeanFlow_k0_n_eq (N : Nat) (a0 : Array Value) (a1 : Int) (q0_6 : Int) (q0_5 : Int) : (kBlock 0 (kSeq (veC Try.prog (mkΓx [(65, con impl_seaCode_con), (76, con impl_hasTide_con)] [(57, impl_eachWater_nc)] [(101, impl_eachWater_1_ic)]) N (cAt (codeOf Try.f24) [1, 1, 1, 1, 1]) (pAt (mkPlan (codeOf Try.f24) [([], [6, 5])]).1 [1, 1, 1, 1, 1]) (SV × Eff × Bool)) (finK Try.prog [] [.tmp 4, .tmp 5, .tmp 6]))) .normal (leftI [6, 5] (⟨[.a (.g a0 29), .a (.i .i64 (a1)), .a (.w 0), .a (.w 1), .a (.i .i64 (0 : Int)), .a (.i .i64 (0 : Int)), .a (.i .i64 (0 : Int)), .a (.i .i64 (bif okS a0 then 0 else 1)), .a (.w 5), .a (.w 6), .a (.u), .a (.u), .a (.g a0 29), .a (.i .i64 (bif okS a0 then 0 else 1)), .a (.i .i64 (bif okS a0 then 0 else 1)), .a (.b (((bif okS a0 then 0 else 1) != (0 : Int)))), .a (.u), .a (.i .i64 (a1)), .a (.b ((impl_hasTide_v0 a1))), .a (.b ((!((impl_hasTide_v0 a1))))), .a (.g a0 29), .a (.c 101 [10]), .a (.u), .a (.u), .a (.u), .a (.u), .a (.u), .a (.u), .a (.u), .a (.u), .a (.u), .a (.u), .a (.u), .a (.u), .a (.u), .a (.u), .a (.u), .a (.u), .a (.u), .a (.u), .a (.u), .a (.u), .a (.u), .a (.u), .a (.u), .a (.u), .a (.u), .a (.u), .a (.u)], [.row a0 29, .row #[.int .i64 (a1)] 2, .no, .no, .no, .row #[.int .i64 (0 : Int)] 2, .row #[.int .i64 (0 : Int)] 2, .no, .no, .no, .row a0 29, .no, .no, .no, .no], []⟩ : St) ([.row #[.int .i64 (q0_6)] 2, .row #[.int .i64 (q0_5)] 2] : BS)) = impl_MeanFlow_k0_n Try.prog N a0 a1 q0_6 q0_5 := by
  have h : (kBlock 0 (kSeq (veC Try.prog (mkΓx [(65, con impl_seaCode_con), (76, con impl_hasTide_con)] [(57, impl_eachWater_nc)] [(101, impl_eachWater_1_ic)]) N (cAt (codeOf Try.f24) [1, 1, 1, 1, 1]) (pAt (mkPlan (codeOf Try.f24) [([], [6, 5])]).1 [1, 1, 1, 1, 1]) (SV × Eff × Bool)) (finK Try.prog [] [.tmp 4, .tmp 5, .tmp 6]))) .normal (leftI [6, 5] (⟨[.a (.g a0 29), .a (.i .i64 (a1)), .a (.w 0), .a (.w 1), .a (.i .i64 (0 : Int)), .a (.i .i64 (0 : Int)), .a (.i .i64 (0 : Int)), .a (.i .i64 (bif okS a0 then 0 else 1)), .a (.w 5), .a (.w 6), .a (.u), .a (.u), .a (.g a0 29), .a (.i .i64 (bif okS a0 then 0 else 1)), .a (.i .i64 (bif okS a0 then 0 else 1)), .a (.b (((bif okS a0 then 0 else 1) != (0 : Int)))), .a (.u), .a (.i .i64 (a1)), .a (.b ((impl_hasTide_v0 a1))), .a (.b ((!((impl_hasTide_v0 a1))))), .a (.g a0 29), .a (.c 101 [10]), .a (.u), .a (.u), .a (.u), .a (.u), .a (.u), .a (.u), .a (.u), .a (.u), .a (.u), .a (.u), .a (.u), .a (.u), .a (.u), .a (.u), .a (.u), .a (.u), .a (.u), .a (.u), .a (.u), .a (.u), .a (.u), .a (.u), .a (.u), .a (.u), .a (.u), .a (.u), .a (.u)], [.row a0 29, .row #[.int .i64 (a1)] 2, .no, .no, .no, .row #[.int .i64 (0 : Int)] 2, .row #[.int .i64 (0 : Int)] 2, .no, .no, .no, .row a0 29, .no, .no, .no, .no], []⟩ : St) ([.row #[.int .i64 (q0_6)] 2, .row #[.int .i64 (q0_5)] 2] : BS)) = (some (.t [.i .i64 (q0_5), .i .i64 (q0_6), .i .i64 (0 : Int)], .none, true)) := by kernel_rfl
  refine h.trans ?_
  rfl

theorem impl_MeanFlow_n0 (N : Nat) (a0 : Array Value) (a1 : Int) : bindI (foldI (fun (x0 : Int) (hb : BS) => stepI Try.prog (mkΓx [(65, con impl_seaCode_con), (76, con impl_hasTide_con)] [(57, impl_eachWater_nc)] [(101, impl_eachWater_1_ic)]) N (cAt (codeOf Try.f24) [1, 1, 1, 1, 0, 1, 0, 0]) (pAt (mkPlan (codeOf Try.f24) [([], [6, 5])]).1 [1, 1, 1, 1, 0, 1, 0]) 15 [6, 5] [22] [(10, 22)] (⟨[.a (.g a0 29), .a (.i .i64 (a1)), .a (.w 0), .a (.w 1), .a (.i .i64 (0 : Int)), .a (.i .i64 (0 : Int)), .a (.i .i64 (0 : Int)), .a (.i .i64 (bif okS a0 then 0 else 1)), .a (.w 5), .a (.w 6), .a (.u), .a (.u), .a (.g a0 29), .a (.i .i64 (bif okS a0 then 0 else 1)), .a (.i .i64 (bif okS a0 then 0 else 1)), .a (.b (((bif okS a0 then 0 else 1) != (0 : Int)))), .a (.u), .a (.i .i64 (a1)), .a (.b ((impl_hasTide_v0 a1))), .a (.b ((!((impl_hasTide_v0 a1))))), .a (.g a0 29), .a (.c 101 [10]), .a (.u), .a (.u), .a (.u), .a (.u), .a (.u), .a (.u), .a (.u), .a (.u), .a (.u), .a (.u), .a (.u), .a (.u), .a (.u), .a (.u), .a (.u), .a (.u), .a (.u), .a (.u), .a (.u), .a (.u), .a (.u), .a (.u), .a (.u), .a (.u), .a (.u), .a (.u), .a (.u)], [.row a0 29, .row #[.int .i64 (a1)] 2, .no, .no, .no, .row #[.int .i64 (0 : Int)] 2, .row #[.int .i64 (0 : Int)] 2, .no, .no, .no, .row a0 29, .no, .no, .no, .no], []⟩ : St) [.i .i64 (x0)] hb) ((cellsL (num a0 0) (num a0 1) 36).filter (impl_isWater_v0 a0)) ([.row #[.int .i64 (0 : Int)] 2, .row #[.int .i64 (0 : Int)] 2] : BS)) (fun hb => (kBlock 0 (kSeq (veC Try.prog (mkΓx [(65, con impl_seaCode_con), (76, con impl_hasTide_con)] [(57, impl_eachWater_nc)] [(101, impl_eachWater_1_ic)]) N (cAt (codeOf Try.f24) [1, 1, 1, 1, 1]) (pAt (mkPlan (codeOf Try.f24) [([], [6, 5])]).1 [1, 1, 1, 1, 1]) (SV × Eff × Bool)) (finK Try.prog [] [.tmp 4, .tmp 5, .tmp 6]))) .normal (leftI [6, 5] (⟨[.a (.g a0 29), .a (.i .i64 (a1)), .a (.w 0), .a (.w 1), .a (.i .i64 (0 : Int)), .a (.i .i64 (0 : Int)), .a (.i .i64 (0 : Int)), .a (.i .i64 (bif okS a0 then 0 else 1)), .a (.w 5), .a (.w 6), .a (.u), .a (.u), .a (.g a0 29), .a (.i .i64 (bif okS a0 then 0 else 1)), .a (.i .i64 (bif okS a0 then 0 else 1)), .a (.b (((bif okS a0 then 0 else 1) != (0 : Int)))), .a (.u), .a (.i .i64 (a1)), .a (.b ((impl_hasTide_v0 a1))), .a (.b ((!((impl_hasTide_v0 a1))))), .a (.g a0 29), .a (.c 101 [10]), .a (.u), .a (.u), .a (.u), .a (.u), .a (.u), .a (.u), .a (.u), .a (.u), .a (.u), .a (.u), .a (.u), .a (.u), .a (.u), .a (.u), .a (.u), .a (.u), .a (.u), .a (.u), .a (.u), .a (.u), .a (.u), .a (.u), .a (.u), .a (.u), .a (.u), .a (.u), .a (.u)], [.row a0 29, .row #[.int .i64 (a1)] 2, .no, .no, .no, .row #[.int .i64 (0 : Int)] 2, .row #[.int .i64 (0 : Int)] 2, .no, .no, .no, .row a0 29, .no, .no, .no, .no], []⟩ : St) hb)) (fun e hb => (kBlock 0 (kSeq (veC Try.prog (mkΓx [(65, con impl_seaCode_con), (76, con impl_hasTide_con)] [(57, impl_eachWater_nc)] [(101, impl_eachWater_1_ic)]) N (cAt (codeOf Try.f24) [1, 1, 1, 1, 1]) (pAt (mkPlan (codeOf Try.f24) [([], [6, 5])]).1 [1, 1, 1, 1, 1]) (SV × Eff × Bool)) (finK Try.prog [] [.tmp 4, .tmp 5, .tmp 6]))) e (leftI [6, 5] (⟨[.a (.g a0 29), .a (.i .i64 (a1)), .a (.w 0), .a (.w 1), .a (.i .i64 (0 : Int)), .a (.i .i64 (0 : Int)), .a (.i .i64 (0 : Int)), .a (.i .i64 (bif okS a0 then 0 else 1)), .a (.w 5), .a (.w 6), .a (.u), .a (.u), .a (.g a0 29), .a (.i .i64 (bif okS a0 then 0 else 1)), .a (.i .i64 (bif okS a0 then 0 else 1)), .a (.b (((bif okS a0 then 0 else 1) != (0 : Int)))), .a (.u), .a (.i .i64 (a1)), .a (.b ((impl_hasTide_v0 a1))), .a (.b ((!((impl_hasTide_v0 a1))))), .a (.g a0 29), .a (.c 101 [10]), .a (.u), .a (.u), .a (.u), .a (.u), .a (.u), .a (.u), .a (.u), .a (.u), .a (.u), .a (.u), .a (.u), .a (.u), .a (.u), .a (.u), .a (.u), .a (.u), .a (.u), .a (.u), .a (.u), .a (.u), .a (.u), .a (.u), .a (.u), .a (.u), .a (.u), .a (.u), .a (.u)], [.row a0 29, .row #[.int .i64 (a1)] 2, .no, .no, .no, .row #[.int .i64 (0 : Int)] 2, .row #[.int .i64 (0 : Int)] 2, .no, .no, .no, .row a0 29, .no, .no, .no, .no], []⟩ : St) hb)) = nodeI (foldI (impl_MeanFlow_g0 Try.prog a0 a1) ((cellsL (num a0 0) (num a0 1) 36).filter (impl_isWater_v0 a0)) ((0 : Int), (0 : Int))) (fun x => impl_MeanFlow_k0_n Try.prog N a0 a1 x.1 x.2) (fun x : Empty => nomatch x) := by
  refine iter_node impl_MeanFlow_e0 impl_MeanFlow_x0 _ _ (fun y t => impl_MeanFlow_s0 N a0 a1 y t) _ ((0 : Int), (0 : Int)) _ _ _ _ ?_ ?_
  · intro x; exact impl_MeanFlow_k0_n_eq N a0 a1 x.1 x.2
  · intro x; exact nomatch x

theorem impl_MeanFlow_ans (N : Nat) (a0 : Array Value) (a1 : Int) : ansV Try.prog (mkΓx [(65, con impl_seaCode_con), (76, con impl_hasTide_con)] [(57, impl_eachWater_nc)] [(101, impl_eachWater_1_ic)]) N Try.f24 [([], [6, 5])] [.g a0 29, .i .i64 (a1)] [] = (bif ((bif okS a0 then 0 else 1) != (0 : Int)) then (some (.t [.i .i64 (0 : Int), .i .i64 (0 : Int), .i .i64 (bif okS a0 then 0 else 1)], .none, true))
    else (bif (!((impl_hasTide_v0 a1))) then (some (.t [.i .i64 (0 : Int), .i .i64 (0 : Int), .i .i64 (2 : Int)], .none, true))
      else (bif (decide (0 ≤ num a0 0) && decide (num a0 0 ≤ 6) && (decide (0 ≤ num a0 1) && decide (num a0 1 ≤ 6))) then (nodeI (foldI (impl_MeanFlow_g0 Try.prog a0 a1) ((cellsL (num a0 0) (num a0 1) 36).filter (impl_isWater_v0 a0)) ((0 : Int), (0 : Int))) (fun x => impl_MeanFlow_k0_n Try.prog N a0 a1 x.1 x.2) (fun x : Empty => nomatch x))
        else (none)))) := by
  have h : ansV Try.prog (mkΓx [(65, con impl_seaCode_con), (76, con impl_hasTide_con)] [(57, impl_eachWater_nc)] [(101, impl_eachWater_1_ic)]) N Try.f24 [([], [6, 5])] [.g a0 29, .i .i64 (a1)] [] = (bif ((bif okS a0 then 0 else 1) != (0 : Int)) then (some (.t [.i .i64 (0 : Int), .i .i64 (0 : Int), .i .i64 (bif okS a0 then 0 else 1)], .none, true))
    else (bif (!((impl_hasTide_v0 a1))) then (some (.t [.i .i64 (0 : Int), .i .i64 (0 : Int), .i .i64 (2 : Int)], .none, true))
      else (bif (decide (0 ≤ num a0 0) && decide (num a0 0 ≤ 6) && (decide (0 ≤ num a0 1) && decide (num a0 1 ≤ 6))) then (bindI (foldI (fun (x0 : Int) (hb : BS) => stepI Try.prog (mkΓx [(65, con impl_seaCode_con), (76, con impl_hasTide_con)] [(57, impl_eachWater_nc)] [(101, impl_eachWater_1_ic)]) N (cAt (codeOf Try.f24) [1, 1, 1, 1, 0, 1, 0, 0]) (pAt (mkPlan (codeOf Try.f24) [([], [6, 5])]).1 [1, 1, 1, 1, 0, 1, 0]) 15 [6, 5] [22] [(10, 22)] (⟨[.a (.g a0 29), .a (.i .i64 (a1)), .a (.w 0), .a (.w 1), .a (.i .i64 (0 : Int)), .a (.i .i64 (0 : Int)), .a (.i .i64 (0 : Int)), .a (.i .i64 (bif okS a0 then 0 else 1)), .a (.w 5), .a (.w 6), .a (.u), .a (.u), .a (.g a0 29), .a (.i .i64 (bif okS a0 then 0 else 1)), .a (.i .i64 (bif okS a0 then 0 else 1)), .a (.b (((bif okS a0 then 0 else 1) != (0 : Int)))), .a (.u), .a (.i .i64 (a1)), .a (.b ((impl_hasTide_v0 a1))), .a (.b ((!((impl_hasTide_v0 a1))))), .a (.g a0 29), .a (.c 101 [10]), .a (.u), .a (.u), .a (.u), .a (.u), .a (.u), .a (.u), .a (.u), .a (.u), .a (.u), .a (.u), .a (.u), .a (.u), .a (.u), .a (.u), .a (.u), .a (.u), .a (.u), .a (.u), .a (.u), .a (.u), .a (.u), .a (.u), .a (.u), .a (.u), .a (.u), .a (.u), .a (.u)], [.row a0 29, .row #[.int .i64 (a1)] 2, .no, .no, .no, .row #[.int .i64 (0 : Int)] 2, .row #[.int .i64 (0 : Int)] 2, .no, .no, .no, .row a0 29, .no, .no, .no, .no], []⟩ : St) [.i .i64 (x0)] hb) ((cellsL (num a0 0) (num a0 1) 36).filter (impl_isWater_v0 a0)) ([.row #[.int .i64 (0 : Int)] 2, .row #[.int .i64 (0 : Int)] 2] : BS)) (fun hb => (kBlock 0 (kSeq (veC Try.prog (mkΓx [(65, con impl_seaCode_con), (76, con impl_hasTide_con)] [(57, impl_eachWater_nc)] [(101, impl_eachWater_1_ic)]) N (cAt (codeOf Try.f24) [1, 1, 1, 1, 1]) (pAt (mkPlan (codeOf Try.f24) [([], [6, 5])]).1 [1, 1, 1, 1, 1]) (SV × Eff × Bool)) (finK Try.prog [] [.tmp 4, .tmp 5, .tmp 6]))) .normal (leftI [6, 5] (⟨[.a (.g a0 29), .a (.i .i64 (a1)), .a (.w 0), .a (.w 1), .a (.i .i64 (0 : Int)), .a (.i .i64 (0 : Int)), .a (.i .i64 (0 : Int)), .a (.i .i64 (bif okS a0 then 0 else 1)), .a (.w 5), .a (.w 6), .a (.u), .a (.u), .a (.g a0 29), .a (.i .i64 (bif okS a0 then 0 else 1)), .a (.i .i64 (bif okS a0 then 0 else 1)), .a (.b (((bif okS a0 then 0 else 1) != (0 : Int)))), .a (.u), .a (.i .i64 (a1)), .a (.b ((impl_hasTide_v0 a1))), .a (.b ((!((impl_hasTide_v0 a1))))), .a (.g a0 29), .a (.c 101 [10]), .a (.u), .a (.u), .a (.u), .a (.u), .a (.u), .a (.u), .a (.u), .a (.u), .a (.u), .a (.u), .a (.u), .a (.u), .a (.u), .a (.u), .a (.u), .a (.u), .a (.u), .a (.u), .a (.u), .a (.u), .a (.u), .a (.u), .a (.u), .a (.u), .a (.u), .a (.u), .a (.u)], [.row a0 29, .row #[.int .i64 (a1)] 2, .no, .no, .no, .row #[.int .i64 (0 : Int)] 2, .row #[.int .i64 (0 : Int)] 2, .no, .no, .no, .row a0 29, .no, .no, .no, .no], []⟩ : St) hb)) (fun e hb => (kBlock 0 (kSeq (veC Try.prog (mkΓx [(65, con impl_seaCode_con), (76, con impl_hasTide_con)] [(57, impl_eachWater_nc)] [(101, impl_eachWater_1_ic)]) N (cAt (codeOf Try.f24) [1, 1, 1, 1, 1]) (pAt (mkPlan (codeOf Try.f24) [([], [6, 5])]).1 [1, 1, 1, 1, 1]) (SV × Eff × Bool)) (finK Try.prog [] [.tmp 4, .tmp 5, .tmp 6]))) e (leftI [6, 5] (⟨[.a (.g a0 29), .a (.i .i64 (a1)), .a (.w 0), .a (.w 1), .a (.i .i64 (0 : Int)), .a (.i .i64 (0 : Int)), .a (.i .i64 (0 : Int)), .a (.i .i64 (bif okS a0 then 0 else 1)), .a (.w 5), .a (.w 6), .a (.u), .a (.u), .a (.g a0 29), .a (.i .i64 (bif okS a0 then 0 else 1)), .a (.i .i64 (bif okS a0 then 0 else 1)), .a (.b (((bif okS a0 then 0 else 1) != (0 : Int)))), .a (.u), .a (.i .i64 (a1)), .a (.b ((impl_hasTide_v0 a1))), .a (.b ((!((impl_hasTide_v0 a1))))), .a (.g a0 29), .a (.c 101 [10]), .a (.u), .a (.u), .a (.u), .a (.u), .a (.u), .a (.u), .a (.u), .a (.u), .a (.u), .a (.u), .a (.u), .a (.u), .a (.u), .a (.u), .a (.u), .a (.u), .a (.u), .a (.u), .a (.u), .a (.u), .a (.u), .a (.u), .a (.u), .a (.u), .a (.u), .a (.u), .a (.u)], [.row a0 29, .row #[.int .i64 (a1)] 2, .no, .no, .no, .row #[.int .i64 (0 : Int)] 2, .row #[.int .i64 (0 : Int)] 2, .no, .no, .no, .row a0 29, .no, .no, .no, .no], []⟩ : St) hb)))
        else (none)))) := by kernel_rfl
  refine h.trans ?_
  simp only [impl_MeanFlow_n0]

theorem impl_MeanFlow_main (a0 : Array Value) (a1 : Int) (h_a0 : WT Try.prog 29 a0) (h_a1 : IntKind.i64.min ≤ a1 ∧ a1 ≤ IntKind.i64.max) (hg : (true) = true) : ansV Try.prog (mkΓx [(65, con impl_seaCode_con), (76, con impl_hasTide_con)] [(57, impl_eachWater_nc)] [(101, impl_eachWater_1_ic)]) 1000 Try.f24 [([], [6, 5])] [.g a0 29, .i .i64 (a1)] [] = some (.t [.i .i64 (bif okS a0 then (bif spec_l00In_v0 a1 0 1 then (flows a0 a1).1 else 0) else 0), .i .i64 (bif okS a0 then (bif spec_l00In_v0 a1 0 1 then (flows a0 a1).2 else 0) else 0), .i .i64 (bif okS a0 then (bif spec_l00In_v0 a1 0 1 then (0 : Int) else 2) else 1)], .none, true) := by
  refine (impl_MeanFlow_ans 1000 a0 a1).trans ?_
  rw [tide_eq]
  cases hok : okS a0
  · rfl
  cases hti' : spec_l00In_v0 a1 0 1
  · rfl
  have ht := tide_range hti'
  have d2 : (decide (0 ≤ a1) && decide (a1 < 2)) = true := by rw [decide_eq_true ht.1, decide_eq_true (show a1 < 2 by omega)]; rfl
  have hsz := seaS_size h_a0
  have h := foldI_cells (X := Empty) (g := impl_MeanFlow_g0 Try.prog a0 a1) (fun s k => ((fF a0 a1.toNat (s.2, s.1) k).2, (fF a0 a1.toNat (s.2, s.1) k).1)) (wd := num a0 0) (hi := num a0 1) (q := impl_isWater_v0 a0) (fun s k hk _ _ => by
    have h0 : (decide (0 ≤ (k : Int)) && decide ((k : Int) < 36)) = true := by rw [decide_eq_true (by omega), decide_eq_true (by omega)]; rfl
    simp only [impl_MeanFlow_g0, h0, d2, cond_true, Int.toNat_natCast, num_sub (show 1 < 5 by omega), num_sub (show 2 < 5 by omega), num_sub (show 3 < 5 by omega), num_sub (show 4 < 5 by omega), fF]) ((0 : Int), (0 : Int))
  have hsw := folds_congr (f := fun t k => if inC (num a0 0) (num a0 1) k && impl_isWater_v0 a0 (k : Int) then ((fF a0 a1.toNat (t.2, t.1) k).2, (fF a0 a1.toNat (t.2, t.1) k).1) else t) (g := fun t k => ((fF a0 a1.toNat (t.2, t.1) k).2, (fF a0 a1.toNat (t.2, t.1) k).1)) (fun _ s => IntKind.i64.wrap s.1 = s.1 ∧ IntKind.i64.wrap s.2 = s.2) (t := ((0 : Int), (0 : Int))) (n := 36) ⟨rfl, rfl⟩ (fun k s hk hs => by
    refine ⟨?_, wrap_idem _, wrap_idem _⟩
    rw [water_wet h_a0 hk]
    cases hw : wetB (num a0 0) (num a0 1) (num a0 2) k
    · have z : ∀ j, j < 5 → num a0 (3 + a1.toNat * 180 + k * 5 + j) = 0 := fun j hj => ok_dry hok hsz (by omega) hk hj hw
      simp only [fF, z 1 (by omega), z 2 (by omega), z 3 (by omega), z 4 (by omega)]
      have e : ∀ x : Int, IntKind.i64.wrap x = x → IntKind.i64.wrap (x + IntKind.i64.wrap (IntKind.i64.wrap 0 - IntKind.i64.wrap 0)) = x := fun x hx => by
        rw [show IntKind.i64.wrap (IntKind.i64.wrap 0 - IntKind.i64.wrap 0) = 0 from rfl, Int.add_zero, hx]
      rw [e _ hs.1, e _ hs.2]; rfl
    · rfl) 36 (Nat.le_refl _)
  have hfl : folds (fun t k => ((fF a0 a1.toNat (t.2, t.1) k).2, (fF a0 a1.toNat (t.2, t.1) k).1)) ((0 : Int), (0 : Int)) 36 = ((flows a0 a1).2, (flows a0 a1).1) := by
    have : ∀ n, folds (fun t k => ((fF a0 a1.toNat (t.2, t.1) k).2, (fF a0 a1.toNat (t.2, t.1) k).1)) ((0 : Int), (0 : Int)) n = ((folds (fF a0 a1.toNat) (0, 0) n).2, (folds (fF a0 a1.toNat) (0, 0) n).1) := by
      intro n
      induction n with
      | zero => rfl
      | succ n ih => rw [folds_succ, folds_succ, ih]
    exact this 36
  rw [hsw.1, hfl] at h
  have hd := okS_iter hok
  simp only [cond_true, cond_false, hd, h]
  rfl
noncomputable def impl_MeanFlow_con : Con := fun args h => match args, h with
  | [.g a0 29, .i .i64 a1], [] => some (.t [.i .i64 (bif okS a0 then (bif spec_l00In_v0 a1 0 1 then (flows a0 a1).1 else 0) else 0), .i .i64 (bif okS a0 then (bif spec_l00In_v0 a1 0 1 then (flows a0 a1).2 else 0) else 0), .i .i64 (bif okS a0 then (bif spec_l00In_v0 a1 0 1 then (0 : Int) else 2) else 1)], .none, true)
  | _, _ => none
theorem impl_MeanFlow_enter : ∀ args w, (callFunc 24 args).run Try.prog w = .ok (.enter 24 args) w := enter_ok (fn := Try.f24) (by kernel_rfl) (by kernel_rfl) (by kernel_rfl)
theorem impl_MeanFlow_ok : ConOk Try.prog 24 impl_MeanFlow_con := (ans_ok (N := 1000) (by kernel_rfl) (mkΓx_c (con_ok impl_seaCode_ok) impl_seaCode_enter (mkΓx_c (con_ok impl_hasTide_ok) impl_hasTide_enter (mkΓx_n impl_eachWater_nok impl_eachWater_enter (mkΓx_i impl_eachWater_1_iok impl_eachWater_1_enter mkΓx_nil)))) (fn := Try.f24) (by kernel_rfl) (by kernel_rfl) [([], [6, 5])]).of (by
  intro ρ h w args vals r e hA hH hr
  unfold impl_MeanFlow_con at hr
  split at hr
  · rename_i a0 a1
    obtain ⟨rfl, hg⟩ := Prod.mk.inj (Option.some.inj hr)
    obtain ⟨rfl, hg2⟩ := Prod.mk.inj hg
    exact impl_MeanFlow_main a0 a1 (hA.wt 0 rfl) (hA.rng 1 rfl) hg2
  · cases hr)

theorem laws_FnExactMeanFlow_ans (N : Nat) (a0 : Array Value) (a1 : Int) : ansV Try.prog (mkΓ [(19, con laws_toSea_con), (23, con spec_MeanFlow_con), (24, con impl_MeanFlow_con)]) N Try.f6 [] [.g a0 37, .i .i64 (a1)] [] = (bif ((bif okS a0 then (bif spec_l00In_v0 a1 0 1 then (flows a0 a1).1 else 0) else 0) != (bif okS a0 then (bif spec_l00In_v0 a1 0 1 then (flows a0 a1).1 else 0) else 0)) then (some (.a (.b (false)), .none, true))
    else (bif ((bif okS a0 then (bif spec_l00In_v0 a1 0 1 then (flows a0 a1).2 else 0) else 0) != (bif okS a0 then (bif spec_l00In_v0 a1 0 1 then (flows a0 a1).2 else 0) else 0)) then (some (.a (.b (false)), .none, true))
      else (bif ((bif okS a0 then (bif spec_l00In_v0 a1 0 1 then (0 : Int) else 2) else 1) != (bif okS a0 then (bif spec_l00In_v0 a1 0 1 then (0 : Int) else 2) else 1)) then (some (.a (.b (false)), .none, true))
        else (some (.a (.b (true)), .none, true))))) := by kernel_rfl

noncomputable def laws_FnExactMeanFlow_v0 (a0 : Array Value) (a1 : Int) : Bool := (bif ((bif okS a0 then (bif spec_l00In_v0 a1 0 1 then (flows a0 a1).1 else 0) else 0) != (bif okS a0 then (bif spec_l00In_v0 a1 0 1 then (flows a0 a1).1 else 0) else 0)) then false else (bif ((bif okS a0 then (bif spec_l00In_v0 a1 0 1 then (flows a0 a1).2 else 0) else 0) != (bif okS a0 then (bif spec_l00In_v0 a1 0 1 then (flows a0 a1).2 else 0) else 0)) then false else (bif ((bif okS a0 then (bif spec_l00In_v0 a1 0 1 then (0 : Int) else 2) else 1) != (bif okS a0 then (bif spec_l00In_v0 a1 0 1 then (0 : Int) else 2) else 1)) then false else true)))

theorem laws_FnExactMeanFlow_main (a0 : Array Value) (a1 : Int) (h_a0 : WT Try.prog 37 a0) (h_a1 : IntKind.i64.min ≤ a1 ∧ a1 ≤ IntKind.i64.max) (hg : (true) = true) : ansV Try.prog (mkΓ [(19, con laws_toSea_con), (23, con spec_MeanFlow_con), (24, con impl_MeanFlow_con)]) 1000 Try.f6 [] [.g a0 37, .i .i64 (a1)] [] = some (.a (.b ((laws_FnExactMeanFlow_v0 a0 a1))), .none, true) := by
  refine (laws_FnExactMeanFlow_ans 1000 a0 a1).trans ?_
  unfold laws_FnExactMeanFlow_v0
  revert hg
  generalize (((bif okS a0 then (bif spec_l00In_v0 a1 0 1 then (flows a0 a1).1 else 0) else 0) != (bif okS a0 then (bif spec_l00In_v0 a1 0 1 then (flows a0 a1).1 else 0) else 0))) = b2
  intro hg
  cases b2
  · skip
    revert hg
    generalize (((bif okS a0 then (bif spec_l00In_v0 a1 0 1 then (flows a0 a1).2 else 0) else 0) != (bif okS a0 then (bif spec_l00In_v0 a1 0 1 then (flows a0 a1).2 else 0) else 0))) = b4
    intro hg
    cases b4
    · skip
      revert hg
      generalize (((bif okS a0 then (bif spec_l00In_v0 a1 0 1 then (0 : Int) else 2) else 1) != (bif okS a0 then (bif spec_l00In_v0 a1 0 1 then (0 : Int) else 2) else 1))) = b6
      intro hg
      cases b6
      · skip
        first | (simp only [cond_true, cond_false, Bool.and_true, Bool.true_and, Bool.and_false, Bool.false_and]; done) | rfl | exact (nomatch (hg : false = true))
      · skip
        first | (simp only [cond_true, cond_false, Bool.and_true, Bool.true_and, Bool.and_false, Bool.false_and]; done) | rfl | exact (nomatch (hg : false = true))
    · skip
      first | (simp only [cond_true, cond_false, Bool.and_true, Bool.true_and, Bool.and_false, Bool.false_and]; done) | rfl | exact (nomatch (hg : false = true))
  · skip
    first | (simp only [cond_true, cond_false, Bool.and_true, Bool.true_and, Bool.and_false, Bool.false_and]; done) | rfl | exact (nomatch (hg : false = true))
noncomputable def laws_FnExactMeanFlow_con : Con := fun args h => match args, h with
  | [.g a0 37, .i .i64 a1], [] => some (.a (.b ((laws_FnExactMeanFlow_v0 a0 a1))), .none, true)
  | _, _ => none
theorem laws_FnExactMeanFlow_enter : ∀ args w, (callFunc 6 args).run Try.prog w = .ok (.enter 6 args) w := enter_ok (fn := Try.f6) (by kernel_rfl) (by kernel_rfl) (by kernel_rfl)
theorem laws_FnExactMeanFlow_ok : ConOk Try.prog 6 laws_FnExactMeanFlow_con := (ans_ok (N := 1000) (by kernel_rfl) (mkΓ_cons (con_ok laws_toSea_ok) laws_toSea_enter (mkΓ_cons (con_ok spec_MeanFlow_ok) spec_MeanFlow_enter (mkΓ_cons (con_ok impl_MeanFlow_ok) impl_MeanFlow_enter mkΓ_nil))) (fn := Try.f6) (by kernel_rfl) (by kernel_rfl) []).of (by
  intro ρ h w args vals r e hA hH hr
  unfold laws_FnExactMeanFlow_con at hr
  split at hr
  · rename_i a0 a1
    obtain ⟨rfl, hg⟩ := Prod.mk.inj (Option.some.inj hr)
    obtain ⟨rfl, hg2⟩ := Prod.mk.inj hg
    exact laws_FnExactMeanFlow_main a0 a1 (hA.wt 0 rfl) (hA.rng 1 rfl) hg2
  · cases hr)

theorem laws_FnExactMeanFlow_true (a0 : Array Value) (a1 : Int) (h_a0 : WT Try.prog 37 a0) (h_a1 : IntKind.i64.min ≤ a1 ∧ a1 ≤ IntKind.i64.max) : (true) = true ∧ ((laws_FnExactMeanFlow_v0 a0 a1)) = true := by
  refine ⟨rfl, ?_⟩
  unfold laws_FnExactMeanFlow_v0
  simp only [bne_self_eq_false, cond_false]

namespace lawFnExactMeanFlow
theorem lifted (os : Os) (started : os.Started) (H : Type) (enc : TypeId × Value → H) :
    ReturnsInHanded {} Try.checked os 6 .any (Rows.fnExactMeanFlowSpec.pre6 enc Try.prog Try.f6 Rows.fnExactMeanFlowRow.domain false) (Rows.fnExactMeanFlowSpec.post enc Try.prog Try.f6 false true false false) := by
  refine law_lifted (C := Try.checked) (tb := 4) (by kernel_rfl) (by kernel_rfl) (by kernel_rfl) Try.func6 (by kernel_rfl) Try.underlying4 (of_decide_eq_true (by kernel_rfl)) rfl ?_ os started H enc
    (ChangeSpec.witness6 (enc := enc) (C := Try.checked) false ⟨#[], #[.agg (zc Try.prog 37), .int .i64 0], []⟩ 8 (by kernel_rfl) (by kernel_rfl) (by kernel_rfl) (by kernel_rfl)) ?_
  · intro H ds hds
    rw [show Try.f6.params.toList.length = 2 by kernel_rfl] at hds
    match ds, hds with
    | [_, _], _ => rfl
  · intro W base args ds ps hval hA
    rw [Try.params6] at hA hval
    obtain ⟨v0, v1, d0, d1, p0, p1, hargs, rfl, rfl, h0, h1⟩ := trodAll_two hA
    obtain ⟨a0, e0, w0⟩ := open_data (t := 37) 8 (by kernel_rfl) (by kernel_rfl) (hval 0 37 v0 rfl (by rw [hargs]; rfl)) h0
    obtain ⟨a1, e1, _, _, w1⟩ := open_int Try.underlying2 (hval 1 2 v1 rfl (by rw [hargs]; rfl)) h1
    obtain rfl : args = #[.agg a0, .int .i64 a1] := by rw [hargs, e0, e1]
    obtain ⟨hg, hv⟩ := laws_FnExactMeanFlow_true a0 a1 w0 (wfb w1)
    have hr : laws_FnExactMeanFlow_con [.g a0 37, .i .i64 a1] [] = some (.a (.b true), .none, true) := by
      show (some (SV.a (SA.b ((laws_FnExactMeanFlow_v0 a0 a1))), Eff.none, true) : Option (SV × Eff × Bool)) = _
      rw [hg, hv]
    exact calls_con laws_FnExactMeanFlow_ok hr W (vals := [.agg a0, .int .i64 a1]) (allCons ⟨rfl, w0⟩ (allCons ⟨rfl, wfb w1⟩ allNil))

theorem over : Rows.fnExactMeanFlowRow.holds Try.pinned (OpenSpec.ofChange Rows.fnExactMeanFlowSpec) :=
  OpenClaim.holds_of_wide 6 Try.f6 rfl rfl rfl rfl rfl rfl rfl ⟨rfl, rfl, rfl, rfl, rfl⟩ rfl rfl rfl rfl rfl (by kernel_rfl) Try.func6 (by kernel_rfl)
    (of_decide_eq_true (by kernel_rfl)) (by unfold Func.isWrapper; first | (rw [if_pos (by decide +kernel)]; kernel_rfl) | (rw [if_neg (by decide +kernel)]; exact ⟨rfl, rfl⟩))
    (fun os started H enc _ => lifted os started H enc)

theorem proved : Rows.FnExactMeanFlowSaid := over
#print axioms proved
end lawFnExactMeanFlow

end
end Go.Proofs.Ytafmhcdelokmbaa
