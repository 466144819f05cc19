/- The sum of five chances; tides. -/
import Derived.Test.YtbgkcfgdedhclaaProg
import Derived.Test.YtbgkcfgdedhclaaVeSeaA
namespace Go.Proofs.Ytbgkcfgdedhclaa
open Go.ChangeShapes Go.WideShapes Go.ChangeAt Go.RowKit Ve
set_option linter.unusedVariables false
set_option linter.unusedSimpArgs false
set_option maxRecDepth 100000
noncomputable section
noncomputable def sumW (a : Array Value) : Nat → Int
  | 0 => 0
  | k + 1 => IntKind.i64.wrap (sumW a k + IntKind.i64.wrap (num a (k * 1)))
theorem tide_eq (t : Int) : impl_hasTide_v0 t = spec_l00In_v0 t 0 1 := by
  unfold impl_hasTide_v0 spec_l00In_v0
  by_cases h0 : t = 0
  · subst h0; rfl
  · by_cases h1 : t = 1
    · subst h1; rfl
    · rw [show (t == 0) = false from beq_eq_false_iff_ne.2 h0, show (t == 1) = false from beq_eq_false_iff_ne.2 h1]
      by_cases h2 : t ≥ 0
      · rw [decide_eq_true h2, decide_eq_false (show ¬ t ≤ 1 by omega)]; rfl
      · rw [decide_eq_false h2]; rfl

noncomputable def impl_ValidChances_g0 (P : Program) (a0 : Array Value) : Int × Int → Option (Stp (Int × Int) (Int × Int))
  | (y0_3, y0_7) => bif decide (y0_7 < (5 : Int)) then (bif (decide (0 ≤ y0_7) && decide (y0_7 < 5)) then (some (.more ((IntKind.i64.wrap (y0_3 + (IntKind.i64.wrap (num a0 ((y0_7).toNat * 1))))), (IntKind.i64.wrap (y0_7 + (1 : Int))))))
      else (none))
    else (some (.done (y0_3, y0_7)))

noncomputable def impl_ValidChances_e0 : Int × Int → LS
  | (y0_3, y0_7) => ([.a (.i .i64 (y0_3)), .a (.i .i64 (y0_7))], [])

noncomputable def impl_ValidChances_x0 : Int × Int → Exit × LS
  | t => ((.exit 0), impl_ValidChances_e0 t)

noncomputable def impl_ValidChances_k0_0 (P : Program) (N : Nat) (a0 : Array Value) (z0_3 : Int) (z0_7 : Int) : Option (SV × Eff × Bool) := some (.a (.b ((z0_3 == (12 : Int)))), .none, true)

theorem impl_ValidChances_s0 (N : Nat) (a0 : Array Value) : ∀ t : Int × Int, stepV Try.prog (mkΓ []) N (cAt (codeOf Try.f61) [1, 1, 0, 1, 0, 0]) (pAt (mkPlan (codeOf Try.f61) [([3, 7], [])]).1 [1, 1, 0, 1, 0]) [3, 7] [] (⟨[.a (.g a0 31), .a (.w 0), .a (.b (false)), .a (.i .i64 (0 : Int)), .a (.u), .a (.u), .a (.g a0 31), .a (.i .i64 (0 : Int)), .a (.u), .a (.u), .a (.u), .a (.u), .a (.u), .a (.u), .a (.u), .a (.u), .a (.u)], [.row a0 31, .no], []⟩ : St) (impl_ValidChances_e0 t) = mapS impl_ValidChances_e0 impl_ValidChances_x0 (impl_ValidChances_g0 Try.prog a0 t) := by
  rintro ⟨y0_3, y0_7⟩
  have h : stepV Try.prog (mkΓ []) N (cAt (codeOf Try.f61) [1, 1, 0, 1, 0, 0]) (pAt (mkPlan (codeOf Try.f61) [([3, 7], [])]).1 [1, 1, 0, 1, 0]) [3, 7] [] (⟨[.a (.g a0 31), .a (.w 0), .a (.b (false)), .a (.i .i64 (0 : Int)), .a (.u), .a (.u), .a (.g a0 31), .a (.i .i64 (0 : Int)), .a (.u), .a (.u), .a (.u), .a (.u), .a (.u), .a (.u), .a (.u), .a (.u), .a (.u)], [.row a0 31, .no], []⟩ : St) ([.a (.i .i64 (y0_3)), .a (.i .i64 (y0_7))], []) = (bif decide (y0_7 < (5 : Int)) then (bif (decide (0 ≤ y0_7) && decide (y0_7 < 5)) then (some (.more ([.a (.i .i64 (IntKind.i64.wrap (y0_3 + (IntKind.i64.wrap (num a0 ((y0_7).toNat * 1)))))), .a (.i .i64 (IntKind.i64.wrap (y0_7 + (1 : Int))))], [])))
      else (none))
    else (some (.done ((.exit 0), ([.a (.i .i64 (y0_3)), .a (.i .i64 (y0_7))], []))))) := by kernel_rfl
  refine h.trans ?_
  simp only [impl_ValidChances_g0, mapS_cond, mapS_more, mapS_done, mapS_none, impl_ValidChances_e0, impl_ValidChances_x0]

theorem impl_ValidChances_k0_0_eq (N : Nat) (a0 : Array Value) (z0_3 : Int) (z0_7 : Int) : (kBlock 0 (kSeq (veC Try.prog (mkΓ []) N (cAt (codeOf Try.f61) [1, 1, 1]) (pAt (mkPlan (codeOf Try.f61) [([3, 7], [])]).1 [1, 1, 1]) (SV × Eff × Bool)) (finK Try.prog [] [.tmp 2]))) (.exit 0) (left (writes (cAt (codeOf Try.f61) [1, 1, 0, 1, 0, 0])) [3, 7] [] (⟨[.a (.g a0 31), .a (.w 0), .a (.b (false)), .a (.i .i64 (0 : Int)), .a (.u), .a (.u), .a (.g a0 31), .a (.i .i64 (0 : Int)), .a (.u), .a (.u), .a (.u), .a (.u), .a (.u), .a (.u), .a (.u), .a (.u), .a (.u)], [.row a0 31, .no], []⟩ : St) ([.a (.i .i64 (z0_3)), .a (.i .i64 (z0_7))], [])) = impl_ValidChances_k0_0 Try.prog N a0 z0_3 z0_7 := by
  have h : (kBlock 0 (kSeq (veC Try.prog (mkΓ []) N (cAt (codeOf Try.f61) [1, 1, 1]) (pAt (mkPlan (codeOf Try.f61) [([3, 7], [])]).1 [1, 1, 1]) (SV × Eff × Bool)) (finK Try.prog [] [.tmp 2]))) (.exit 0) (left (writes (cAt (codeOf Try.f61) [1, 1, 0, 1, 0, 0])) [3, 7] [] (⟨[.a (.g a0 31), .a (.w 0), .a (.b (false)), .a (.i .i64 (0 : Int)), .a (.u), .a (.u), .a (.g a0 31), .a (.i .i64 (0 : Int)), .a (.u), .a (.u), .a (.u), .a (.u), .a (.u), .a (.u), .a (.u), .a (.u), .a (.u)], [.row a0 31, .no], []⟩ : St) ([.a (.i .i64 (z0_3)), .a (.i .i64 (z0_7))], [])) = (some (.a (.b ((z0_3 == (12 : Int)))), .none, true)) := by kernel_rfl
  refine h.trans ?_
  rfl

theorem impl_ValidChances_n0 (N : Nat) (a0 : Array Value) : bindX (iterO (stepV Try.prog (mkΓ []) N (cAt (codeOf Try.f61) [1, 1, 0, 1, 0, 0]) (pAt (mkPlan (codeOf Try.f61) [([3, 7], [])]).1 [1, 1, 0, 1, 0]) [3, 7] [] (⟨[.a (.g a0 31), .a (.w 0), .a (.b (false)), .a (.i .i64 (0 : Int)), .a (.u), .a (.u), .a (.g a0 31), .a (.i .i64 (0 : Int)), .a (.u), .a (.u), .a (.u), .a (.u), .a (.u), .a (.u), .a (.u), .a (.u), .a (.u)], [.row a0 31, .no], []⟩ : St)) N ([.a (.i .i64 (0 : Int)), .a (.i .i64 (0 : Int))], [])) (fun e s => (kBlock 0 (kSeq (veC Try.prog (mkΓ []) N (cAt (codeOf Try.f61) [1, 1, 1]) (pAt (mkPlan (codeOf Try.f61) [([3, 7], [])]).1 [1, 1, 1]) (SV × Eff × Bool)) (finK Try.prog [] [.tmp 2]))) e (left (writes (cAt (codeOf Try.f61) [1, 1, 0, 1, 0, 0])) [3, 7] [] (⟨[.a (.g a0 31), .a (.w 0), .a (.b (false)), .a (.i .i64 (0 : Int)), .a (.u), .a (.u), .a (.g a0 31), .a (.i .i64 (0 : Int)), .a (.u), .a (.u), .a (.u), .a (.u), .a (.u), .a (.u), .a (.u), .a (.u), .a (.u)], [.row a0 31, .no], []⟩ : St) s)) = nodeX (iterO (impl_ValidChances_g0 Try.prog a0) N ((0 : Int), (0 : Int))) (fun x => impl_ValidChances_k0_0 Try.prog N a0 x.1 x.2) := by
  refine loop_node impl_ValidChances_e0 impl_ValidChances_x0 _ _ (impl_ValidChances_s0 N a0) N ((0 : Int), (0 : Int)) _ _ ?_
  intro x; exact impl_ValidChances_k0_0_eq N a0 x.1 x.2

theorem impl_ValidChances_ans (N : Nat) (a0 : Array Value) : ansV Try.prog (mkΓ []) N Try.f61 [([3, 7], [])] [.g a0 31] [] = (nodeX (iterO (impl_ValidChances_g0 Try.prog a0) N ((0 : Int), (0 : Int))) (fun x => impl_ValidChances_k0_0 Try.prog N a0 x.1 x.2)) := by
  have h : ansV Try.prog (mkΓ []) N Try.f61 [([3, 7], [])] [.g a0 31] [] = (bindX (iterO (stepV Try.prog (mkΓ []) N (cAt (codeOf Try.f61) [1, 1, 0, 1, 0, 0]) (pAt (mkPlan (codeOf Try.f61) [([3, 7], [])]).1 [1, 1, 0, 1, 0]) [3, 7] [] (⟨[.a (.g a0 31), .a (.w 0), .a (.b (false)), .a (.i .i64 (0 : Int)), .a (.u), .a (.u), .a (.g a0 31), .a (.i .i64 (0 : Int)), .a (.u), .a (.u), .a (.u), .a (.u), .a (.u), .a (.u), .a (.u), .a (.u), .a (.u)], [.row a0 31, .no], []⟩ : St)) N ([.a (.i .i64 (0 : Int)), .a (.i .i64 (0 : Int))], [])) (fun e s => (kBlock 0 (kSeq (veC Try.prog (mkΓ []) N (cAt (codeOf Try.f61) [1, 1, 1]) (pAt (mkPlan (codeOf Try.f61) [([3, 7], [])]).1 [1, 1, 1]) (SV × Eff × Bool)) (finK Try.prog [] [.tmp 2]))) e (left (writes (cAt (codeOf Try.f61) [1, 1, 0, 1, 0, 0])) [3, 7] [] (⟨[.a (.g a0 31), .a (.w 0), .a (.b (false)), .a (.i .i64 (0 : Int)), .a (.u), .a (.u), .a (.g a0 31), .a (.i .i64 (0 : Int)), .a (.u), .a (.u), .a (.u), .a (.u), .a (.u), .a (.u), .a (.u), .a (.u), .a (.u)], [.row a0 31, .no], []⟩ : St) s))) := by kernel_rfl
  refine h.trans ?_
  simp only [impl_ValidChances_n0]

theorem impl_ValidChances_main (a0 : Array Value) (h_a0 : WT Try.prog 31 a0) (hg : (true) = true) : ansV Try.prog (mkΓ []) 1000 Try.f61 [([3, 7], [])] [.g a0 31] [] = some (.a (.b ((sumW a0 5 == (12 : Int)))), .none, true) := by
  have h := iter_all (g := impl_ValidChances_g0 Try.prog a0) (fun k => (sumW a0 k, (k : Int))) (m := 5) (x := (sumW a0 5, ((5 : Nat) : Int))) (N := 1000) (fun k hk => by
    have h1 : decide ((k : Int) < 5) = true := decide_eq_true (by omega)
    have h0 : decide (0 ≤ (k : Int)) = true := decide_eq_true (by omega)
    have h3 : IntKind.i64.wrap ((k : Int) + 1) = ((k + 1 : Nat) : Int) := by rw [IntWalk.i64_in _ (by omega)]; omega
    have h4 : ((k : Int)).toNat = k := Int.toNat_natCast k
    simp only [impl_ValidChances_g0, h1, h0, Bool.and_self, h4, cond_true, h3, sumW]) (by
    have h1 : decide (((5 : Nat) : Int) < 5) = false := by decide
    simp only [impl_ValidChances_g0, h1, cond_false]) (by omega)
  refine (impl_ValidChances_ans 1000 a0).trans ?_
  have h' : iterO (impl_ValidChances_g0 Try.prog a0) 1000 ((0 : Int), (0 : Int)) = some (sumW a0 5, ((5 : Nat) : Int)) := h
  rw [h']
  rfl
noncomputable def impl_ValidChances_con : Con := fun args h => match args, h with
  | [.g a0 31], [] => some (.a (.b ((sumW a0 5 == (12 : Int)))), .none, true)
  | _, _ => none
theorem impl_ValidChances_enter : ∀ args w, (callFunc 61 args).run Try.prog w = .ok (.enter 61 args) w := enter_ok (fn := Try.f61) (by kernel_rfl) (by kernel_rfl) (by kernel_rfl)
theorem impl_ValidChances_ok : ConOk Try.prog 61 impl_ValidChances_con := (ans_ok (N := 1000) (by kernel_rfl) mkΓ_nil (fn := Try.f61) (by kernel_rfl) (by kernel_rfl) [([3, 7], [])]).of (by
  intro ρ h w args vals r e hA hH hr
  unfold impl_ValidChances_con at hr
  split at hr
  · rename_i a0
    obtain ⟨rfl, hg⟩ := Prod.mk.inj (Option.some.inj hr)
    obtain ⟨rfl, hg2⟩ := Prod.mk.inj hg
    exact impl_ValidChances_main a0 (hA.wt 0 rfl) hg2
  · cases hr)

noncomputable def spec_l01Chances_g0 (P : Program) (a0 : Array Value) : Int × Int → Option (Stp (Int × Int) (Int × Int))
  | (y0_3, y0_4) => bif decide (y0_4 < (5 : Int)) then (bif (decide (0 ≤ y0_4) && decide (y0_4 < 5)) then (some (.more ((IntKind.i64.wrap (y0_3 + (IntKind.i64.wrap (num a0 ((y0_4).toNat * 1))))), (IntKind.i64.wrap (y0_4 + (1 : Int))))))
      else (none))
    else (some (.done (y0_3, y0_4)))

noncomputable def spec_l01Chances_e0 : Int × Int → LS
  | (y0_3, y0_4) => ([.a (.i .i64 (y0_3)), .a (.i .i64 (y0_4))], [])

noncomputable def spec_l01Chances_x0 : Int × Int → Exit × LS
  | t => ((.exit 0), spec_l01Chances_e0 t)

noncomputable def spec_l01Chances_k0_0 (P : Program) (N : Nat) (a0 : Array Value) (z0_3 : Int) (z0_4 : Int) : Option (SV × Eff × Bool) := some (.a (.b ((z0_3 == (12 : Int)))), .none, true)

theorem spec_l01Chances_s0 (N : Nat) (a0 : Array Value) : ∀ t : Int × Int, stepV Try.prog (mkΓ []) N (cAt (codeOf Try.f57) [1, 1, 0, 1, 0, 0]) (pAt (mkPlan (codeOf Try.f57) [([3, 4], [])]).1 [1, 1, 0, 1, 0]) [3, 4] [] (⟨[.a (.g a0 31), .a (.w 0), .a (.b (false)), .a (.i .i64 (0 : Int)), .a (.i .i64 (0 : Int)), .a (.u), .a (.u), .a (.u), .a (.u), .a (.u), .a (.u), .a (.u), .a (.u), .a (.u), .a (.u), .a (.u), .a (.u)], [.row a0 31, .no], []⟩ : St) (spec_l01Chances_e0 t) = mapS spec_l01Chances_e0 spec_l01Chances_x0 (spec_l01Chances_g0 Try.prog a0 t) := by
  rintro ⟨y0_3, y0_4⟩
  have h : stepV Try.prog (mkΓ []) N (cAt (codeOf Try.f57) [1, 1, 0, 1, 0, 0]) (pAt (mkPlan (codeOf Try.f57) [([3, 4], [])]).1 [1, 1, 0, 1, 0]) [3, 4] [] (⟨[.a (.g a0 31), .a (.w 0), .a (.b (false)), .a (.i .i64 (0 : Int)), .a (.i .i64 (0 : Int)), .a (.u), .a (.u), .a (.u), .a (.u), .a (.u), .a (.u), .a (.u), .a (.u), .a (.u), .a (.u), .a (.u), .a (.u)], [.row a0 31, .no], []⟩ : St) ([.a (.i .i64 (y0_3)), .a (.i .i64 (y0_4))], []) = (bif decide (y0_4 < (5 : Int)) then (bif (decide (0 ≤ y0_4) && decide (y0_4 < 5)) then (some (.more ([.a (.i .i64 (IntKind.i64.wrap (y0_3 + (IntKind.i64.wrap (num a0 ((y0_4).toNat * 1)))))), .a (.i .i64 (IntKind.i64.wrap (y0_4 + (1 : Int))))], [])))
      else (none))
    else (some (.done ((.exit 0), ([.a (.i .i64 (y0_3)), .a (.i .i64 (y0_4))], []))))) := by kernel_rfl
  refine h.trans ?_
  simp only [spec_l01Chances_g0, mapS_cond, mapS_more, mapS_done, mapS_none, spec_l01Chances_e0, spec_l01Chances_x0]

theorem spec_l01Chances_k0_0_eq (N : Nat) (a0 : Array Value) (z0_3 : Int) (z0_4 : Int) : (kBlock 0 (kSeq (veC Try.prog (mkΓ []) N (cAt (codeOf Try.f57) [1, 1, 1]) (pAt (mkPlan (codeOf Try.f57) [([3, 4], [])]).1 [1, 1, 1]) (SV × Eff × Bool)) (finK Try.prog [] [.tmp 2]))) (.exit 0) (left (writes (cAt (codeOf Try.f57) [1, 1, 0, 1, 0, 0])) [3, 4] [] (⟨[.a (.g a0 31), .a (.w 0), .a (.b (false)), .a (.i .i64 (0 : Int)), .a (.i .i64 (0 : Int)), .a (.u), .a (.u), .a (.u), .a (.u), .a (.u), .a (.u), .a (.u), .a (.u), .a (.u), .a (.u), .a (.u), .a (.u)], [.row a0 31, .no], []⟩ : St) ([.a (.i .i64 (z0_3)), .a (.i .i64 (z0_4))], [])) = spec_l01Chances_k0_0 Try.prog N a0 z0_3 z0_4 := by
  have h : (kBlock 0 (kSeq (veC Try.prog (mkΓ []) N (cAt (codeOf Try.f57) [1, 1, 1]) (pAt (mkPlan (codeOf Try.f57) [([3, 4], [])]).1 [1, 1, 1]) (SV × Eff × Bool)) (finK Try.prog [] [.tmp 2]))) (.exit 0) (left (writes (cAt (codeOf Try.f57) [1, 1, 0, 1, 0, 0])) [3, 4] [] (⟨[.a (.g a0 31), .a (.w 0), .a (.b (false)), .a (.i .i64 (0 : Int)), .a (.i .i64 (0 : Int)), .a (.u), .a (.u), .a (.u), .a (.u), .a (.u), .a (.u), .a (.u), .a (.u), .a (.u), .a (.u), .a (.u), .a (.u)], [.row a0 31, .no], []⟩ : St) ([.a (.i .i64 (z0_3)), .a (.i .i64 (z0_4))], [])) = (some (.a (.b ((z0_3 == (12 : Int)))), .none, true)) := by kernel_rfl
  refine h.trans ?_
  rfl

theorem spec_l01Chances_n0 (N : Nat) (a0 : Array Value) : bindX (iterO (stepV Try.prog (mkΓ []) N (cAt (codeOf Try.f57) [1, 1, 0, 1, 0, 0]) (pAt (mkPlan (codeOf Try.f57) [([3, 4], [])]).1 [1, 1, 0, 1, 0]) [3, 4] [] (⟨[.a (.g a0 31), .a (.w 0), .a (.b (false)), .a (.i .i64 (0 : Int)), .a (.i .i64 (0 : Int)), .a (.u), .a (.u), .a (.u), .a (.u), .a (.u), .a (.u), .a (.u), .a (.u), .a (.u), .a (.u), .a (.u), .a (.u)], [.row a0 31, .no], []⟩ : St)) N ([.a (.i .i64 (0 : Int)), .a (.i .i64 (0 : Int))], [])) (fun e s => (kBlock 0 (kSeq (veC Try.prog (mkΓ []) N (cAt (codeOf Try.f57) [1, 1, 1]) (pAt (mkPlan (codeOf Try.f57) [([3, 4], [])]).1 [1, 1, 1]) (SV × Eff × Bool)) (finK Try.prog [] [.tmp 2]))) e (left (writes (cAt (codeOf Try.f57) [1, 1, 0, 1, 0, 0])) [3, 4] [] (⟨[.a (.g a0 31), .a (.w 0), .a (.b (false)), .a (.i .i64 (0 : Int)), .a (.i .i64 (0 : Int)), .a (.u), .a (.u), .a (.u), .a (.u), .a (.u), .a (.u), .a (.u), .a (.u), .a (.u), .a (.u), .a (.u), .a (.u)], [.row a0 31, .no], []⟩ : St) s)) = nodeX (iterO (spec_l01Chances_g0 Try.prog a0) N ((0 : Int), (0 : Int))) (fun x => spec_l01Chances_k0_0 Try.prog N a0 x.1 x.2) := by
  refine loop_node spec_l01Chances_e0 spec_l01Chances_x0 _ _ (spec_l01Chances_s0 N a0) N ((0 : Int), (0 : Int)) _ _ ?_
  intro x; exact spec_l01Chances_k0_0_eq N a0 x.1 x.2

theorem spec_l01Chances_ans (N : Nat) (a0 : Array Value) : ansV Try.prog (mkΓ []) N Try.f57 [([3, 4], [])] [.g a0 31] [] = (nodeX (iterO (spec_l01Chances_g0 Try.prog a0) N ((0 : Int), (0 : Int))) (fun x => spec_l01Chances_k0_0 Try.prog N a0 x.1 x.2)) := by
  have h : ansV Try.prog (mkΓ []) N Try.f57 [([3, 4], [])] [.g a0 31] [] = (bindX (iterO (stepV Try.prog (mkΓ []) N (cAt (codeOf Try.f57) [1, 1, 0, 1, 0, 0]) (pAt (mkPlan (codeOf Try.f57) [([3, 4], [])]).1 [1, 1, 0, 1, 0]) [3, 4] [] (⟨[.a (.g a0 31), .a (.w 0), .a (.b (false)), .a (.i .i64 (0 : Int)), .a (.i .i64 (0 : Int)), .a (.u), .a (.u), .a (.u), .a (.u), .a (.u), .a (.u), .a (.u), .a (.u), .a (.u), .a (.u), .a (.u), .a (.u)], [.row a0 31, .no], []⟩ : St)) N ([.a (.i .i64 (0 : Int)), .a (.i .i64 (0 : Int))], [])) (fun e s => (kBlock 0 (kSeq (veC Try.prog (mkΓ []) N (cAt (codeOf Try.f57) [1, 1, 1]) (pAt (mkPlan (codeOf Try.f57) [([3, 4], [])]).1 [1, 1, 1]) (SV × Eff × Bool)) (finK Try.prog [] [.tmp 2]))) e (left (writes (cAt (codeOf Try.f57) [1, 1, 0, 1, 0, 0])) [3, 4] [] (⟨[.a (.g a0 31), .a (.w 0), .a (.b (false)), .a (.i .i64 (0 : Int)), .a (.i .i64 (0 : Int)), .a (.u), .a (.u), .a (.u), .a (.u), .a (.u), .a (.u), .a (.u), .a (.u), .a (.u), .a (.u), .a (.u), .a (.u)], [.row a0 31, .no], []⟩ : St) s))) := by kernel_rfl
  refine h.trans ?_
  simp only [spec_l01Chances_n0]

theorem spec_l01Chances_main (a0 : Array Value) (h_a0 : WT Try.prog 31 a0) (hg : (true) = true) : ansV Try.prog (mkΓ []) 1000 Try.f57 [([3, 4], [])] [.g a0 31] [] = some (.a (.b ((sumW a0 5 == (12 : Int)))), .none, true) := by
  have h := iter_all (g := spec_l01Chances_g0 Try.prog a0) (fun k => (sumW a0 k, (k : Int))) (m := 5) (x := (sumW a0 5, ((5 : Nat) : Int))) (N := 1000) (fun k hk => by
    have h1 : decide ((k : Int) < 5) = true := decide_eq_true (by omega)
    have h0 : decide (0 ≤ (k : Int)) = true := decide_eq_true (by omega)
    have h3 : IntKind.i64.wrap ((k : Int) + 1) = ((k + 1 : Nat) : Int) := by rw [IntWalk.i64_in _ (by omega)]; omega
    have h4 : ((k : Int)).toNat = k := Int.toNat_natCast k
    simp only [spec_l01Chances_g0, h1, h0, Bool.and_self, h4, cond_true, h3, sumW]) (by
    have h1 : decide (((5 : Nat) : Int) < 5) = false := by decide
    simp only [spec_l01Chances_g0, h1, cond_false]) (by omega)
  refine (spec_l01Chances_ans 1000 a0).trans ?_
  have h' : iterO (spec_l01Chances_g0 Try.prog a0) 1000 ((0 : Int), (0 : Int)) = some (sumW a0 5, ((5 : Nat) : Int)) := h
  rw [h']
  rfl
noncomputable def spec_l01Chances_con : Con := fun args h => match args, h with
  | [.g a0 31], [] => some (.a (.b ((sumW a0 5 == (12 : Int)))), .none, true)
  | _, _ => none
theorem spec_l01Chances_enter : ∀ args w, (callFunc 57 args).run Try.prog w = .ok (.enter 57 args) w := enter_ok (fn := Try.f57) (by kernel_rfl) (by kernel_rfl) (by kernel_rfl)
theorem spec_l01Chances_ok : ConOk Try.prog 57 spec_l01Chances_con := (ans_ok (N := 1000) (by kernel_rfl) mkΓ_nil (fn := Try.f57) (by kernel_rfl) (by kernel_rfl) [([3, 4], [])]).of (by
  intro ρ h w args vals r e hA hH hr
  unfold spec_l01Chances_con at hr
  split at hr
  · rename_i a0
    obtain ⟨rfl, hg⟩ := Prod.mk.inj (Option.some.inj hr)
    obtain ⟨rfl, hg2⟩ := Prod.mk.inj hg
    exact spec_l01Chances_main a0 (hA.wt 0 rfl) hg2
  · cases hr)

end
end Go.Proofs.Ytbgkcfgdedhclaa
