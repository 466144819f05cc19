/- For every count spec and program answer the same logarithm. -/
import Derived.Test.YthpcidnfbceliaaRows
import Derived.Test.YthpcidnfbceliaaChecked
import Derived.Test.YthpcidnfbceliaaBase
import Derived.Test.YthpcidnfbceliaaVeLog
namespace Go.Proofs.Ythpcidnfbceliaa
open Go.ChangeShapes Go.WideShapes Go.ChangeAt Go.RowKit Ve
set_option linter.unusedVariables false
set_option linter.unusedSimpArgs false
set_option maxRecDepth 100000
noncomputable section
theorem wrap12 : ∀ k, k < 14 → IntKind.i64.wrap ((12 : Int) ^ k * 12) = 12 ^ (k + 1) := by decide

noncomputable def spec_l02Parts_t0 (a0 : Int) : St := (⟨.a (.i .i64 (a0)) :: .a (.u) :: .a (.i .i64 (0 : Int)) :: .a (.i .i64 (1 : Int)) :: .a (.i .i64 (0 : Int)) :: us 8 ([]), [], []⟩ : St)

noncomputable def spec_l02Parts_e0 : Int × Int → LS
  | (y0_3, y0_4) => ([.a (.i .i64 (y0_3)), .a (.i .i64 (y0_4))], [])

noncomputable def spec_l02Parts_x0 : Int × Int → Exit × LS
  | t => ((.exit 0), spec_l02Parts_e0 t)

noncomputable def spec_l02Parts_g0 (P : Program) (a0 : Int) : Int × Int → Option (Stp (Int × Int) (Int × Int))
  | (y0_3, y0_4) => bif decide (y0_4 < a0) then (some (.more ((IntKind.i64.wrap (y0_3 * (12 : Int))), (IntKind.i64.wrap (y0_4 + (1 : Int))))))
    else (some (.done (y0_3, y0_4)))

theorem spec_l02Parts_s0 (N : Nat) (a0 : Int) : ∀ t : Int × Int, stepV Try.prog (mkΓ []) N (cAt (codeOf Try.f36) [1, 1, 0, 1, 0, 0]) (pAt (mkPlan (codeOf Try.f36) [([3, 4], [])]).1 [1, 1, 0, 1, 0]) [3, 4] [] (spec_l02Parts_t0 a0) (spec_l02Parts_e0 t) = mapS spec_l02Parts_e0 spec_l02Parts_x0 (spec_l02Parts_g0 Try.prog a0 t) := by
  rintro ⟨y0_3, y0_4⟩
  refine Eq.trans (b := (bif decide (y0_4 < a0) then (some (.more ([.a (.i .i64 (IntKind.i64.wrap (y0_3 * (12 : Int)))), .a (.i .i64 (IntKind.i64.wrap (y0_4 + (1 : Int))))], [])))
    else (some (.done ((.exit 0), ([.a (.i .i64 (y0_3)), .a (.i .i64 (y0_4))], [])))))) (by kernel_rfl) ?_
  simp only [spec_l02Parts_g0, mapS_cond, mapS_more, mapS_done, mapS_none, spec_l02Parts_e0, spec_l02Parts_x0]

noncomputable def spec_l02Parts_k0_0 (P : Program) (N : Nat) (a0 : Int) (z0_3 : Int) (z0_4 : Int) : Option (SV × Eff × Bool) := some (.a (.i .i64 (z0_3)), .none, true)

theorem spec_l02Parts_k0_0_eq (N : Nat) (a0 : Int) (z0_3 : Int) (z0_4 : Int) : (kBlock 0 (kSeq (veC Try.prog (mkΓ []) N (cAt (codeOf Try.f36) [1, 1, 1]) (pAt (mkPlan (codeOf Try.f36) [([3, 4], [])]).1 [1, 1, 1]) (SV × Eff × Bool)) (finK Try.prog [] [.tmp 2]))) (.exit 0) (left (writes (cAt (codeOf Try.f36) [1, 1, 0, 1, 0, 0])) [3, 4] [] (spec_l02Parts_t0 a0) ([.a (.i .i64 (z0_3)), .a (.i .i64 (z0_4))], [])) = spec_l02Parts_k0_0 Try.prog N a0 z0_3 z0_4 := by
  refine Eq.trans (b := (some (.a (.i .i64 (z0_3)), .none, true))) (by kernel_rfl) ?_
  rfl

theorem spec_l02Parts_n0 (N : Nat) (a0 : Int) : bindX (iterO (stepV Try.prog (mkΓ []) N (cAt (codeOf Try.f36) [1, 1, 0, 1, 0, 0]) (pAt (mkPlan (codeOf Try.f36) [([3, 4], [])]).1 [1, 1, 0, 1, 0]) [3, 4] [] (spec_l02Parts_t0 a0)) N ([.a (.i .i64 (1 : Int)), .a (.i .i64 (0 : Int))], [])) (fun e s => (kBlock 0 (kSeq (veC Try.prog (mkΓ []) N (cAt (codeOf Try.f36) [1, 1, 1]) (pAt (mkPlan (codeOf Try.f36) [([3, 4], [])]).1 [1, 1, 1]) (SV × Eff × Bool)) (finK Try.prog [] [.tmp 2]))) e (left (writes (cAt (codeOf Try.f36) [1, 1, 0, 1, 0, 0])) [3, 4] [] (spec_l02Parts_t0 a0) s)) = nodeX (iterO (spec_l02Parts_g0 Try.prog a0) N ((1 : Int), (0 : Int))) (fun x => spec_l02Parts_k0_0 Try.prog N a0 x.1 x.2) := by
  refine loop_node spec_l02Parts_e0 spec_l02Parts_x0 _ _ (spec_l02Parts_s0 N a0) N ((1 : Int), (0 : Int)) _ _ ?_
  intro x; exact spec_l02Parts_k0_0_eq N a0 x.1 x.2

theorem spec_l02Parts_ans (N : Nat) (a0 : Int) : ansV Try.prog (mkΓ []) N Try.f36 [([3, 4], [])] [.i .i64 (a0)] [] = (nodeX (iterO (spec_l02Parts_g0 Try.prog a0) N ((1 : Int), (0 : Int))) (fun x => spec_l02Parts_k0_0 Try.prog N a0 x.1 x.2)) := by
  refine Eq.trans (b := (bindX (iterO (stepV Try.prog (mkΓ []) N (cAt (codeOf Try.f36) [1, 1, 0, 1, 0, 0]) (pAt (mkPlan (codeOf Try.f36) [([3, 4], [])]).1 [1, 1, 0, 1, 0]) [3, 4] [] (spec_l02Parts_t0 a0)) N ([.a (.i .i64 (1 : Int)), .a (.i .i64 (0 : Int))], [])) (fun e s => (kBlock 0 (kSeq (veC Try.prog (mkΓ []) N (cAt (codeOf Try.f36) [1, 1, 1]) (pAt (mkPlan (codeOf Try.f36) [([3, 4], [])]).1 [1, 1, 1]) (SV × Eff × Bool)) (finK Try.prog [] [.tmp 2]))) e (left (writes (cAt (codeOf Try.f36) [1, 1, 0, 1, 0, 0])) [3, 4] [] (spec_l02Parts_t0 a0) s)))) (by kernel_rfl) ?_
  simp only [spec_l02Parts_n0 N a0]

theorem spec_l02Parts_main (a0 : Int) (h_a0 : IntKind.i64.min ≤ a0 ∧ a0 ≤ IntKind.i64.max) (hg : ((decide (0 ≤ a0) && decide (a0 ≤ 14))) = true) : ansV Try.prog (mkΓ []) 1000 Try.f36 [([3, 4], [])] [.i .i64 (a0)] [] = some (.a (.i .i64 (12 ^ a0.toNat)), .none, true) := by
  simp only [Bool.and_eq_true, decide_eq_true_eq] at hg
  obtain ⟨h0, h14⟩ := hg
  obtain ⟨m, rfl⟩ := Int.eq_ofNat_of_zero_le h0
  refine (spec_l02Parts_ans 1000 _).trans ?_
  have h := iter_all (g := spec_l02Parts_g0 Try.prog (m : Int)) (fun k => ((12 : Int) ^ k, (k : Int))) (m := m) (x := ((12 : Int) ^ m, (m : Int))) (N := 1000) (fun k hk => by
    have h1 : decide ((k : Int) < (m : Int)) = true := decide_eq_true (by omega)
    have h2 : IntKind.i64.wrap ((k : Int) + 1) = ((k + 1 : Nat) : Int) := by rw [IntWalk.i64_in _ (by omega)]; omega
    simp only [spec_l02Parts_g0, h1, cond_true, wrap12 k (by omega), h2]) (by
    have h1 : decide ((m : Int) < (m : Int)) = false := decide_eq_false (by omega)
    simp only [spec_l02Parts_g0, h1, cond_false]) (by omega)
  have h' : iterO (spec_l02Parts_g0 Try.prog (m : Int)) 1000 ((1 : Int), (0 : Int)) = some ((12 : Int) ^ m, (m : Int)) := h
  rw [h']
  rfl
noncomputable def spec_l02Parts_con : Con := fun args h => match args, h with
  | [.i .i64 a0], [] => some (.a (.i .i64 (12 ^ a0.toNat)), .none, (decide (0 ≤ a0) && decide (a0 ≤ 14)))
  | _, _ => none
theorem spec_l02Parts_enter : ∀ args w, (callFunc 36 args).run Try.prog w = .ok (.enter 36 args) w := enter_ok (fn := Try.f36) (by kernel_rfl) (by kernel_rfl) (by kernel_rfl)
theorem spec_l02Parts_ok : ConOk Try.prog 36 spec_l02Parts_con := (ans_ok (N := 1000) (by kernel_rfl) mkΓ_nil (fn := Try.f36) (by kernel_rfl) (by kernel_rfl) [([3, 4], [])]).of (by
  intro ρ h w args vals r e hA hH hr
  unfold spec_l02Parts_con at hr
  split at hr
  · rename_i a0
    obtain ⟨rfl, hg⟩ := Prod.mk.inj (Option.some.inj hr)
    obtain ⟨rfl, hg2⟩ := Prod.mk.inj hg
    exact spec_l02Parts_main a0 (hA.rng 0 rfl) hg2
  · cases hr)

noncomputable def impl_partsAfter_t0 (a0 : Int) : St := (⟨.a (.i .i64 (a0)) :: .a (.u) :: .a (.i .i64 (0 : Int)) :: .a (.i .i64 (1 : Int)) :: .a (.i .i64 (a0)) :: .a (.i .i64 (0 : Int)) :: us 5 ([]), [], []⟩ : St)

noncomputable def impl_partsAfter_e0 : Int × Int → LS
  | (y0_3, y0_5) => ([.a (.i .i64 (y0_3)), .a (.i .i64 (y0_5))], [])

noncomputable def impl_partsAfter_x0 : Int × Int → Exit × LS
  | t => ((.exit 0), impl_partsAfter_e0 t)

noncomputable def impl_partsAfter_g0 (P : Program) (a0 : Int) : Int × Int → Option (Stp (Int × Int) (Int × Int))
  | (y0_3, y0_5) => bif decide (y0_5 < a0) then (some (.more ((IntKind.i64.wrap (y0_3 * (12 : Int))), (IntKind.i64.wrap (y0_5 + (1 : Int))))))
    else (some (.done (y0_3, y0_5)))

theorem impl_partsAfter_s0 (N : Nat) (a0 : Int) : ∀ t : Int × Int, stepV Try.prog (mkΓ []) N (cAt (codeOf Try.f38) [1, 1, 0, 1, 0, 0]) (pAt (mkPlan (codeOf Try.f38) [([3, 5], [])]).1 [1, 1, 0, 1, 0]) [3, 5] [] (impl_partsAfter_t0 a0) (impl_partsAfter_e0 t) = mapS impl_partsAfter_e0 impl_partsAfter_x0 (impl_partsAfter_g0 Try.prog a0 t) := by
  rintro ⟨y0_3, y0_5⟩
  refine Eq.trans (b := (bif decide (y0_5 < a0) then (some (.more ([.a (.i .i64 (IntKind.i64.wrap (y0_3 * (12 : Int)))), .a (.i .i64 (IntKind.i64.wrap (y0_5 + (1 : Int))))], [])))
    else (some (.done ((.exit 0), ([.a (.i .i64 (y0_3)), .a (.i .i64 (y0_5))], [])))))) (by kernel_rfl) ?_
  simp only [impl_partsAfter_g0, mapS_cond, mapS_more, mapS_done, mapS_none, impl_partsAfter_e0, impl_partsAfter_x0]

noncomputable def impl_partsAfter_k0_0 (P : Program) (N : Nat) (a0 : Int) (z0_3 : Int) (z0_5 : Int) : Option (SV × Eff × Bool) := some (.a (.i .i64 (z0_3)), .none, true)

theorem impl_partsAfter_k0_0_eq (N : Nat) (a0 : Int) (z0_3 : Int) (z0_5 : Int) : (kBlock 0 (kSeq (veC Try.prog (mkΓ []) N (cAt (codeOf Try.f38) [1, 1, 1]) (pAt (mkPlan (codeOf Try.f38) [([3, 5], [])]).1 [1, 1, 1]) (SV × Eff × Bool)) (finK Try.prog [] [.tmp 2]))) (.exit 0) (left (writes (cAt (codeOf Try.f38) [1, 1, 0, 1, 0, 0])) [3, 5] [] (impl_partsAfter_t0 a0) ([.a (.i .i64 (z0_3)), .a (.i .i64 (z0_5))], [])) = impl_partsAfter_k0_0 Try.prog N a0 z0_3 z0_5 := by
  refine Eq.trans (b := (some (.a (.i .i64 (z0_3)), .none, true))) (by kernel_rfl) ?_
  rfl

theorem impl_partsAfter_n0 (N : Nat) (a0 : Int) : bindX (iterO (stepV Try.prog (mkΓ []) N (cAt (codeOf Try.f38) [1, 1, 0, 1, 0, 0]) (pAt (mkPlan (codeOf Try.f38) [([3, 5], [])]).1 [1, 1, 0, 1, 0]) [3, 5] [] (impl_partsAfter_t0 a0)) N ([.a (.i .i64 (1 : Int)), .a (.i .i64 (0 : Int))], [])) (fun e s => (kBlock 0 (kSeq (veC Try.prog (mkΓ []) N (cAt (codeOf Try.f38) [1, 1, 1]) (pAt (mkPlan (codeOf Try.f38) [([3, 5], [])]).1 [1, 1, 1]) (SV × Eff × Bool)) (finK Try.prog [] [.tmp 2]))) e (left (writes (cAt (codeOf Try.f38) [1, 1, 0, 1, 0, 0])) [3, 5] [] (impl_partsAfter_t0 a0) s)) = nodeX (iterO (impl_partsAfter_g0 Try.prog a0) N ((1 : Int), (0 : Int))) (fun x => impl_partsAfter_k0_0 Try.prog N a0 x.1 x.2) := by
  refine loop_node impl_partsAfter_e0 impl_partsAfter_x0 _ _ (impl_partsAfter_s0 N a0) N ((1 : Int), (0 : Int)) _ _ ?_
  intro x; exact impl_partsAfter_k0_0_eq N a0 x.1 x.2

theorem impl_partsAfter_ans (N : Nat) (a0 : Int) : ansV Try.prog (mkΓ []) N Try.f38 [([3, 5], [])] [.i .i64 (a0)] [] = (nodeX (iterO (impl_partsAfter_g0 Try.prog a0) N ((1 : Int), (0 : Int))) (fun x => impl_partsAfter_k0_0 Try.prog N a0 x.1 x.2)) := by
  refine Eq.trans (b := (bindX (iterO (stepV Try.prog (mkΓ []) N (cAt (codeOf Try.f38) [1, 1, 0, 1, 0, 0]) (pAt (mkPlan (codeOf Try.f38) [([3, 5], [])]).1 [1, 1, 0, 1, 0]) [3, 5] [] (impl_partsAfter_t0 a0)) N ([.a (.i .i64 (1 : Int)), .a (.i .i64 (0 : Int))], [])) (fun e s => (kBlock 0 (kSeq (veC Try.prog (mkΓ []) N (cAt (codeOf Try.f38) [1, 1, 1]) (pAt (mkPlan (codeOf Try.f38) [([3, 5], [])]).1 [1, 1, 1]) (SV × Eff × Bool)) (finK Try.prog [] [.tmp 2]))) e (left (writes (cAt (codeOf Try.f38) [1, 1, 0, 1, 0, 0])) [3, 5] [] (impl_partsAfter_t0 a0) s)))) (by kernel_rfl) ?_
  simp only [impl_partsAfter_n0 N a0]

theorem impl_partsAfter_main (a0 : Int) (h_a0 : IntKind.i64.min ≤ a0 ∧ a0 ≤ IntKind.i64.max) (hg : ((decide (0 ≤ a0) && decide (a0 ≤ 14))) = true) : ansV Try.prog (mkΓ []) 1000 Try.f38 [([3, 5], [])] [.i .i64 (a0)] [] = some (.a (.i .i64 (12 ^ a0.toNat)), .none, true) := by
  simp only [Bool.and_eq_true, decide_eq_true_eq] at hg
  obtain ⟨h0, h14⟩ := hg
  obtain ⟨m, rfl⟩ := Int.eq_ofNat_of_zero_le h0
  refine (impl_partsAfter_ans 1000 _).trans ?_
  have h := iter_all (g := impl_partsAfter_g0 Try.prog (m : Int)) (fun k => ((12 : Int) ^ k, (k : Int))) (m := m) (x := ((12 : Int) ^ m, (m : Int))) (N := 1000) (fun k hk => by
    have h1 : decide ((k : Int) < (m : Int)) = true := decide_eq_true (by omega)
    have h2 : IntKind.i64.wrap ((k : Int) + 1) = ((k + 1 : Nat) : Int) := by rw [IntWalk.i64_in _ (by omega)]; omega
    simp only [impl_partsAfter_g0, h1, cond_true, wrap12 k (by omega), h2]) (by
    have h1 : decide ((m : Int) < (m : Int)) = false := decide_eq_false (by omega)
    simp only [impl_partsAfter_g0, h1, cond_false]) (by omega)
  have h' : iterO (impl_partsAfter_g0 Try.prog (m : Int)) 1000 ((1 : Int), (0 : Int)) = some ((12 : Int) ^ m, (m : Int)) := h
  rw [h']
  rfl
noncomputable def impl_partsAfter_con : Con := fun args h => match args, h with
  | [.i .i64 a0], [] => some (.a (.i .i64 (12 ^ a0.toNat)), .none, (decide (0 ≤ a0) && decide (a0 ≤ 14)))
  | _, _ => none
theorem impl_partsAfter_enter : ∀ args w, (callFunc 38 args).run Try.prog w = .ok (.enter 38 args) w := enter_ok (fn := Try.f38) (by kernel_rfl) (by kernel_rfl) (by kernel_rfl)
theorem impl_partsAfter_ok : ConOk Try.prog 38 impl_partsAfter_con := (ans_ok (N := 1000) (by kernel_rfl) mkΓ_nil (fn := Try.f38) (by kernel_rfl) (by kernel_rfl) [([3, 5], [])]).of (by
  intro ρ h w args vals r e hA hH hr
  unfold impl_partsAfter_con at hr
  split at hr
  · rename_i a0
    obtain ⟨rfl, hg⟩ := Prod.mk.inj (Option.some.inj hr)
    obtain ⟨rfl, hg2⟩ := Prod.mk.inj hg
    exact impl_partsAfter_main a0 (hA.rng 0 rfl) hg2
  · cases hr)

theorem spec_l00In_ans (N : Nat) (a0 : Int) (a1 : Int) (a2 : Int) : ansV Try.prog (mkΓ []) N Try.f35 [] [.i .i64 (a0), .i .i64 (a1), .i .i64 (a2)] [] = (bif decide (a0 ≥ a1) then (some (.a (.b (decide (a0 ≤ a2))), .none, true))
    else (some (.a (.b (false)), .none, true))) := by kernel_rfl

noncomputable def spec_l00In_v0 (a0 : Int) (a1 : Int) (a2 : Int) : Bool := (bif decide (a0 ≥ a1) then decide (a0 ≤ a2) else false)

theorem spec_l00In_main (a0 : Int) (a1 : Int) (a2 : Int) (h_a0 : IntKind.i64.min ≤ a0 ∧ a0 ≤ IntKind.i64.max) (h_a1 : IntKind.i64.min ≤ a1 ∧ a1 ≤ IntKind.i64.max) (h_a2 : IntKind.i64.min ≤ a2 ∧ a2 ≤ IntKind.i64.max) (hg : (true) = true) : ansV Try.prog (mkΓ []) 1000 Try.f35 [] [.i .i64 (a0), .i .i64 (a1), .i .i64 (a2)] [] = some (.a (.b ((spec_l00In_v0 a0 a1 a2))), .none, true) := by
  refine (spec_l00In_ans 1000 a0 a1 a2).trans ?_
  unfold spec_l00In_v0
  revert hg
  generalize (decide (a0 ≥ a1)) = b2
  intro hg
  cases b2
  · skip
    first | (simp only [cond_true, cond_false, Bool.and_true, Bool.true_and, Bool.and_false, Bool.false_and]; done) | rfl | exact (nomatch (hg : false = true))
  · skip
    first | (simp only [cond_true, cond_false, Bool.and_true, Bool.true_and, Bool.and_false, Bool.false_and]; done) | rfl | exact (nomatch (hg : false = true))
noncomputable def spec_l00In_con : Con := fun args h => match args, h with
  | [.i .i64 a0, .i .i64 a1, .i .i64 a2], [] => some (.a (.b ((spec_l00In_v0 a0 a1 a2))), .none, true)
  | _, _ => none
theorem spec_l00In_enter : ∀ args w, (callFunc 35 args).run Try.prog w = .ok (.enter 35 args) w := enter_ok (fn := Try.f35) (by kernel_rfl) (by kernel_rfl) (by kernel_rfl)
theorem spec_l00In_ok : ConOk Try.prog 35 spec_l00In_con := (ans_ok (N := 1000) (by kernel_rfl) mkΓ_nil (fn := Try.f35) (by kernel_rfl) (by kernel_rfl) []).of (by
  intro ρ h w args vals r e hA hH hr
  unfold spec_l00In_con at hr
  split at hr
  · rename_i a0 a1 a2
    obtain ⟨rfl, hg⟩ := Prod.mk.inj (Option.some.inj hr)
    obtain ⟨rfl, hg2⟩ := Prod.mk.inj hg
    exact spec_l00In_main a0 a1 a2 (hA.rng 0 rfl) (hA.rng 1 rfl) (hA.rng 2 rfl) hg2
  · cases hr)

noncomputable def spec_LogOf_G : Cons := (mkΓ [(35, con spec_l00In_con), (36, con spec_l02Parts_con), (37, con spec_l05Log_con)])
theorem spec_LogOf_ans (N : Nat) (a0 : Int) : ansV Try.prog spec_LogOf_G N Try.f15 [] [.i .i64 (a0)] [] = (bif (decide (0 ≤ (14 : Int)) && decide ((14 : Int) ≤ 14)) then (bif (!((spec_l00In_v0 a0 (1 : Int) (12 ^ (14 : Int).toNat)))) then (some (.t [.i .i64 (0 : Int), .i .i64 (2 : Int)], .none, true))
      else (bif decide (1 ≤ a0) then (some (.t [.i .i64 (lg a0), .i .i64 (0 : Int)], .none, true))
        else (none)))
    else (none)) := by kernel_rfl

noncomputable def spec_LogOf_v0 (a0 : Int) : Int := (bif (!((spec_l00In_v0 a0 (1 : Int) (12 ^ (14 : Int).toNat)))) then (0 : Int) else (lg a0))
noncomputable def spec_LogOf_v1 (a0 : Int) : Int := (bif (!((spec_l00In_v0 a0 (1 : Int) (12 ^ (14 : Int).toNat)))) then (2 : Int) else (0 : Int))
noncomputable def spec_LogOf_gd (a0 : Int) : Bool := (bif (decide (0 ≤ (14 : Int)) && decide ((14 : Int) ≤ 14)) then (bif (!((spec_l00In_v0 a0 (1 : Int) (12 ^ (14 : Int).toNat)))) then true else decide (1 ≤ a0)) else false)

theorem spec_LogOf_main (a0 : Int) (h_a0 : IntKind.i64.min ≤ a0 ∧ a0 ≤ IntKind.i64.max) (hg : ((spec_LogOf_gd a0)) = true) : ansV Try.prog spec_LogOf_G 1000 Try.f15 [] [.i .i64 (a0)] [] = some (.t [.i .i64 (spec_LogOf_v0 a0), .i .i64 (spec_LogOf_v1 a0)], .none, true) := by
  refine (spec_LogOf_ans 1000 a0).trans ?_
  unfold spec_LogOf_gd at hg
  unfold spec_LogOf_v0 spec_LogOf_v1
  revert hg
  generalize (decide (0 ≤ (14 : Int))) = b2
  intro hg
  cases b2
  · skip
    first | exact (nomatch (hg : false = true)) | (simp only [cond_true, cond_false, Bool.and_true, Bool.true_and, Bool.and_false, Bool.false_and]; done) | rfl
  · skip
    revert hg
    generalize (decide ((14 : Int) ≤ 14)) = b4
    intro hg
    cases b4
    · skip
      first | exact (nomatch (hg : false = true)) | (simp only [cond_true, cond_false, Bool.and_true, Bool.true_and, Bool.and_false, Bool.false_and]; done) | rfl
    · skip
      revert hg
      generalize ((!((spec_l00In_v0 a0 (1 : Int) (12 ^ (14 : Int).toNat))))) = b6
      intro hg
      cases b6
      · skip
        revert hg
        generalize (decide (1 ≤ a0)) = b8
        intro hg
        cases b8
        · skip
          first | exact (nomatch (hg : false = true)) | (simp only [cond_true, cond_false, Bool.and_true, Bool.true_and, Bool.and_false, Bool.false_and]; done) | rfl
        · skip
          first | (simp only [cond_true, cond_false, Bool.and_true, Bool.true_and, Bool.and_false, Bool.false_and]; done) | rfl | exact (nomatch (hg : false = true))
      · skip
        first | (simp only [cond_true, cond_false, Bool.and_true, Bool.true_and, Bool.and_false, Bool.false_and]; done) | rfl | exact (nomatch (hg : false = true))
noncomputable def spec_LogOf_con : Con := fun args h => match args, h with
  | [.i .i64 a0], [] => some (.t [.i .i64 (spec_LogOf_v0 a0), .i .i64 (spec_LogOf_v1 a0)], .none, (spec_LogOf_gd a0))
  | _, _ => none
theorem spec_LogOf_enter : ∀ args w, (callFunc 15 args).run Try.prog w = .ok (.enter 15 args) w := enter_ok (fn := Try.f15) (by kernel_rfl) (by kernel_rfl) (by kernel_rfl)
theorem spec_LogOf_ok : ConOk Try.prog 15 spec_LogOf_con := (ans_ok (N := 1000) (by kernel_rfl) (mkΓ_cons (con_ok spec_l00In_ok) spec_l00In_enter (mkΓ_cons (con_ok spec_l02Parts_ok) spec_l02Parts_enter (mkΓ_cons (con_ok spec_l05Log_ok) spec_l05Log_enter mkΓ_nil))) (fn := Try.f15) (by kernel_rfl) (by kernel_rfl) []).of (by
  intro ρ h w args vals r e hA hH hr
  unfold spec_LogOf_con at hr
  split at hr
  · rename_i a0
    obtain ⟨rfl, hg⟩ := Prod.mk.inj (Option.some.inj hr)
    obtain ⟨rfl, hg2⟩ := Prod.mk.inj hg
    exact spec_LogOf_main a0 (hA.rng 0 rfl) hg2
  · cases hr)

noncomputable def impl_LogOf_G : Cons := (mkΓ [(38, con impl_partsAfter_con), (39, con impl_logOf_con)])
theorem impl_LogOf_ans (N : Nat) (a0 : Int) : ansV Try.prog impl_LogOf_G N Try.f16 [] [.i .i64 (a0)] [] = (bif decide (a0 < (1 : Int)) then (some (.t [.i .i64 (0 : Int), .i .i64 (2 : Int)], .none, true))
    else (bif (decide (0 ≤ (14 : Int)) && decide ((14 : Int) ≤ 14)) then (bif decide (a0 > (12 ^ (14 : Int).toNat)) then (some (.t [.i .i64 (0 : Int), .i .i64 (2 : Int)], .none, true))
        else (bif decide (1 ≤ a0) then (some (.t [.i .i64 (lg a0), .i .i64 (0 : Int)], .none, true))
          else (none)))
      else (none))) := by kernel_rfl

noncomputable def impl_LogOf_v0 (a0 : Int) : Int := (bif decide (a0 < (1 : Int)) then (0 : Int) else (bif decide (a0 > (12 ^ (14 : Int).toNat)) then (0 : Int) else (lg a0)))
noncomputable def impl_LogOf_v1 (a0 : Int) : Int := (bif decide (a0 < (1 : Int)) then (2 : Int) else (bif decide (a0 > (12 ^ (14 : Int).toNat)) then (2 : Int) else (0 : Int)))
noncomputable def impl_LogOf_gd (a0 : Int) : Bool := (bif decide (a0 < (1 : Int)) then true else (bif (decide (0 ≤ (14 : Int)) && decide ((14 : Int) ≤ 14)) then (bif decide (a0 > (12 ^ (14 : Int).toNat)) then true else decide (1 ≤ a0)) else false))

theorem impl_LogOf_main (a0 : Int) (h_a0 : IntKind.i64.min ≤ a0 ∧ a0 ≤ IntKind.i64.max) (hg : ((impl_LogOf_gd a0)) = true) : ansV Try.prog impl_LogOf_G 1000 Try.f16 [] [.i .i64 (a0)] [] = some (.t [.i .i64 (impl_LogOf_v0 a0), .i .i64 (impl_LogOf_v1 a0)], .none, true) := by
  refine (impl_LogOf_ans 1000 a0).trans ?_
  unfold impl_LogOf_gd at hg
  unfold impl_LogOf_v0 impl_LogOf_v1
  revert hg
  generalize (decide (a0 < (1 : Int))) = b2
  intro hg
  cases b2
  · skip
    revert hg
    generalize (decide (0 ≤ (14 : Int))) = b4
    intro hg
    cases b4
    · skip
      first | exact (nomatch (hg : false = true)) | (simp only [cond_true, cond_false, Bool.and_true, Bool.true_and, Bool.and_false, Bool.false_and]; done) | rfl
    · skip
      revert hg
      generalize (decide ((14 : Int) ≤ 14)) = b6
      intro hg
      cases b6
      · skip
        first | exact (nomatch (hg : false = true)) | (simp only [cond_true, cond_false, Bool.and_true, Bool.true_and, Bool.and_false, Bool.false_and]; done) | rfl
      · skip
        revert hg
        generalize (decide (a0 > (12 ^ (14 : Int).toNat))) = b8
        intro hg
        cases b8
        · skip
          revert hg
          generalize (decide (1 ≤ a0)) = b10
          intro hg
          cases b10
          · skip
            first | exact (nomatch (hg : false = true)) | (simp only [cond_true, cond_false, Bool.and_true, Bool.true_and, Bool.and_false, Bool.false_and]; done) | rfl
          · skip
            first | (simp only [cond_true, cond_false, Bool.and_true, Bool.true_and, Bool.and_false, Bool.false_and]; done) | rfl | exact (nomatch (hg : false = true))
        · skip
          first | (simp only [cond_true, cond_false, Bool.and_true, Bool.true_and, Bool.and_false, Bool.false_and]; done) | rfl | exact (nomatch (hg : false = true))
  · skip
    first | (simp only [cond_true, cond_false, Bool.and_true, Bool.true_and, Bool.and_false, Bool.false_and]; done) | rfl | exact (nomatch (hg : false = true))
noncomputable def impl_LogOf_con : Con := fun args h => match args, h with
  | [.i .i64 a0], [] => some (.t [.i .i64 (impl_LogOf_v0 a0), .i .i64 (impl_LogOf_v1 a0)], .none, (impl_LogOf_gd a0))
  | _, _ => none
theorem impl_LogOf_enter : ∀ args w, (callFunc 16 args).run Try.prog w = .ok (.enter 16 args) w := enter_ok (fn := Try.f16) (by kernel_rfl) (by kernel_rfl) (by kernel_rfl)
theorem impl_LogOf_ok : ConOk Try.prog 16 impl_LogOf_con := (ans_ok (N := 1000) (by kernel_rfl) (mkΓ_cons (con_ok impl_partsAfter_ok) impl_partsAfter_enter (mkΓ_cons (con_ok impl_logOf_ok) impl_logOf_enter mkΓ_nil)) (fn := Try.f16) (by kernel_rfl) (by kernel_rfl) []).of (by
  intro ρ h w args vals r e hA hH hr
  unfold impl_LogOf_con at hr
  split at hr
  · rename_i a0
    obtain ⟨rfl, hg⟩ := Prod.mk.inj (Option.some.inj hr)
    obtain ⟨rfl, hg2⟩ := Prod.mk.inj hg
    exact impl_LogOf_main a0 (hA.rng 0 rfl) hg2
  · cases hr)

noncomputable def laws_FnExactLogOf_G : Cons := (mkΓ [(15, con spec_LogOf_con), (16, con impl_LogOf_con)])
theorem laws_FnExactLogOf_ans (N : Nat) (a0 : Int) : ansV Try.prog laws_FnExactLogOf_G N Try.f5 [] [.i .i64 (a0)] [] = (bif (spec_LogOf_gd a0) then (bif (impl_LogOf_gd a0) then (bif ((impl_LogOf_v0 a0) != (spec_LogOf_v0 a0)) then (some (.a (.b (false)), .none, true))
        else (bif ((impl_LogOf_v1 a0) != (spec_LogOf_v1 a0)) then (some (.a (.b (false)), .none, true))
          else (some (.a (.b (true)), .none, true))))
      else (none))
    else (none)) := by kernel_rfl

noncomputable def laws_FnExactLogOf_v0 (a0 : Int) : Bool := (bif ((impl_LogOf_v0 a0) != (spec_LogOf_v0 a0)) then false else (bif ((impl_LogOf_v1 a0) != (spec_LogOf_v1 a0)) then false else true))

theorem laws_FnExactLogOf_main (a0 : Int) (h_a0 : IntKind.i64.min ≤ a0 ∧ a0 ≤ IntKind.i64.max) (hg : ((bif (spec_LogOf_gd a0) then (impl_LogOf_gd a0) else false)) = true) : ansV Try.prog laws_FnExactLogOf_G 1000 Try.f5 [] [.i .i64 (a0)] [] = some (.a (.b ((laws_FnExactLogOf_v0 a0))), .none, true) := by
  refine (laws_FnExactLogOf_ans 1000 a0).trans ?_
  unfold laws_FnExactLogOf_v0
  revert hg
  generalize ((spec_LogOf_gd a0)) = b2
  intro hg
  cases b2
  · skip
    first | exact (nomatch (hg : false = true)) | (simp only [cond_true, cond_false, Bool.and_true, Bool.true_and, Bool.and_false, Bool.false_and]; done) | rfl
  · skip
    revert hg
    generalize ((impl_LogOf_gd a0)) = b4
    intro hg
    cases b4
    · skip
      first | exact (nomatch (hg : false = true)) | (simp only [cond_true, cond_false, Bool.and_true, Bool.true_and, Bool.and_false, Bool.false_and]; done) | rfl
    · skip
      revert hg
      generalize (((impl_LogOf_v0 a0) != (spec_LogOf_v0 a0))) = b6
      intro hg
      cases b6
      · skip
        revert hg
        generalize (((impl_LogOf_v1 a0) != (spec_LogOf_v1 a0))) = b8
        intro hg
        cases b8
        · skip
          first | (simp only [cond_true, cond_false, Bool.and_true, Bool.true_and, Bool.and_false, Bool.false_and]; done) | rfl | exact (nomatch (hg : false = true))
        · skip
          first | (simp only [cond_true, cond_false, Bool.and_true, Bool.true_and, Bool.and_false, Bool.false_and]; done) | rfl | exact (nomatch (hg : false = true))
      · skip
        first | (simp only [cond_true, cond_false, Bool.and_true, Bool.true_and, Bool.and_false, Bool.false_and]; done) | rfl | exact (nomatch (hg : false = true))
noncomputable def laws_FnExactLogOf_con : Con := fun args h => match args, h with
  | [.i .i64 a0], [] => some (.a (.b ((laws_FnExactLogOf_v0 a0))), .none, (bif (spec_LogOf_gd a0) then (impl_LogOf_gd a0) else false))
  | _, _ => none
theorem laws_FnExactLogOf_enter : ∀ args w, (callFunc 5 args).run Try.prog w = .ok (.enter 5 args) w := enter_ok (fn := Try.f5) (by kernel_rfl) (by kernel_rfl) (by kernel_rfl)
theorem laws_FnExactLogOf_ok : ConOk Try.prog 5 laws_FnExactLogOf_con := (ans_ok (N := 1000) (by kernel_rfl) (mkΓ_cons (con_ok spec_LogOf_ok) spec_LogOf_enter (mkΓ_cons (con_ok impl_LogOf_ok) impl_LogOf_enter mkΓ_nil)) (fn := Try.f5) (by kernel_rfl) (by kernel_rfl) []).of (by
  intro ρ h w args vals r e hA hH hr
  unfold laws_FnExactLogOf_con at hr
  split at hr
  · rename_i a0
    obtain ⟨rfl, hg⟩ := Prod.mk.inj (Option.some.inj hr)
    obtain ⟨rfl, hg2⟩ := Prod.mk.inj hg
    exact laws_FnExactLogOf_main a0 (hA.rng 0 rfl) hg2
  · cases hr)

theorem laws_FnExactLogOf_true (a0 : Int) (h_a0 : IntKind.i64.min ≤ a0 ∧ a0 ≤ IntKind.i64.max) : ((bif (spec_LogOf_gd a0) then (impl_LogOf_gd a0) else false)) = true ∧ ((laws_FnExactLogOf_v0 a0)) = true := by
  have hM : (12 : Int) ^ ((14 : Int)).toNat = 1283918464548864 := by decide
  have h14 : (decide ((0 : Int) ≤ 14) && decide ((14 : Int) ≤ 14)) = true := by decide
  unfold laws_FnExactLogOf_v0 spec_LogOf_gd impl_LogOf_gd spec_LogOf_v0 impl_LogOf_v0 spec_LogOf_v1 impl_LogOf_v1 spec_l00In_v0
  rw [hM, h14]
  by_cases h1 : a0 < 1
  · rw [decide_eq_true h1, decide_eq_false (show ¬ a0 ≥ 1 by omega)]
    exact ⟨rfl, rfl⟩
  · rw [decide_eq_false h1, decide_eq_true (show a0 ≥ 1 by omega)]
    by_cases h2 : a0 > 1283918464548864
    · rw [decide_eq_true h2, decide_eq_false (show ¬ a0 ≤ 1283918464548864 by omega)]
      exact ⟨rfl, rfl⟩
    · rw [decide_eq_false h2, decide_eq_true (show a0 ≤ 1283918464548864 by omega)]
      simp only [cond_true, cond_false, Bool.not_true, bne_self_eq_false]
      exact ⟨trivial, trivial⟩

namespace lawFnExactLogOf
theorem lifted (os : Os) (started : os.Started) (H : Type) (enc : TypeId × Value → H) :
    ReturnsInHanded {} Try.checked os 5 .any (Rows.fnExactLogOfSpec.pre6 enc Try.prog Try.f5 Rows.fnExactLogOfRow.domain false) (Rows.fnExactLogOfSpec.post enc Try.prog Try.f5 false true false false) := by
  refine law_lifted (C := Try.checked) (tb := 4) (by kernel_rfl) (by kernel_rfl) (by kernel_rfl) Try.func5 (by kernel_rfl) Try.underlying4 (of_decide_eq_true (by kernel_rfl)) rfl ?_ os started H enc
    (ChangeSpec.witness6 (enc := enc) (C := Try.checked) false ⟨#[], #[.int .i64 0], []⟩ 8 (by kernel_rfl) (by kernel_rfl) (by kernel_rfl) (by kernel_rfl)) ?_
  · intro H ds hds
    rw [show Try.f5.params.toList.length = 1 by kernel_rfl] at hds
    match ds, hds with
    | [_], _ => rfl
  · intro W base args ds ps hval hA
    rw [Try.params5] at hA hval
    obtain ⟨v0, d0, hargs, rfl, h0⟩ := trodAll_one hA
    obtain ⟨a0, e0, _, _, w0⟩ := open_int Try.underlying2 (hval 0 2 v0 rfl (by rw [hargs]; rfl)) h0
    obtain rfl : args = #[.int .i64 a0] := by rw [hargs, e0]
    obtain ⟨hg, hv⟩ := laws_FnExactLogOf_true a0 (wfb w0)
    have hr : laws_FnExactLogOf_con [.i .i64 a0] [] = some (.a (.b true), .none, true) := by
      show (some (SV.a (SA.b ((laws_FnExactLogOf_v0 a0))), Eff.none, (bif (spec_LogOf_gd a0) then (impl_LogOf_gd a0) else false)) : Option (SV × Eff × Bool)) = _
      rw [hg, hv]
    exact calls_con laws_FnExactLogOf_ok hr W (vals := [.int .i64 a0]) (allCons ⟨rfl, wfb w0⟩ allNil)

theorem over : Rows.fnExactLogOfRow.holds Try.pinned (OpenSpec.ofChange Rows.fnExactLogOfSpec) :=
  OpenClaim.holds_of_wide 5 Try.f5 rfl rfl rfl rfl rfl rfl rfl ⟨rfl, rfl, rfl, rfl, rfl⟩ rfl rfl rfl rfl rfl (by kernel_rfl) Try.func5 (by kernel_rfl)
    (of_decide_eq_true (by kernel_rfl)) (by unfold Func.isWrapper; first | (rw [if_pos (by decide +kernel)]; kernel_rfl) | (rw [if_neg (by decide +kernel)]; exact ⟨rfl, rfl⟩))
    (fun os started H enc _ => lifted os started H enc)

theorem proved : Rows.FnExactLogOfSaid := over
#print axioms proved
end lawFnExactLogOf

end
end Go.Proofs.Ythpcidnfbceliaa
