/- Bounds that are a proof. -/
import Derived.Test.YtmkkckhfghomfaaProg
import Derived.Test.YtmkkckhfghomfaaVeStH
namespace Go.Proofs.Ytmkkckhfghomfaa
open Go.ChangeShapes Go.WideShapes Go.ChangeAt Go.RowKit Ve
set_option linter.unusedVariables false
set_option linter.unusedSimpArgs false
set_option maxRecDepth 100000
noncomputable section
theorem wrap12 : ∀ k, k < 14 → IntKind.i64.wrap ((12 : Int) ^ k * 12) = 12 ^ (k + 1) := by decide

noncomputable def spec_l02Parts_e0 : Int × Int → LS
  | (y0_3, y0_4) => ([.a (.i .i64 (y0_3)), .a (.i .i64 (y0_4))], [])

noncomputable def spec_l02Parts_x0 : Int × Int → Exit × LS
  | t => ((.exit 0), spec_l02Parts_e0 t)

noncomputable def spec_l02Parts_g0 (P : Program) (a0 : Int) : Int × Int → Option (Stp (Int × Int) (Int × Int))
  | (y0_3, y0_4) => bif decide (y0_4 < a0) then (some (.more ((IntKind.i64.wrap (y0_3 * (12 : Int))), (IntKind.i64.wrap (y0_4 + (1 : Int))))))
    else (some (.done (y0_3, y0_4)))

theorem spec_l02Parts_s0 (N : Nat) (a0 : Int) : ∀ t : Int × Int, stepV Try.prog (mkΓ []) N (cAt (codeOf Try.f69) [1, 1, 0, 1, 0, 0]) (pAt (mkPlan (codeOf Try.f69) [([3, 4], [])]).1 [1, 1, 0, 1, 0]) [3, 4] [] (⟨.a (.i .i64 (a0)) :: .a (.u) :: .a (.i .i64 (0 : Int)) :: .a (.i .i64 (1 : Int)) :: .a (.i .i64 (0 : Int)) :: us 8 ([]), [], []⟩ : St) (spec_l02Parts_e0 t) = mapS spec_l02Parts_e0 spec_l02Parts_x0 (spec_l02Parts_g0 Try.prog a0 t) := by
  rintro ⟨y0_3, y0_4⟩
  refine Eq.trans (b := (bif decide (y0_4 < a0) then (some (.more ([.a (.i .i64 (IntKind.i64.wrap (y0_3 * (12 : Int)))), .a (.i .i64 (IntKind.i64.wrap (y0_4 + (1 : Int))))], [])))
    else (some (.done ((.exit 0), ([.a (.i .i64 (y0_3)), .a (.i .i64 (y0_4))], [])))))) (by kernel_rfl) ?_
  simp only [spec_l02Parts_g0, mapS_cond, mapS_more, mapS_done, mapS_none, spec_l02Parts_e0, spec_l02Parts_x0]

noncomputable def spec_l02Parts_k0_0 (P : Program) (N : Nat) (a0 : Int) (z0_3 : Int) (z0_4 : Int) : Option (SV × Eff × Bool) := some (.a (.i .i64 (z0_3)), .none, true)

theorem spec_l02Parts_k0_0_eq (N : Nat) (a0 : Int) (z0_3 : Int) (z0_4 : Int) : (kBlock 0 (kSeq (veC Try.prog (mkΓ []) N (cAt (codeOf Try.f69) [1, 1, 1]) (pAt (mkPlan (codeOf Try.f69) [([3, 4], [])]).1 [1, 1, 1]) (SV × Eff × Bool)) (finK Try.prog [] [.tmp 2]))) (.exit 0) (left (writes (cAt (codeOf Try.f69) [1, 1, 0, 1, 0, 0])) [3, 4] [] (⟨.a (.i .i64 (a0)) :: .a (.u) :: .a (.i .i64 (0 : Int)) :: .a (.i .i64 (1 : Int)) :: .a (.i .i64 (0 : Int)) :: us 8 ([]), [], []⟩ : St) ([.a (.i .i64 (z0_3)), .a (.i .i64 (z0_4))], [])) = spec_l02Parts_k0_0 Try.prog N a0 z0_3 z0_4 := by
  refine Eq.trans (b := (some (.a (.i .i64 (z0_3)), .none, true))) (by kernel_rfl) ?_
  rfl

theorem spec_l02Parts_n0 (N : Nat) (a0 : Int) : bindX (iterO (stepV Try.prog (mkΓ []) N (cAt (codeOf Try.f69) [1, 1, 0, 1, 0, 0]) (pAt (mkPlan (codeOf Try.f69) [([3, 4], [])]).1 [1, 1, 0, 1, 0]) [3, 4] [] (⟨.a (.i .i64 (a0)) :: .a (.u) :: .a (.i .i64 (0 : Int)) :: .a (.i .i64 (1 : Int)) :: .a (.i .i64 (0 : Int)) :: us 8 ([]), [], []⟩ : St)) N ([.a (.i .i64 (1 : Int)), .a (.i .i64 (0 : Int))], [])) (fun e s => (kBlock 0 (kSeq (veC Try.prog (mkΓ []) N (cAt (codeOf Try.f69) [1, 1, 1]) (pAt (mkPlan (codeOf Try.f69) [([3, 4], [])]).1 [1, 1, 1]) (SV × Eff × Bool)) (finK Try.prog [] [.tmp 2]))) e (left (writes (cAt (codeOf Try.f69) [1, 1, 0, 1, 0, 0])) [3, 4] [] (⟨.a (.i .i64 (a0)) :: .a (.u) :: .a (.i .i64 (0 : Int)) :: .a (.i .i64 (1 : Int)) :: .a (.i .i64 (0 : Int)) :: us 8 ([]), [], []⟩ : St) s)) = nodeX (iterO (spec_l02Parts_g0 Try.prog a0) N ((1 : Int), (0 : Int))) (fun x => spec_l02Parts_k0_0 Try.prog N a0 x.1 x.2) := by
  refine loop_node spec_l02Parts_e0 spec_l02Parts_x0 _ _ (spec_l02Parts_s0 N a0) N ((1 : Int), (0 : Int)) _ _ ?_
  intro x; exact spec_l02Parts_k0_0_eq N a0 x.1 x.2

theorem spec_l02Parts_ans (N : Nat) (a0 : Int) : ansV Try.prog (mkΓ []) N Try.f69 [([3, 4], [])] [.i .i64 (a0)] [] = (nodeX (iterO (spec_l02Parts_g0 Try.prog a0) N ((1 : Int), (0 : Int))) (fun x => spec_l02Parts_k0_0 Try.prog N a0 x.1 x.2)) := by
  refine Eq.trans (b := (bindX (iterO (stepV Try.prog (mkΓ []) N (cAt (codeOf Try.f69) [1, 1, 0, 1, 0, 0]) (pAt (mkPlan (codeOf Try.f69) [([3, 4], [])]).1 [1, 1, 0, 1, 0]) [3, 4] [] (⟨.a (.i .i64 (a0)) :: .a (.u) :: .a (.i .i64 (0 : Int)) :: .a (.i .i64 (1 : Int)) :: .a (.i .i64 (0 : Int)) :: us 8 ([]), [], []⟩ : St)) N ([.a (.i .i64 (1 : Int)), .a (.i .i64 (0 : Int))], [])) (fun e s => (kBlock 0 (kSeq (veC Try.prog (mkΓ []) N (cAt (codeOf Try.f69) [1, 1, 1]) (pAt (mkPlan (codeOf Try.f69) [([3, 4], [])]).1 [1, 1, 1]) (SV × Eff × Bool)) (finK Try.prog [] [.tmp 2]))) e (left (writes (cAt (codeOf Try.f69) [1, 1, 0, 1, 0, 0])) [3, 4] [] (⟨.a (.i .i64 (a0)) :: .a (.u) :: .a (.i .i64 (0 : Int)) :: .a (.i .i64 (1 : Int)) :: .a (.i .i64 (0 : Int)) :: us 8 ([]), [], []⟩ : St) s)))) (by kernel_rfl) ?_
  simp only [spec_l02Parts_n0 N a0]

theorem spec_l02Parts_main (a0 : Int) (h_a0 : IntKind.i64.min ≤ a0 ∧ a0 ≤ IntKind.i64.max) (hg : ((decide (0 ≤ a0) && decide (a0 ≤ 14))) = true) : ansV Try.prog (mkΓ []) 1000 Try.f69 [([3, 4], [])] [.i .i64 (a0)] [] = some (.a (.i .i64 (12 ^ a0.toNat)), .none, true) := by
  simp only [Bool.and_eq_true, decide_eq_true_eq] at hg
  obtain ⟨h0, h14⟩ := hg
  obtain ⟨m, rfl⟩ := Int.eq_ofNat_of_zero_le h0
  refine (spec_l02Parts_ans 1000 _).trans ?_
  have h := iter_all (g := spec_l02Parts_g0 Try.prog (m : Int)) (fun k => ((12 : Int) ^ k, (k : Int))) (m := m) (x := ((12 : Int) ^ m, (m : Int))) (N := 1000) (fun k hk => by
    have h1 : decide ((k : Int) < (m : Int)) = true := decide_eq_true (by omega)
    have h2 : IntKind.i64.wrap ((k : Int) + 1) = ((k + 1 : Nat) : Int) := by rw [IntWalk.i64_in _ (by omega)]; omega
    simp only [spec_l02Parts_g0, h1, cond_true, wrap12 k (by omega), h2]) (by
    have h1 : decide ((m : Int) < (m : Int)) = false := decide_eq_false (by omega)
    simp only [spec_l02Parts_g0, h1, cond_false]) (by omega)
  have h' : iterO (spec_l02Parts_g0 Try.prog (m : Int)) 1000 ((1 : Int), (0 : Int)) = some ((12 : Int) ^ m, (m : Int)) := h
  rw [h']
  rfl
noncomputable def spec_l02Parts_con : Con := fun args h => match args, h with
  | [.i .i64 a0], [] => some (.a (.i .i64 (12 ^ a0.toNat)), .none, (decide (0 ≤ a0) && decide (a0 ≤ 14)))
  | _, _ => none
theorem spec_l02Parts_enter : ∀ args w, (callFunc 69 args).run Try.prog w = .ok (.enter 69 args) w := enter_ok (fn := Try.f69) (by kernel_rfl) (by kernel_rfl) (by kernel_rfl)
theorem spec_l02Parts_ok : ConOk Try.prog 69 spec_l02Parts_con := (ans_ok (N := 1000) (by kernel_rfl) mkΓ_nil (fn := Try.f69) (by kernel_rfl) (by kernel_rfl) [([3, 4], [])]).of (by
  intro ρ h w args vals r e hA hH hr
  unfold spec_l02Parts_con at hr
  split at hr
  · rename_i a0
    obtain ⟨rfl, hg⟩ := Prod.mk.inj (Option.some.inj hr)
    obtain ⟨rfl, hg2⟩ := Prod.mk.inj hg
    exact spec_l02Parts_main a0 (hA.rng 0 rfl) hg2
  · cases hr)

noncomputable def impl_partsAfter_e0 : Int × Int → LS
  | (y0_3, y0_5) => ([.a (.i .i64 (y0_3)), .a (.i .i64 (y0_5))], [])

noncomputable def impl_partsAfter_x0 : Int × Int → Exit × LS
  | t => ((.exit 0), impl_partsAfter_e0 t)

noncomputable def impl_partsAfter_g0 (P : Program) (a0 : Int) : Int × Int → Option (Stp (Int × Int) (Int × Int))
  | (y0_3, y0_5) => bif decide (y0_5 < a0) then (some (.more ((IntKind.i64.wrap (y0_3 * (12 : Int))), (IntKind.i64.wrap (y0_5 + (1 : Int))))))
    else (some (.done (y0_3, y0_5)))

theorem impl_partsAfter_s0 (N : Nat) (a0 : Int) : ∀ t : Int × Int, stepV Try.prog (mkΓ []) N (cAt (codeOf Try.f102) [1, 1, 0, 1, 0, 0]) (pAt (mkPlan (codeOf Try.f102) [([3, 5], [])]).1 [1, 1, 0, 1, 0]) [3, 5] [] (⟨.a (.i .i64 (a0)) :: .a (.u) :: .a (.i .i64 (0 : Int)) :: .a (.i .i64 (1 : Int)) :: .a (.i .i64 (a0)) :: .a (.i .i64 (0 : Int)) :: us 5 ([]), [], []⟩ : St) (impl_partsAfter_e0 t) = mapS impl_partsAfter_e0 impl_partsAfter_x0 (impl_partsAfter_g0 Try.prog a0 t) := by
  rintro ⟨y0_3, y0_5⟩
  refine Eq.trans (b := (bif decide (y0_5 < a0) then (some (.more ([.a (.i .i64 (IntKind.i64.wrap (y0_3 * (12 : Int)))), .a (.i .i64 (IntKind.i64.wrap (y0_5 + (1 : Int))))], [])))
    else (some (.done ((.exit 0), ([.a (.i .i64 (y0_3)), .a (.i .i64 (y0_5))], [])))))) (by kernel_rfl) ?_
  simp only [impl_partsAfter_g0, mapS_cond, mapS_more, mapS_done, mapS_none, impl_partsAfter_e0, impl_partsAfter_x0]

noncomputable def impl_partsAfter_k0_0 (P : Program) (N : Nat) (a0 : Int) (z0_3 : Int) (z0_5 : Int) : Option (SV × Eff × Bool) := some (.a (.i .i64 (z0_3)), .none, true)

theorem impl_partsAfter_k0_0_eq (N : Nat) (a0 : Int) (z0_3 : Int) (z0_5 : Int) : (kBlock 0 (kSeq (veC Try.prog (mkΓ []) N (cAt (codeOf Try.f102) [1, 1, 1]) (pAt (mkPlan (codeOf Try.f102) [([3, 5], [])]).1 [1, 1, 1]) (SV × Eff × Bool)) (finK Try.prog [] [.tmp 2]))) (.exit 0) (left (writes (cAt (codeOf Try.f102) [1, 1, 0, 1, 0, 0])) [3, 5] [] (⟨.a (.i .i64 (a0)) :: .a (.u) :: .a (.i .i64 (0 : Int)) :: .a (.i .i64 (1 : Int)) :: .a (.i .i64 (a0)) :: .a (.i .i64 (0 : Int)) :: us 5 ([]), [], []⟩ : St) ([.a (.i .i64 (z0_3)), .a (.i .i64 (z0_5))], [])) = impl_partsAfter_k0_0 Try.prog N a0 z0_3 z0_5 := by
  refine Eq.trans (b := (some (.a (.i .i64 (z0_3)), .none, true))) (by kernel_rfl) ?_
  rfl

theorem impl_partsAfter_n0 (N : Nat) (a0 : Int) : bindX (iterO (stepV Try.prog (mkΓ []) N (cAt (codeOf Try.f102) [1, 1, 0, 1, 0, 0]) (pAt (mkPlan (codeOf Try.f102) [([3, 5], [])]).1 [1, 1, 0, 1, 0]) [3, 5] [] (⟨.a (.i .i64 (a0)) :: .a (.u) :: .a (.i .i64 (0 : Int)) :: .a (.i .i64 (1 : Int)) :: .a (.i .i64 (a0)) :: .a (.i .i64 (0 : Int)) :: us 5 ([]), [], []⟩ : St)) N ([.a (.i .i64 (1 : Int)), .a (.i .i64 (0 : Int))], [])) (fun e s => (kBlock 0 (kSeq (veC Try.prog (mkΓ []) N (cAt (codeOf Try.f102) [1, 1, 1]) (pAt (mkPlan (codeOf Try.f102) [([3, 5], [])]).1 [1, 1, 1]) (SV × Eff × Bool)) (finK Try.prog [] [.tmp 2]))) e (left (writes (cAt (codeOf Try.f102) [1, 1, 0, 1, 0, 0])) [3, 5] [] (⟨.a (.i .i64 (a0)) :: .a (.u) :: .a (.i .i64 (0 : Int)) :: .a (.i .i64 (1 : Int)) :: .a (.i .i64 (a0)) :: .a (.i .i64 (0 : Int)) :: us 5 ([]), [], []⟩ : St) s)) = nodeX (iterO (impl_partsAfter_g0 Try.prog a0) N ((1 : Int), (0 : Int))) (fun x => impl_partsAfter_k0_0 Try.prog N a0 x.1 x.2) := by
  refine loop_node impl_partsAfter_e0 impl_partsAfter_x0 _ _ (impl_partsAfter_s0 N a0) N ((1 : Int), (0 : Int)) _ _ ?_
  intro x; exact impl_partsAfter_k0_0_eq N a0 x.1 x.2

theorem impl_partsAfter_ans (N : Nat) (a0 : Int) : ansV Try.prog (mkΓ []) N Try.f102 [([3, 5], [])] [.i .i64 (a0)] [] = (nodeX (iterO (impl_partsAfter_g0 Try.prog a0) N ((1 : Int), (0 : Int))) (fun x => impl_partsAfter_k0_0 Try.prog N a0 x.1 x.2)) := by
  refine Eq.trans (b := (bindX (iterO (stepV Try.prog (mkΓ []) N (cAt (codeOf Try.f102) [1, 1, 0, 1, 0, 0]) (pAt (mkPlan (codeOf Try.f102) [([3, 5], [])]).1 [1, 1, 0, 1, 0]) [3, 5] [] (⟨.a (.i .i64 (a0)) :: .a (.u) :: .a (.i .i64 (0 : Int)) :: .a (.i .i64 (1 : Int)) :: .a (.i .i64 (a0)) :: .a (.i .i64 (0 : Int)) :: us 5 ([]), [], []⟩ : St)) N ([.a (.i .i64 (1 : Int)), .a (.i .i64 (0 : Int))], [])) (fun e s => (kBlock 0 (kSeq (veC Try.prog (mkΓ []) N (cAt (codeOf Try.f102) [1, 1, 1]) (pAt (mkPlan (codeOf Try.f102) [([3, 5], [])]).1 [1, 1, 1]) (SV × Eff × Bool)) (finK Try.prog [] [.tmp 2]))) e (left (writes (cAt (codeOf Try.f102) [1, 1, 0, 1, 0, 0])) [3, 5] [] (⟨.a (.i .i64 (a0)) :: .a (.u) :: .a (.i .i64 (0 : Int)) :: .a (.i .i64 (1 : Int)) :: .a (.i .i64 (a0)) :: .a (.i .i64 (0 : Int)) :: us 5 ([]), [], []⟩ : St) s)))) (by kernel_rfl) ?_
  simp only [impl_partsAfter_n0 N a0]

theorem impl_partsAfter_main (a0 : Int) (h_a0 : IntKind.i64.min ≤ a0 ∧ a0 ≤ IntKind.i64.max) (hg : ((decide (0 ≤ a0) && decide (a0 ≤ 14))) = true) : ansV Try.prog (mkΓ []) 1000 Try.f102 [([3, 5], [])] [.i .i64 (a0)] [] = some (.a (.i .i64 (12 ^ a0.toNat)), .none, true) := by
  simp only [Bool.and_eq_true, decide_eq_true_eq] at hg
  obtain ⟨h0, h14⟩ := hg
  obtain ⟨m, rfl⟩ := Int.eq_ofNat_of_zero_le h0
  refine (impl_partsAfter_ans 1000 _).trans ?_
  have h := iter_all (g := impl_partsAfter_g0 Try.prog (m : Int)) (fun k => ((12 : Int) ^ k, (k : Int))) (m := m) (x := ((12 : Int) ^ m, (m : Int))) (N := 1000) (fun k hk => by
    have h1 : decide ((k : Int) < (m : Int)) = true := decide_eq_true (by omega)
    have h2 : IntKind.i64.wrap ((k : Int) + 1) = ((k + 1 : Nat) : Int) := by rw [IntWalk.i64_in _ (by omega)]; omega
    simp only [impl_partsAfter_g0, h1, cond_true, wrap12 k (by omega), h2]) (by
    have h1 : decide ((m : Int) < (m : Int)) = false := decide_eq_false (by omega)
    simp only [impl_partsAfter_g0, h1, cond_false]) (by omega)
  have h' : iterO (impl_partsAfter_g0 Try.prog (m : Int)) 1000 ((1 : Int), (0 : Int)) = some ((12 : Int) ^ m, (m : Int)) := h
  rw [h']
  rfl
noncomputable def impl_partsAfter_con : Con := fun args h => match args, h with
  | [.i .i64 a0], [] => some (.a (.i .i64 (12 ^ a0.toNat)), .none, (decide (0 ≤ a0) && decide (a0 ≤ 14)))
  | _, _ => none
theorem impl_partsAfter_enter : ∀ args w, (callFunc 102 args).run Try.prog w = .ok (.enter 102 args) w := enter_ok (fn := Try.f102) (by kernel_rfl) (by kernel_rfl) (by kernel_rfl)
theorem impl_partsAfter_ok : ConOk Try.prog 102 impl_partsAfter_con := (ans_ok (N := 1000) (by kernel_rfl) mkΓ_nil (fn := Try.f102) (by kernel_rfl) (by kernel_rfl) [([3, 5], [])]).of (by
  intro ρ h w args vals r e hA hH hr
  unfold impl_partsAfter_con at hr
  split at hr
  · rename_i a0
    obtain ⟨rfl, hg⟩ := Prod.mk.inj (Option.some.inj hr)
    obtain ⟨rfl, hg2⟩ := Prod.mk.inj hg
    exact impl_partsAfter_main a0 (hA.rng 0 rfl) hg2
  · cases hr)

theorem tide_eq (t : Int) : impl_hasTide_v0 t = spec_l00In_v0 t 0 1 := by
  unfold impl_hasTide_v0 spec_l00In_v0
  by_cases h0 : t = 0
  · subst h0; rfl
  · by_cases h1 : t = 1
    · subst h1; rfl
    · rw [show (t == 0) = false from beq_eq_false_iff_ne.2 h0, show (t == 1) = false from beq_eq_false_iff_ne.2 h1]
      by_cases h2 : t ≥ 0
      · rw [decide_eq_true h2, decide_eq_false (show ¬ t ≤ 1 by omega)]; rfl
      · rw [decide_eq_false h2]; rfl
theorem tide_range {t : Int} (h : spec_l00In_v0 t 0 1 = true) : 0 ≤ t ∧ t ≤ 1 := by
  unfold spec_l00In_v0 at h
  cases h0 : decide (t ≥ 0) with
  | false => rw [h0] at h; exact nomatch h
  | true => rw [h0] at h; exact ⟨of_decide_eq_true h0, of_decide_eq_true h⟩

theorem ask_bottle (S : Array Value) (c b h : Int) : impl_bottleCode_v0 S c b h = spec_l04Asked_v0 c c b h S := by
  unfold impl_bottleCode_v0 spec_l04Asked_v0 impl_spotCode_v0 impl_cellCode_v0
  rw [tide_eq, cell_is, show impl_hasHours_v0 h = spec_l00In_v0 h 0 14 from rfl]
  cases okS S <;> cases spec_l01Is_v0 c S <;> cases spec_l00In_v0 b 0 1 <;> cases spec_l00In_v0 h 0 14 <;> rfl
theorem ask_ends (S : Array Value) (c b h to : Int) : impl_endsCode_v0 S c b h to = spec_l04Asked_v0 c to b h S := by
  unfold impl_endsCode_v0
  rw [ask_bottle, cell_is]
  unfold spec_l04Asked_v0
  cases okS S <;> cases spec_l01Is_v0 c S <;> cases spec_l01Is_v0 to S <;> cases spec_l00In_v0 b 0 1 <;> cases spec_l00In_v0 h 0 14 <;> rfl
theorem ask_all {S : Array Value} {c to b h : Int} (h0 : (spec_l04Asked_v0 c to b h S == 0) = true) : okS S = true ∧ spec_l01Is_v0 c S = true ∧ spec_l01Is_v0 to S = true ∧ spec_l00In_v0 b 0 1 = true ∧ spec_l00In_v0 h 0 14 = true := by
  unfold spec_l04Asked_v0 at h0
  cases h1 : okS S
  · rw [h1] at h0; exact nomatch h0
  · cases h2 : spec_l01Is_v0 c S
    · rw [h1, h2] at h0; exact nomatch h0
    · cases h3 : spec_l01Is_v0 to S
      · rw [h1, h2, h3] at h0; exact nomatch h0
      · cases h4 : spec_l00In_v0 b 0 1
        · rw [h1, h2, h3, h4] at h0; exact nomatch h0
        · cases h5 : spec_l00In_v0 h 0 14
          · rw [h1, h2, h3, h4, h5] at h0; exact nomatch h0
          · exact ⟨rfl, rfl, rfl, rfl, rfl⟩
theorem in_range {n lo hi : Int} (h : spec_l00In_v0 n lo hi = true) : lo ≤ n ∧ n ≤ hi := by rw [in_eq] at h; exact of_decide_eq_true h
theorem ask_guard {S : Array Value} {c to b h : Int} (h0 : (spec_l04Asked_v0 c to b h S == 0) = true) : (decide (0 ≤ c) && decide (c < 36)) = true ∧ (decide (0 ≤ to) && decide (to < 36)) = true ∧ ((okS S && (decide (0 ≤ b) && decide (b < 2))) && (decide (0 ≤ h) && decide (h ≤ 14))) = true ∧ impl_boundsFor_gd S to b h = true := by
  obtain ⟨h1, h2, h3, h4, h5⟩ := ask_all h0
  have r2 := is_range h2; have r3 := is_range h3; have r4 := in_range h4; have r5 := in_range h5
  have e2 : (decide (0 ≤ c) && decide (c < 36)) = true := by rw [decide_eq_true r2.1, decide_eq_true (show c < 36 by omega)]; rfl
  have e3 : (decide (0 ≤ to) && decide (to < 36)) = true := by rw [decide_eq_true r3.1, decide_eq_true (show to < 36 by omega)]; rfl
  have e4 : ((okS S && (decide (0 ≤ b) && decide (b < 2))) && (decide (0 ≤ h) && decide (h ≤ 14))) = true := by rw [h1, decide_eq_true r4.1, decide_eq_true (show b < 2 by omega), decide_eq_true r5.1, decide_eq_true r5.2]; rfl
  refine ⟨e2, e3, e4, ?_⟩
  unfold impl_boundsFor_gd
  rw [e3, e4]; rfl
theorem ne_of {x : Int} (h : (x == 0) = true) : (x != 0) = false := by unfold bne; rw [h]; rfl
theorem ne_of' {x : Int} (h : (x == 0) = false) : (x != 0) = true := by unfold bne; rw [h]; rfl

theorem impl_Bounds_hours_ans (N : Nat) (b_a0 : Option (Option Addr)) (n_a0 : Nat) (a0 : Array Value) : ansV Try.prog (mkΓ []) N Try.f88 [] [.l 0] [.sl (.came b_a0) n_a0 a0 61] = (some (.a (.i .i64 (IntKind.i64.wrap ((n_a0 : Int) - (1 : Int)))), .none, true)) := by kernel_rfl



theorem impl_Bounds_hours_main (b_a0 : Option (Option Addr)) (n_a0 : Nat) (a0 : Array Value) (h_a0 : a0.size = n_a0 * (lay Try.prog 61).length ∧ (∀ k, k < n_a0 → WT Try.prog 61 (a0.extract (k * (lay Try.prog 61).length) (k * (lay Try.prog 61).length + (lay Try.prog 61).length))) ∧ n_a0 ≤ 9223372036854775807) (hg : (true) = true) : ansV Try.prog (mkΓ []) 1000 Try.f88 [] [.l 0] [.sl (.came b_a0) n_a0 a0 61] = some (.a (.i .i64 (IntKind.i64.wrap ((n_a0 : Int) - (1 : Int)))), .none, true) := by
  refine (impl_Bounds_hours_ans 1000 b_a0 n_a0 a0).trans ?_
  rfl
noncomputable def impl_Bounds_hours_con : Con := fun args h => match args, h with
  | [.l 0], [.sl (.came b_a0) n_a0 a0 61] => some (.a (.i .i64 (IntKind.i64.wrap ((n_a0 : Int) - (1 : Int)))), .none, true)
  | _, _ => none
theorem impl_Bounds_hours_enter : ∀ args w, (callFunc 88 args).run Try.prog w = .ok (.enter 88 args) w := enter_ok (fn := Try.f88) (by kernel_rfl) (by kernel_rfl) (by kernel_rfl)
theorem impl_Bounds_hours_ok : ConOk Try.prog 88 impl_Bounds_hours_con := (ans_ok (N := 1000) (by kernel_rfl) mkΓ_nil (fn := Try.f88) (by kernel_rfl) (by kernel_rfl) []).of (by
  intro ρ h w args vals r e hA hH hr
  unfold impl_Bounds_hours_con at hr
  split at hr
  · rename_i b_a0 n_a0 a0
    obtain ⟨rfl, hg⟩ := Prod.mk.inj (Option.some.inj hr)
    obtain ⟨rfl, hg2⟩ := Prod.mk.inj hg
    exact impl_Bounds_hours_main b_a0 n_a0 a0 (hH.slw 0 rfl) hg2
  · cases hr)

theorem impl_Bounds_from_ans (N : Nat) (a1 : Int) (b_a0 : Option (Option Addr)) (n_a0 : Nat) (a0 : Array Value) : ansV Try.prog (mkΓ [(88, con impl_Bounds_hours_con)]) N Try.f62 [] [.l 0, .i .i64 (a1)] [.sl (.came b_a0) n_a0 a0 61] = (bif (decide (0 ≤ (IntKind.i64.wrap ((n_a0 : Int) - (1 : Int)))) && decide ((IntKind.i64.wrap ((n_a0 : Int) - (1 : Int))) < (n_a0 : Int))) then (bif (decide (0 ≤ a1) && decide (a1 < 36)) then (some (.a (.i .i64 (num a0 (((IntKind.i64.wrap ((n_a0 : Int) - (1 : Int))).toNat * 36) + ((a1).toNat * 1)))), .none, true))
      else (none))
    else (none)) := by kernel_rfl

noncomputable def impl_Bounds_from_v0 (a1 : Int) (b_a0 : Option (Option Addr)) (n_a0 : Nat) (a0 : Array Value) : Int := (num a0 (((IntKind.i64.wrap ((n_a0 : Int) - (1 : Int))).toNat * 36) + ((a1).toNat * 1)))
noncomputable def impl_Bounds_from_gd (a1 : Int) (b_a0 : Option (Option Addr)) (n_a0 : Nat) (a0 : Array Value) : Bool := (bif (decide (0 ≤ (IntKind.i64.wrap ((n_a0 : Int) - (1 : Int)))) && decide ((IntKind.i64.wrap ((n_a0 : Int) - (1 : Int))) < (n_a0 : Int))) then (decide (0 ≤ a1) && decide (a1 < 36)) else false)

theorem impl_Bounds_from_main (a1 : Int) (b_a0 : Option (Option Addr)) (n_a0 : Nat) (a0 : Array Value) (h_a1 : IntKind.i64.min ≤ a1 ∧ a1 ≤ IntKind.i64.max) (h_a0 : a0.size = n_a0 * (lay Try.prog 61).length ∧ (∀ k, k < n_a0 → WT Try.prog 61 (a0.extract (k * (lay Try.prog 61).length) (k * (lay Try.prog 61).length + (lay Try.prog 61).length))) ∧ n_a0 ≤ 9223372036854775807) (hg : ((impl_Bounds_from_gd a1 b_a0 n_a0 a0)) = true) : ansV Try.prog (mkΓ [(88, con impl_Bounds_hours_con)]) 1000 Try.f62 [] [.l 0, .i .i64 (a1)] [.sl (.came b_a0) n_a0 a0 61] = some (.a (.i .i64 (impl_Bounds_from_v0 a1 b_a0 n_a0 a0)), .none, true) := by
  refine (impl_Bounds_from_ans 1000 a1 b_a0 n_a0 a0).trans ?_
  unfold impl_Bounds_from_gd at hg
  unfold impl_Bounds_from_v0
  revert hg
  generalize (decide (0 ≤ (IntKind.i64.wrap ((n_a0 : Int) - (1 : Int))))) = b2
  intro hg
  cases b2
  · skip
    first | exact (nomatch (hg : false = true)) | (simp only [cond_true, cond_false, Bool.and_true, Bool.true_and, Bool.and_false, Bool.false_and]; done) | rfl
  · skip
    revert hg
    generalize (decide ((IntKind.i64.wrap ((n_a0 : Int) - (1 : Int))) < (n_a0 : Int))) = b4
    intro hg
    cases b4
    · skip
      first | exact (nomatch (hg : false = true)) | (simp only [cond_true, cond_false, Bool.and_true, Bool.true_and, Bool.and_false, Bool.false_and]; done) | rfl
    · skip
      revert hg
      generalize (decide (0 ≤ a1)) = b6
      intro hg
      cases b6
      · skip
        first | exact (nomatch (hg : false = true)) | (simp only [cond_true, cond_false, Bool.and_true, Bool.true_and, Bool.and_false, Bool.false_and]; done) | rfl
      · skip
        revert hg
        generalize (decide (a1 < 36)) = b8
        intro hg
        cases b8
        · skip
          first | exact (nomatch (hg : false = true)) | (simp only [cond_true, cond_false, Bool.and_true, Bool.true_and, Bool.and_false, Bool.false_and]; done) | rfl
        · skip
          first | (simp only [cond_true, cond_false, Bool.and_true, Bool.true_and, Bool.and_false, Bool.false_and]; done) | rfl | exact (nomatch (hg : false = true))
noncomputable def impl_Bounds_from_con : Con := fun args h => match args, h with
  | [.l 0, .i .i64 a1], [.sl (.came b_a0) n_a0 a0 61] => some (.a (.i .i64 (impl_Bounds_from_v0 a1 b_a0 n_a0 a0)), .none, (impl_Bounds_from_gd a1 b_a0 n_a0 a0))
  | _, _ => none
theorem impl_Bounds_from_enter : ∀ args w, (callFunc 62 args).run Try.prog w = .ok (.enter 62 args) w := enter_ok (fn := Try.f62) (by kernel_rfl) (by kernel_rfl) (by kernel_rfl)
theorem impl_Bounds_from_ok : ConOk Try.prog 62 impl_Bounds_from_con := (ans_ok (N := 1000) (by kernel_rfl) (mkΓ_cons (con_ok impl_Bounds_hours_ok) impl_Bounds_hours_enter mkΓ_nil) (fn := Try.f62) (by kernel_rfl) (by kernel_rfl) []).of (by
  intro ρ h w args vals r e hA hH hr
  unfold impl_Bounds_from_con at hr
  split at hr
  · rename_i a1 b_a0 n_a0 a0
    obtain ⟨rfl, hg⟩ := Prod.mk.inj (Option.some.inj hr)
    obtain ⟨rfl, hg2⟩ := Prod.mk.inj hg
    exact impl_Bounds_from_main a1 b_a0 n_a0 a0 (hA.rng 1 rfl) (hH.slw 0 rfl) hg2
  · cases hr)


noncomputable def bnP (S R : Array Value) (k : Nat) : Bool := spec_l00In_v0 (num R (k * 1)) 0 (12 ^ 14) && (spec_l01Is_v0 (k : Int) S || (num R (k * 1) == 0))
noncomputable def bnB (S R : Array Value) : Bool := (List.range 36).all (bnP S R)
noncomputable def cvP (R Q : Array Value) (k : Nat) : Bool := !(decide (num R (k * 1) < num Q (k * 1)))
noncomputable def cvB (R Q : Array Value) : Bool := (List.range 36).all (cvP R Q)
theorem all36 (n : Nat) (p : Nat → Bool) : (List.range n).all p = true ↔ ∀ k, k < n → p k = true := by
  rw [List.all_eq_true]
  exact ⟨fun h k hk => h k (List.mem_range.2 hk), fun h k hk => h k (List.mem_range.1 hk)⟩
noncomputable def rowX (A : Array Value) (h : Nat) : Array Value := A.extract (h * 36) (h * 36 + 36)
noncomputable def tdX (b : Int) (n h : Nat) : Int := (IntKind.i64.wrap (b + IntKind.i64.wrap (IntKind.i64.wrap ((n : Int) - 1) - (h : Int)))).tmod 2
noncomputable def coP (P : Program) (S A : Array Value) (b : Int) (n j : Nat) : Bool := cvB (rowX A (1 + j)) (rowF P lkM S (rowX A j) (tdX b n (1 + j)))
/-- Are bounds a proof? -/
noncomputable def prB (P : Program) (S : Array Value) (to b : Int) (n : Nat) (A : Array Value) : Bool :=
  spec_l00In_v0 (n : Int) 1 15 && ((List.range n).all (fun h => bnB S (rowX A h)) && (!(decide (num A (to.toNat * 1) < 1)) && (List.range (n - 1)).all (coP P S A b n)))
theorem rowX_num (A : Array Value) (h k : Nat) (hk : k < 36) : num (rowX A h) (k * 1) = num A (h * 36 + k * 1) := by unfold rowX; exact ext_num (by omega)
theorem tdX_in {b : Int} {n h : Nat} (hb : 0 ≤ b ∧ b < 2) (hn : 1 ≤ n ∧ n ≤ 15) (hh : h < n) : (decide (0 ≤ tdX b n h) && decide (tdX b n h < 2)) = true := by
  unfold tdX
  rw [w64 (n := (n : Int) - 1) (by omega)]
  exact tide_in hb (by omega)
theorem rowF_at (V : List (Int × Int) → Array Value → Int) (S L : Array Value) (t : Int) {k : Nat} (hk : k < 36) : num (rowF Try.prog V S L t) (k * 1) = if inC (num S 0) (num S 1) k then V (stL S t k) L else 0 := by
  have h := folds_inv (f := fun r k => if inC (num S 0) (num S 1) k then r.setIfInBounds (k * 1) (.int .i64 (V (stL S t k) L)) else r) (t := zc Try.prog 61) (n := 36)
    (fun m (r : Array Value) => r.size = 36 ∧ ∀ i, i < 36 → num r i = if i < m ∧ inC (num S 0) (num S 1) i then V (stL S t i) L else 0) ⟨zc_row, fun i hi => by
      unfold num; rw [zc_at i hi]; simp⟩ (fun m s hm hs => by
      refine ⟨by split <;> simp [hs.1], fun i hi => ?_⟩
      by_cases hmi : m = i
      · subst hmi
        cases hc : inC (num S 0) (num S 1) m with
        | true =>
          simp only [if_true]
          rw [Nat.mul_one, num_set (by omega), if_pos ⟨by omega, trivial⟩]
        | false =>
          simp only [Bool.false_eq_true, if_false, and_false]
          rw [hs.2 m hi, if_neg (by omega)]
      · have hsame : num (if inC (num S 0) (num S 1) m then s.setIfInBounds (m * 1) (.int .i64 (V (stL S t m) L)) else s) i = num s i := by
          split
          · unfold num; rw [Array.getElem?_setIfInBounds, if_neg (by omega)]
          · rfl
        show num (if inC (num S 0) (num S 1) m then s.setIfInBounds (m * 1) (.int .i64 (V (stL S t m) L)) else s) i = _
        rw [hsame, hs.2 i hi]
        by_cases hi2 : i < m
        · simp [hi2, show i < m + 1 by omega]
        · simp [hi2, show ¬ i < m + 1 by omega]) 36 (Nat.le_refl _)
  unfold rowF
  rw [Nat.mul_one, h.2 k hk]
  simp [hk]
theorem mx_le (S L : Array Value) (t : Int) (k : Nat) (b : Int) : ∀ (l : List Nat) (c : Int), l.foldl (mxS S L t k) c ≤ b ↔ c ≤ b ∧ ∀ j ∈ l, IntKind.i64.wrap (stepX S (k : Int) (j : Int) t * laterOf L (j : Int)) ≤ b
  | [], c => by simp
  | j :: l, c => by
    rw [List.foldl_cons, mx_le S L t k b l]
    simp only [List.mem_cons, forall_eq_or_imp]
    rw [← and_assoc]
    refine and_congr ?_ Iff.rfl
    unfold mxS spec_l00Max_v0
    by_cases h : c > IntKind.i64.wrap (stepX S (k : Int) (j : Int) t * laterOf L (j : Int))
    · rw [decide_eq_true h]; simp only [cond_true]; constructor
      · intro h2; exact ⟨h2, by omega⟩
      · intro h2; exact h2.1
    · rw [decide_eq_false h]; simp only [cond_false]; constructor
      · intro h2; exact ⟨by omega, h2⟩
      · intro h2; exact h2.2
/-- What is asked of a cell's bound, and of the least one. -/
theorem cv_cell {S : Array Value} (hS : WT Try.prog 36 S) (h0 : 1 ≤ num S 0 ∧ num S 0 ≤ 6 ∧ 1 ≤ num S 1 ∧ num S 1 ≤ 6) {R : Array Value} (L : Array Value) (t : Int) (hR : bnB S R = true) {k : Nat} (hk : k < 36) :
    cvP R (rowF Try.prog lkM S L t) k = (!(inC (num S 0) (num S 1) k) || (List.range (nxL S (k : Int) t).length).all fun i => !(decide (num R (k * 1) < IntKind.i64.wrap (stepX S (k : Int) (((nxL S (k : Int) t).getD i 0 : Nat) : Int) t * laterOf L (((nxL S (k : Int) t).getD i 0 : Nat) : Int))))) := by
  have hb := (all36 36 _).1 hR k hk
  unfold bnP at hb
  rw [Bool.and_eq_true, in_eq] at hb
  have hb0 := of_decide_eq_true hb.1
  unfold cvP
  rw [rowF_at lkM S L t hk]
  cases hi : inC (num S 0) (num S 1) k with
  | false =>
    simp only [Bool.false_eq_true, if_false, Bool.not_false, Bool.true_or]
    rw [decide_eq_false (by omega)]; rfl
  | true =>
    simp only [if_true, Bool.not_true, Bool.false_or]
    rw [← val_mx hS h0 hk hi t L]
    rw [Bool.eq_iff_iff, all36, Bool.not_eq_true', decide_eq_false_iff_not]
    have := mx_le S L t k (num R (k * 1)) (nxL S (k : Int) t) 0
    constructor
    · intro h i hi'
      have h2 := (this.1 (by omega)).2 ((nxL S (k : Int) t)[i]) (List.getElem_mem hi')
      rw [Bool.not_eq_true', decide_eq_false_iff_not, List.getD_eq_getElem?_getD, List.getElem?_eq_getElem hi']
      simp only [Option.getD_some]
      omega
    · intro h
      have := this.2 ⟨hb0.1, fun j hj => by
        obtain ⟨i, hi', rfl⟩ := List.getElem_of_mem hj
        have h2 := h i hi'
        rw [Bool.not_eq_true', decide_eq_false_iff_not, List.getD_eq_getElem?_getD, List.getElem?_eq_getElem hi'] at h2
        simp only [Option.getD_some] at h2
        omega⟩
      omega

end
end Go.Proofs.Ytmkkckhfghomfaa
