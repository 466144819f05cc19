/- A row of numbers, made of the later one. -/
import Derived.Test.YtmkkckhfghomfaaProg
import Derived.Test.YtmkkckhfghomfaaVeStC
namespace Go.Proofs.Ytmkkckhfghomfaa
open Go.ChangeShapes Go.WideShapes Go.ChangeAt Go.RowKit Ve
set_option linter.unusedVariables false
set_option linter.unusedSimpArgs false
set_option maxRecDepth 100000
noncomputable section
theorem impl_tideIn_ans (N : Nat) (a0 : Int) (a1 : Int) : ansV Try.prog (mkΓ []) N Try.f80 [] [.i .i64 (a0), .i .i64 (a1)] [] = (some (.a (.i .i64 (((IntKind.i64.wrap (a0 + a1))).tmod (2 : Int))), .none, true)) := by kernel_rfl



theorem impl_tideIn_main (a0 : Int) (a1 : Int) (h_a0 : IntKind.i64.min ≤ a0 ∧ a0 ≤ IntKind.i64.max) (h_a1 : IntKind.i64.min ≤ a1 ∧ a1 ≤ IntKind.i64.max) (hg : (true) = true) : ansV Try.prog (mkΓ []) 1000 Try.f80 [] [.i .i64 (a0), .i .i64 (a1)] [] = some (.a (.i .i64 (((IntKind.i64.wrap (a0 + a1))).tmod (2 : Int))), .none, true) := by
  refine (impl_tideIn_ans 1000 a0 a1).trans ?_
  rfl
noncomputable def impl_tideIn_con : Con := fun args h => match args, h with
  | [.i .i64 a0, .i .i64 a1], [] => some (.a (.i .i64 (((IntKind.i64.wrap (a0 + a1))).tmod (2 : Int))), .none, true)
  | _, _ => none
theorem impl_tideIn_enter : ∀ args w, (callFunc 80 args).run Try.prog w = .ok (.enter 80 args) w := enter_ok (fn := Try.f80) (by kernel_rfl) (by kernel_rfl) (by kernel_rfl)
theorem impl_tideIn_ok : ConOk Try.prog 80 impl_tideIn_con := (ans_ok (N := 1000) (by kernel_rfl) mkΓ_nil (fn := Try.f80) (by kernel_rfl) (by kernel_rfl) []).of (by
  intro ρ h w args vals r e hA hH hr
  unfold impl_tideIn_con at hr
  split at hr
  · rename_i a0 a1
    obtain ⟨rfl, hg⟩ := Prod.mk.inj (Option.some.inj hr)
    obtain ⟨rfl, hg2⟩ := Prod.mk.inj hg
    exact impl_tideIn_main a0 a1 (hA.rng 0 rfl) (hA.rng 1 rfl) hg2
  · cases hr)


theorem gw_range {S : Array Value} (h0 : 1 ≤ num S 0 ∧ num S 0 ≤ 6 ∧ 1 ≤ num S 1 ∧ num S 1 ≤ 6) {k : Nat} (hk : k < 36) (hi : inC (num S 0) (num S 1) k = true) (w : Nat) (hw : w < 5) (hn : gw S k w ≠ -1) : 0 ≤ gw S k w ∧ gw S k w < 36 := by
  obtain ⟨hx, hy⟩ := inC_lt hi
  obtain ⟨a1, a2, a3, a4⟩ := h0
  have hk6 : k = 6 * (k / 6) + k % 6 := by omega
  match w, hw with
  | 0, _ => exact ⟨by show 0 ≤ (k : Int); omega, by show (k : Int) < 36; omega⟩
  | 1, _ =>
    unfold gw at hn ⊢
    by_cases c : 6 ≤ k
    · simp only [c, decide_true, cond_true]; omega
    · simp [c] at hn
  | 2, _ =>
    unfold gw at hn ⊢
    by_cases c : ((k % 6 : Nat) : Int) + 1 < num S 0
    · simp only [decide_eq_true c, cond_true]; omega
    · simp only [decide_eq_false c, cond_false] at hn; exact absurd rfl hn
  | 3, _ =>
    unfold gw at hn ⊢
    by_cases c : ((k / 6 : Nat) : Int) + 1 < num S 1
    · simp only [decide_eq_true c, cond_true]; omega
    · simp only [decide_eq_false c, cond_false] at hn; exact absurd rfl hn
  | 4, _ =>
    unfold gw at hn ⊢
    by_cases c : 1 ≤ k % 6
    · simp only [c, decide_true, cond_true]; omega
    · simp [c] at hn
theorem oneSt_range {S : Array Value} (h0 : 1 ≤ num S 0 ∧ num S 0 ≤ 6 ∧ 1 ≤ num S 1 ∧ num S 1 ≤ 6) {k : Nat} (hk : k < 36) (hi : inC (num S 0) (num S 1) k = true) (t : Int) (w : Nat) (hw : w < 5) : ∀ p ∈ oneSt S t k w, 0 ≤ p.1 ∧ p.1 < 36 := by
  intro p hp
  unfold oneSt at hp
  cases hc : decide (chW S t (k : Int) w > 0) && decide (gw S k w ≠ -1) with
  | false => rw [hc] at hp; simp at hp
  | true =>
    rw [hc] at hp
    simp only [cond_true, List.mem_singleton] at hp
    subst hp
    rw [Bool.and_eq_true] at hc
    exact gw_range h0 hk hi w hw (of_decide_eq_true hc.2)
theorem stL_range {S : Array Value} (h0 : 1 ≤ num S 0 ∧ num S 0 ≤ 6 ∧ 1 ≤ num S 1 ∧ num S 1 ≤ 6) {k : Nat} (hk : k < 36) (hi : inC (num S 0) (num S 1) k = true) (t : Int) : ∀ p ∈ stL S t k, 0 ≤ p.1 ∧ p.1 < 36 := by
  intro p hp
  unfold stL at hp
  cases hl : impl_isLand_v0 S (k : Int) with
  | true =>
    rw [hl] at hp
    simp only [cond_true, List.mem_singleton] at hp
    subst hp
    exact ⟨by show 0 ≤ (k : Int); omega, by show (k : Int) < 36; omega⟩
  | false =>
    rw [hl] at hp
    simp only [cond_false, List.mem_append] at hp
    rcases hp with (((hp | hp) | hp) | hp) | hp
    · exact oneSt_range h0 hk hi t 1 (by omega) p hp
    · exact oneSt_range h0 hk hi t 4 (by omega) p hp
    · exact oneSt_range h0 hk hi t 0 (by omega) p hp
    · exact oneSt_range h0 hk hi t 2 (by omega) p hp
    · exact oneSt_range h0 hk hi t 3 (by omega) p hp
/-- The numbers of all cells, made of those that they have an hour later. -/
noncomputable def rowF (P : Program) (V : List (Int × Int) → Array Value → Int) (S L : Array Value) (t : Int) : Array Value := folds (fun r k => if inC (num S 0) (num S 1) k then r.setIfInBounds (k * 1) (.int .i64 (V (stL S t k) L)) else r) (zc P 61) 36

noncomputable def sum_impl_rowBack_e0 : Array Value → BS
  | r0_5 => ([.row r0_5 61] : BS)

noncomputable def sum_impl_rowBack_x0 : Empty → Exit × BS := fun x => nomatch x

noncomputable def sum_impl_rowBack_g0 (P : Program) (a0 : Array Value) (a1 : Array Value) (a2 : Int) (x0 : Int) : Array Value → Option (Stp (Array Value) Empty)
  | r0_5 => bif (okS a0 && (spec_l01Is_v0 x0 a0 && (decide (0 ≤ a2) && decide (a2 < 2)))) then (bif (okSt ((stL a0 a2 x0.toNat).length) (encSt (stL a0 a2 x0.toNat))) then (bif (decide (0 ≤ x0) && decide (x0 < 36)) then (some (.more (r0_5.setIfInBounds ((x0).toNat * 1) (.int .i64 (sumL (rdSt ((stL a0 a2 x0.toNat).length) (encSt (stL a0 a2 x0.toNat))) a1)))))
        else (none))
      else (none))
    else (none)

theorem sum_impl_rowBack_s0 (N : Nat) (a0 : Array Value) (a1 : Array Value) (a2 : Int) (x0 : Int) : ∀ t : Array Value, stepI Try.prog (mkΓx [(71, con impl_steps_sum_con), (79, con impl_stepsFrom_con)] [(101, impl_eachCell_nc)] [(111, impl_eachCell_1_ic)]) N (cAt (codeOf Try.f82) [1, 1, 0, 1, 0, 0]) (pAt (mkPlan (codeOf Try.f82) [([], [5])]).1 [1, 1, 0, 1, 0]) 14 [5] [13] [(10, 13)] (⟨.a (.g a0 36) :: .a (.g a1 61) :: .a (.i .i64 (a2)) :: .a (.c 71 []) :: .a (.w 0) :: .a (.w 1) :: .a (.w 2) :: .a (.w 3) :: .a (.w 4) :: .a (.w 5) :: .a (.u) :: .a (.g a0 36) :: .a (.c 111 [9, 11]) :: us 11 ([]), [.row a0 36, .row a1 61, .row #[.int .i64 (a2)] 2, .row #[.func (.func 71) #[] #[]] 107, .row (zc Try.prog 61) 61, .row (zc Try.prog 61) 61, .no, .no, .no, .row #[.int .i64 (num a0 1)] 2, .no, .row #[.int .i64 (num a0 0)] 2, .no, .no], []⟩ : St) [.i .i64 (x0)] (sum_impl_rowBack_e0 t) = mapS sum_impl_rowBack_e0 sum_impl_rowBack_x0 (sum_impl_rowBack_g0 Try.prog a0 a1 a2 x0 t) := by
  rintro r0_5
  refine Eq.trans (b := (bif (okS a0 && (spec_l01Is_v0 x0 a0 && (decide (0 ≤ a2) && decide (a2 < 2)))) then (bif (okSt ((stL a0 a2 x0.toNat).length) (encSt (stL a0 a2 x0.toNat))) then (bif (decide (0 ≤ x0) && decide (x0 < 36)) then (some (.more ([.row (r0_5.setIfInBounds ((x0).toNat * 1) (.int .i64 (sumL (rdSt ((stL a0 a2 x0.toNat).length) (encSt (stL a0 a2 x0.toNat))) a1))) 61] : BS)))
        else (none))
      else (none))
    else (none))) (by kernel_rfl) ?_
  simp only [sum_impl_rowBack_g0, mapS_cond, mapS_more, mapS_done, mapS_none, sum_impl_rowBack_e0, sum_impl_rowBack_x0]

noncomputable def sum_impl_rowBack_k0_n (P : Program) (N : Nat) (a0 : Array Value) (a1 : Array Value) (a2 : Int) (q0_5 : Array Value) : Option (SV × Eff × Bool) := some (.a (.g q0_5 61), .none, true)

theorem sum_impl_rowBack_k0_n_eq (N : Nat) (a0 : Array Value) (a1 : Array Value) (a2 : Int) (q0_5 : Array Value) : (kBlock 0 (kSeq (veC Try.prog (mkΓx [(71, con impl_steps_sum_con), (79, con impl_stepsFrom_con)] [(101, impl_eachCell_nc)] [(111, impl_eachCell_1_ic)]) N (cAt (codeOf Try.f82) [1, 1, 1]) (pAt (mkPlan (codeOf Try.f82) [([], [5])]).1 [1, 1, 1]) (SV × Eff × Bool)) (finK Try.prog [] [.cell 8 61]))) .normal (leftI [5] (⟨.a (.g a0 36) :: .a (.g a1 61) :: .a (.i .i64 (a2)) :: .a (.c 71 []) :: .a (.w 0) :: .a (.w 1) :: .a (.w 2) :: .a (.w 3) :: .a (.w 4) :: .a (.w 5) :: .a (.u) :: .a (.g a0 36) :: .a (.c 111 [9, 11]) :: us 11 ([]), [.row a0 36, .row a1 61, .row #[.int .i64 (a2)] 2, .row #[.func (.func 71) #[] #[]] 107, .row (zc Try.prog 61) 61, .row (zc Try.prog 61) 61, .no, .no, .no, .row #[.int .i64 (num a0 1)] 2, .no, .row #[.int .i64 (num a0 0)] 2, .no, .no], []⟩ : St) ([.row q0_5 61] : BS)) = sum_impl_rowBack_k0_n Try.prog N a0 a1 a2 q0_5 := by
  refine Eq.trans (b := (some (.a (.g q0_5 61), .none, true))) (by kernel_rfl) ?_
  rfl

theorem sum_impl_rowBack_n0 (N : Nat) (a0 : Array Value) (a1 : Array Value) (a2 : Int) : bindI (foldI (fun (x0 : Int) (hb : BS) => stepI Try.prog (mkΓx [(71, con impl_steps_sum_con), (79, con impl_stepsFrom_con)] [(101, impl_eachCell_nc)] [(111, impl_eachCell_1_ic)]) N (cAt (codeOf Try.f82) [1, 1, 0, 1, 0, 0]) (pAt (mkPlan (codeOf Try.f82) [([], [5])]).1 [1, 1, 0, 1, 0]) 14 [5] [13] [(10, 13)] (⟨.a (.g a0 36) :: .a (.g a1 61) :: .a (.i .i64 (a2)) :: .a (.c 71 []) :: .a (.w 0) :: .a (.w 1) :: .a (.w 2) :: .a (.w 3) :: .a (.w 4) :: .a (.w 5) :: .a (.u) :: .a (.g a0 36) :: .a (.c 111 [9, 11]) :: us 11 ([]), [.row a0 36, .row a1 61, .row #[.int .i64 (a2)] 2, .row #[.func (.func 71) #[] #[]] 107, .row (zc Try.prog 61) 61, .row (zc Try.prog 61) 61, .no, .no, .no, .row #[.int .i64 (num a0 1)] 2, .no, .row #[.int .i64 (num a0 0)] 2, .no, .no], []⟩ : St) [.i .i64 (x0)] hb) (cellsL (num a0 0) (num a0 1) 36) ([.row (zc Try.prog 61) 61] : BS)) (fun hb => (kBlock 0 (kSeq (veC Try.prog (mkΓx [(71, con impl_steps_sum_con), (79, con impl_stepsFrom_con)] [(101, impl_eachCell_nc)] [(111, impl_eachCell_1_ic)]) N (cAt (codeOf Try.f82) [1, 1, 1]) (pAt (mkPlan (codeOf Try.f82) [([], [5])]).1 [1, 1, 1]) (SV × Eff × Bool)) (finK Try.prog [] [.cell 8 61]))) .normal (leftI [5] (⟨.a (.g a0 36) :: .a (.g a1 61) :: .a (.i .i64 (a2)) :: .a (.c 71 []) :: .a (.w 0) :: .a (.w 1) :: .a (.w 2) :: .a (.w 3) :: .a (.w 4) :: .a (.w 5) :: .a (.u) :: .a (.g a0 36) :: .a (.c 111 [9, 11]) :: us 11 ([]), [.row a0 36, .row a1 61, .row #[.int .i64 (a2)] 2, .row #[.func (.func 71) #[] #[]] 107, .row (zc Try.prog 61) 61, .row (zc Try.prog 61) 61, .no, .no, .no, .row #[.int .i64 (num a0 1)] 2, .no, .row #[.int .i64 (num a0 0)] 2, .no, .no], []⟩ : St) hb)) (fun e hb => (kBlock 0 (kSeq (veC Try.prog (mkΓx [(71, con impl_steps_sum_con), (79, con impl_stepsFrom_con)] [(101, impl_eachCell_nc)] [(111, impl_eachCell_1_ic)]) N (cAt (codeOf Try.f82) [1, 1, 1]) (pAt (mkPlan (codeOf Try.f82) [([], [5])]).1 [1, 1, 1]) (SV × Eff × Bool)) (finK Try.prog [] [.cell 8 61]))) e (leftI [5] (⟨.a (.g a0 36) :: .a (.g a1 61) :: .a (.i .i64 (a2)) :: .a (.c 71 []) :: .a (.w 0) :: .a (.w 1) :: .a (.w 2) :: .a (.w 3) :: .a (.w 4) :: .a (.w 5) :: .a (.u) :: .a (.g a0 36) :: .a (.c 111 [9, 11]) :: us 11 ([]), [.row a0 36, .row a1 61, .row #[.int .i64 (a2)] 2, .row #[.func (.func 71) #[] #[]] 107, .row (zc Try.prog 61) 61, .row (zc Try.prog 61) 61, .no, .no, .no, .row #[.int .i64 (num a0 1)] 2, .no, .row #[.int .i64 (num a0 0)] 2, .no, .no], []⟩ : St) hb)) = nodeI (foldI (sum_impl_rowBack_g0 Try.prog a0 a1 a2) (cellsL (num a0 0) (num a0 1) 36) (zc Try.prog 61)) (fun x => sum_impl_rowBack_k0_n Try.prog N a0 a1 a2 x) (fun x : Empty => nomatch x) := by
  refine iter_node sum_impl_rowBack_e0 sum_impl_rowBack_x0 _ _ (fun y t => sum_impl_rowBack_s0 N a0 a1 a2 y t) _ (zc Try.prog 61) _ _ _ _ ?_ ?_
  · intro x; exact sum_impl_rowBack_k0_n_eq N a0 a1 a2 x
  · intro x; exact nomatch x

theorem sum_impl_rowBack_ans (N : Nat) (a0 : Array Value) (a1 : Array Value) (a2 : Int) : ansV Try.prog (mkΓx [(71, con impl_steps_sum_con), (79, con impl_stepsFrom_con)] [(101, impl_eachCell_nc)] [(111, impl_eachCell_1_ic)]) N Try.f82 [([], [5])] [.g a0 36, .g a1 61, .i .i64 (a2), .c 71 []] [] = (bif (decide (0 ≤ (num a0 0)) && decide ((num a0 0) ≤ 6) && (decide (0 ≤ (num a0 1)) && decide ((num a0 1) ≤ 6))) then (nodeI (foldI (sum_impl_rowBack_g0 Try.prog a0 a1 a2) (cellsL (num a0 0) (num a0 1) 36) (zc Try.prog 61)) (fun x => sum_impl_rowBack_k0_n Try.prog N a0 a1 a2 x) (fun x : Empty => nomatch x))
    else (none)) := by
  refine Eq.trans (b := (bif (decide (0 ≤ (num a0 0)) && decide ((num a0 0) ≤ 6) && (decide (0 ≤ (num a0 1)) && decide ((num a0 1) ≤ 6))) then (bindI (foldI (fun (x0 : Int) (hb : BS) => stepI Try.prog (mkΓx [(71, con impl_steps_sum_con), (79, con impl_stepsFrom_con)] [(101, impl_eachCell_nc)] [(111, impl_eachCell_1_ic)]) N (cAt (codeOf Try.f82) [1, 1, 0, 1, 0, 0]) (pAt (mkPlan (codeOf Try.f82) [([], [5])]).1 [1, 1, 0, 1, 0]) 14 [5] [13] [(10, 13)] (⟨.a (.g a0 36) :: .a (.g a1 61) :: .a (.i .i64 (a2)) :: .a (.c 71 []) :: .a (.w 0) :: .a (.w 1) :: .a (.w 2) :: .a (.w 3) :: .a (.w 4) :: .a (.w 5) :: .a (.u) :: .a (.g a0 36) :: .a (.c 111 [9, 11]) :: us 11 ([]), [.row a0 36, .row a1 61, .row #[.int .i64 (a2)] 2, .row #[.func (.func 71) #[] #[]] 107, .row (zc Try.prog 61) 61, .row (zc Try.prog 61) 61, .no, .no, .no, .row #[.int .i64 (num a0 1)] 2, .no, .row #[.int .i64 (num a0 0)] 2, .no, .no], []⟩ : St) [.i .i64 (x0)] hb) (cellsL (num a0 0) (num a0 1) 36) ([.row (zc Try.prog 61) 61] : BS)) (fun hb => (kBlock 0 (kSeq (veC Try.prog (mkΓx [(71, con impl_steps_sum_con), (79, con impl_stepsFrom_con)] [(101, impl_eachCell_nc)] [(111, impl_eachCell_1_ic)]) N (cAt (codeOf Try.f82) [1, 1, 1]) (pAt (mkPlan (codeOf Try.f82) [([], [5])]).1 [1, 1, 1]) (SV × Eff × Bool)) (finK Try.prog [] [.cell 8 61]))) .normal (leftI [5] (⟨.a (.g a0 36) :: .a (.g a1 61) :: .a (.i .i64 (a2)) :: .a (.c 71 []) :: .a (.w 0) :: .a (.w 1) :: .a (.w 2) :: .a (.w 3) :: .a (.w 4) :: .a (.w 5) :: .a (.u) :: .a (.g a0 36) :: .a (.c 111 [9, 11]) :: us 11 ([]), [.row a0 36, .row a1 61, .row #[.int .i64 (a2)] 2, .row #[.func (.func 71) #[] #[]] 107, .row (zc Try.prog 61) 61, .row (zc Try.prog 61) 61, .no, .no, .no, .row #[.int .i64 (num a0 1)] 2, .no, .row #[.int .i64 (num a0 0)] 2, .no, .no], []⟩ : St) hb)) (fun e hb => (kBlock 0 (kSeq (veC Try.prog (mkΓx [(71, con impl_steps_sum_con), (79, con impl_stepsFrom_con)] [(101, impl_eachCell_nc)] [(111, impl_eachCell_1_ic)]) N (cAt (codeOf Try.f82) [1, 1, 1]) (pAt (mkPlan (codeOf Try.f82) [([], [5])]).1 [1, 1, 1]) (SV × Eff × Bool)) (finK Try.prog [] [.cell 8 61]))) e (leftI [5] (⟨.a (.g a0 36) :: .a (.g a1 61) :: .a (.i .i64 (a2)) :: .a (.c 71 []) :: .a (.w 0) :: .a (.w 1) :: .a (.w 2) :: .a (.w 3) :: .a (.w 4) :: .a (.w 5) :: .a (.u) :: .a (.g a0 36) :: .a (.c 111 [9, 11]) :: us 11 ([]), [.row a0 36, .row a1 61, .row #[.int .i64 (a2)] 2, .row #[.func (.func 71) #[] #[]] 107, .row (zc Try.prog 61) 61, .row (zc Try.prog 61) 61, .no, .no, .no, .row #[.int .i64 (num a0 1)] 2, .no, .row #[.int .i64 (num a0 0)] 2, .no, .no], []⟩ : St) hb)))
    else (none))) (by kernel_rfl) ?_
  simp only [sum_impl_rowBack_n0 N a0 a1 a2]

theorem sum_impl_rowBack_main (a0 : Array Value) (a1 : Array Value) (a2 : Int) (h_a0 : WT Try.prog 36 a0) (h_a1 : WT Try.prog 61 a1) (h_a2 : IntKind.i64.min ≤ a2 ∧ a2 ≤ IntKind.i64.max) (hg : ((okS a0 && (decide (0 ≤ a2) && decide (a2 < 2)))) = true) : ansV Try.prog (mkΓx [(71, con impl_steps_sum_con), (79, con impl_stepsFrom_con)] [(101, impl_eachCell_nc)] [(111, impl_eachCell_1_ic)]) 1000 Try.f82 [([], [5])] [.g a0 36, .g a1 61, .i .i64 (a2), .c 71 []] [] = some (.a (.g (rowF Try.prog sumL a0 a1 a2) 61), .none, true) := by
  rw [Bool.and_eq_true] at hg
  obtain ⟨hok, ht⟩ := hg
  have h0 := okS_dims hok
  refine (sum_impl_rowBack_ans 1000 a0 a1 a2).trans ?_
  have h := foldI_grid (X := Empty) (g := sum_impl_rowBack_g0 Try.prog a0 a1 a2) (fun r k => r.setIfInBounds (k * 1) (.int .i64 (sumL (stL a0 a2 k) a1))) (wd := num a0 0) (hi := num a0 1) (fun s k hk hi => by
    have hs : okSt (stL a0 a2 k).length (encSt (stL a0 a2 k)) = true := ok_enc (stL_range h0 hk hi a2)
    have hc : (decide (0 ≤ (k : Int)) && decide ((k : Int) < 36)) = true := by rw [decide_eq_true (show 0 ≤ (k : Int) by omega), decide_eq_true (show (k : Int) < 36 by omega)]; rfl
    have hi' : spec_l01Is_v0 (k : Int) a0 = true := (is_inC h_a0 hk).trans hi
    simp only [sum_impl_rowBack_g0, Int.toNat_natCast, hok, hi', ht, hs, hc, Bool.and_self, cond_true, rd_enc]
    first | done | rfl) (zc Try.prog 61)
  have hgd := okS_iter hok
  simp only [hgd, cond_true, h]
  rfl
noncomputable def sum_impl_rowBack_con : Con := fun args h => match args, h with
  | [.g a0 36, .g a1 61, .i .i64 a2, .c 71 []], [] => some (.a (.g (rowF Try.prog sumL a0 a1 a2) 61), .none, (okS a0 && (decide (0 ≤ a2) && decide (a2 < 2))))
  | _, _ => none
theorem sum_impl_rowBack_enter : ∀ args w, (callFunc 82 args).run Try.prog w = .ok (.enter 82 args) w := enter_ok (fn := Try.f82) (by kernel_rfl) (by kernel_rfl) (by kernel_rfl)
theorem sum_impl_rowBack_ok : ConOk Try.prog 82 sum_impl_rowBack_con := (ans_ok (N := 1000) (by kernel_rfl) (mkΓx_c (con_ok impl_steps_sum_ok) impl_steps_sum_enter (mkΓx_c (con_ok impl_stepsFrom_ok) impl_stepsFrom_enter (mkΓx_n impl_eachCell_nok impl_eachCell_enter (mkΓx_i impl_eachCell_1_iok impl_eachCell_1_enter mkΓx_nil)))) (fn := Try.f82) (by kernel_rfl) (by kernel_rfl) [([], [5])]).of (by
  intro ρ h w args vals r e hA hH hr
  unfold sum_impl_rowBack_con at hr
  split at hr
  · rename_i a0 a1 a2
    obtain ⟨rfl, hg⟩ := Prod.mk.inj (Option.some.inj hr)
    obtain ⟨rfl, hg2⟩ := Prod.mk.inj hg
    exact sum_impl_rowBack_main a0 a1 a2 (hA.wt 0 rfl) (hA.wt 1 rfl) (hA.rng 2 rfl) hg2
  · cases hr)

end
end Go.Proofs.Ytmkkckhfghomfaa
