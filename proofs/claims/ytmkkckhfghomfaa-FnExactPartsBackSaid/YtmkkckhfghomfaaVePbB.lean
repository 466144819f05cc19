/- Drift for some hours, as it is asked. -/
import Derived.Test.YtmkkckhfghomfaaProg
import Derived.Test.YtmkkckhfghomfaaVePbA
namespace Go.Proofs.Ytmkkckhfghomfaa
open Go.ChangeShapes Go.WideShapes Go.ChangeAt Go.RowKit Ve
set_option linter.unusedVariables false
set_option linter.unusedSimpArgs false
set_option maxRecDepth 100000
noncomputable section

theorem adN_size (r : Array Value) (i : Nat) (m : Int) : (adN r i m).size = r.size := by unfold adN; simp
theorem adN_ne {r : Array Value} {i j : Nat} (m : Int) (h : i ≠ j) : num (adN r i m) j = num r j := by
  unfold adN num; rw [Array.getElem?_setIfInBounds, if_neg h]
theorem adN_eq {r : Array Value} {i : Nat} (m : Int) (h : i < r.size) : num (adN r i m) i = IntKind.i64.wrap (num r i + m) := num_set h .i64 _
/-- What a round over a cell keeps. -/
theorem cellF_keep {Q : Array Value → Prop} (hQ : ∀ r i m, Q r → Q (adN r i m)) (S X : Array Value) (t : Int) (r : Array Value) (k : Nat) (h : Q r) : Q (cellF S X t r k) := by
  unfold cellF
  cases spec_l01Wet_v0 (k : Int) S with
  | false => exact hQ _ _ _ h
  | true =>
    refine folds_inv (fun _ r => Q r) h (fun w s _ hs => ?_) 5 (Nat.le_refl _)
    unfold wayF
    cases decide (spec_l01Goes_v0 (k : Int) (w : Int) S < 0) <;> exact hQ _ _ _ hs
theorem hourV_size (S X : Array Value) : (hourV Try.prog S X).size = 40 := by
  have hz : (zc Try.prog 94).size = 40 := by kernel_rfl
  unfold hourV
  exact folds_inv (fun _ (r : Array Value) => r.size = 40) (by unfold hourI; simp [hz]) (fun k s _ hs => cellF_keep (Q := fun r => r.size = 40) (fun r i m h => by rw [adN_size]; exact h) S X _ s k hs) 36 (Nat.le_refl _)
theorem wayF_low (S X : Array Value) (t : Int) (k : Nat) (r : Array Value) (w j : Nat) (hj : j < 3) : num (wayF S X t k r w) j = num r j := by
  unfold wayF
  cases decide (spec_l01Goes_v0 (k : Int) (w : Int) S < 0) <;> exact adN_ne _ (by omega)
theorem hourV_low (S X : Array Value) {j : Nat} (hj : j < 3) : num (hourV Try.prog S X) j = num (hourI Try.prog X) j := by
  unfold hourV
  refine folds_inv (fun _ (r : Array Value) => num r j = num (hourI Try.prog X) j) rfl (fun k s _ hs => ?_) 36 (Nat.le_refl _)
  refine Eq.trans ?_ hs
  unfold cellF
  cases spec_l01Wet_v0 (k : Int) S with
  | false => exact adN_ne _ (by omega)
  | true => exact folds_inv (fun _ (r : Array Value) => num r j = num s j) rfl (fun w r _ hr => (wayF_low S X _ k r w j hj).trans hr) 5 (Nat.le_refl _)
theorem hourI_num (X : Array Value) : num (hourI Try.prog X) 0 = num X 0 ∧ num (hourI Try.prog X) 1 = IntKind.i8.wrap (num X 1 + 1) ∧ ∀ i, i < 36 → num (hourI Try.prog X) (3 + i) = 0 := by
  have hz : (zc Try.prog 94).size = 40 := by kernel_rfl
  have hc : (List.range 36).all (fun k => match (zc Try.prog 94)[3 + k]? with | some (.int .i64 0) => true | _ => false) = true := by kernel_rfl
  unfold hourI
  refine ⟨?_, ?_, fun i hi => ?_⟩
  · unfold num; rw [Array.getElem?_setIfInBounds, if_neg (by omega), Array.getElem?_setIfInBounds, if_neg (by omega), Array.getElem?_setIfInBounds, if_neg (by omega), Array.getElem?_setIfInBounds, if_pos rfl, if_pos (by omega)]
  · unfold num; rw [Array.getElem?_setIfInBounds, if_neg (by omega), Array.getElem?_setIfInBounds, if_neg (by omega), Array.getElem?_setIfInBounds, if_pos rfl, if_pos (by simp; omega)]
  · unfold num
    rw [Array.getElem?_setIfInBounds, if_neg (by omega), Array.getElem?_setIfInBounds, if_neg (by omega), Array.getElem?_setIfInBounds, if_neg (by omega), Array.getElem?_setIfInBounds, if_neg (by omega)]
    have := List.all_eq_true.1 hc i (List.mem_range.2 hi)
    split at this
    · rename_i e; rw [e]
    · cases this
noncomputable def driftV (P : Program) (S X : Array Value) : Nat → Array Value
  | 0 => X
  | n + 1 => hourV P S (driftV P S X n)
theorem drift_low {S X : Array Value} (hb : 0 ≤ num X 0 ∧ num X 0 < 2) (hh : 0 ≤ num X 1 ∧ num X 1 ≤ 14) : ∀ n, n ≤ 14 → num (driftV Try.prog S X n) 0 = num X 0 ∧ num (driftV Try.prog S X n) 1 = num X 1 + n
  | 0, _ => ⟨rfl, by simp [driftV]⟩
  | n + 1, hn => by
    obtain ⟨h1, h2⟩ := drift_low hb hh n (by omega)
    obtain ⟨e1, e2, _⟩ := hourI_num (driftV Try.prog S X n)
    constructor
    · rw [driftV, hourV_low _ _ (by omega), e1, h1]
    · rw [driftV, hourV_low _ _ (by omega), e2, h2]
      have : IntKind.i8.wrap (num X 1 + (n : Int) + 1) = num X 1 + (n : Int) + 1 := IntWalk.i8_in _ (by omega)
      rw [this]; omega
theorem td_drift {S X : Array Value} (hb : 0 ≤ num X 0 ∧ num X 0 < 2) (hh : 0 ≤ num X 1 ∧ num X 1 ≤ 14) {n : Nat} (hn : n ≤ 14) : tdS (driftV Try.prog S X n) = (num X 0 + num X 1 + n) % 2 := by
  obtain ⟨h1, h2⟩ := drift_low (S := S) hb hh n hn
  unfold tdS
  rw [h1, h2]
  have : IntKind.i8.wrap (num X 0 + (num X 1 + (n : Int))) = num X 0 + num X 1 + (n : Int) := by rw [IntWalk.i8_in _ (by omega)]; omega
  rw [this, Int.tmod_eq_emod_of_nonneg (by omega)]

noncomputable def spec_l02Drift_e0 : Int × Array Value → LS
  | (y0_7, r0_1) => ([.a (.i .i64 (y0_7))], [.row r0_1 94])

noncomputable def spec_l02Drift_x0 : Int × Array Value → Exit × LS
  | t => ((.exit 0), spec_l02Drift_e0 t)

noncomputable def spec_l02Drift_g0 (P : Program) (a1 : Array Value) (a2 : Int) (a0 : Array Value) : Int × Array Value → Option (Stp (Int × Array Value) (Int × Array Value))
  | (y0_7, r0_1) => bif decide (y0_7 < a2) then (bif (okS a0 && (decide (0 ≤ tdS r0_1) && decide (tdS r0_1 < 2))) then (some (.more ((IntKind.i64.wrap (y0_7 + (1 : Int))), (hourV Try.prog a0 r0_1))))
      else (none))
    else (some (.done (y0_7, r0_1)))

theorem spec_l02Drift_s0 (N : Nat) (a1 : Array Value) (a2 : Int) (a0 : Array Value) : ∀ t : Int × Array Value, stepV Try.prog (mkΓ [(103, con spec_l02Hour_con)]) N (cAt (codeOf Try.f91) [1, 0, 1, 0, 0]) (pAt (mkPlan (codeOf Try.f91) [([7], [1])]).1 [1, 0, 1, 0]) [7] [1] (⟨.a (.w 0) :: .a (.g a1 94) :: .a (.i .i64 (a2)) :: .a (.u) :: .a (.w 1) :: .a (.u) :: .a (.w 2) :: .a (.i .i64 (0 : Int)) :: us 8 ([]), [.row a0 36, .row a1 94, .row (zc Try.prog 94) 94], []⟩ : St) (spec_l02Drift_e0 t) = mapS spec_l02Drift_e0 spec_l02Drift_x0 (spec_l02Drift_g0 Try.prog a1 a2 a0 t) := by
  rintro ⟨y0_7, r0_1⟩
  refine Eq.trans (b := (bif decide (y0_7 < a2) then (bif (okS a0 && (decide (0 ≤ tdS r0_1) && decide (tdS r0_1 < 2))) then (some (.more ([.a (.i .i64 (IntKind.i64.wrap (y0_7 + (1 : Int))))], [.row (hourV Try.prog a0 r0_1) 94])))
      else (none))
    else (some (.done ((.exit 0), ([.a (.i .i64 (y0_7))], [.row r0_1 94])))))) (by kernel_rfl) ?_
  simp only [spec_l02Drift_g0, mapS_cond, mapS_more, mapS_done, mapS_none, spec_l02Drift_e0, spec_l02Drift_x0]

noncomputable def spec_l02Drift_k0_0 (P : Program) (N : Nat) (a1 : Array Value) (a2 : Int) (a0 : Array Value) (z0_7 : Int) (q0_1 : Array Value) : Option (SV × Eff × Bool) := some (.a (.g q0_1 94), .none, true)

theorem spec_l02Drift_k0_0_eq (N : Nat) (a1 : Array Value) (a2 : Int) (a0 : Array Value) (z0_7 : Int) (q0_1 : Array Value) : (kBlock 0 (kSeq (veC Try.prog (mkΓ [(103, con spec_l02Hour_con)]) N (cAt (codeOf Try.f91) [1, 1]) (pAt (mkPlan (codeOf Try.f91) [([7], [1])]).1 [1, 1]) (SV × Eff × Bool)) (finK Try.prog [.row a0 36] [.cell 6 94]))) (.exit 0) (left (writes (cAt (codeOf Try.f91) [1, 0, 1, 0, 0])) [7] [1] (⟨.a (.w 0) :: .a (.g a1 94) :: .a (.i .i64 (a2)) :: .a (.u) :: .a (.w 1) :: .a (.u) :: .a (.w 2) :: .a (.i .i64 (0 : Int)) :: us 8 ([]), [.row a0 36, .row a1 94, .row (zc Try.prog 94) 94], []⟩ : St) ([.a (.i .i64 (z0_7))], [.row q0_1 94])) = spec_l02Drift_k0_0 Try.prog N a1 a2 a0 z0_7 q0_1 := by
  refine Eq.trans (b := (some (.a (.g q0_1 94), .none, true))) (by kernel_rfl) ?_
  rfl

theorem spec_l02Drift_n0 (N : Nat) (a1 : Array Value) (a2 : Int) (a0 : Array Value) : bindX (iterO (stepV Try.prog (mkΓ [(103, con spec_l02Hour_con)]) N (cAt (codeOf Try.f91) [1, 0, 1, 0, 0]) (pAt (mkPlan (codeOf Try.f91) [([7], [1])]).1 [1, 0, 1, 0]) [7] [1] (⟨.a (.w 0) :: .a (.g a1 94) :: .a (.i .i64 (a2)) :: .a (.u) :: .a (.w 1) :: .a (.u) :: .a (.w 2) :: .a (.i .i64 (0 : Int)) :: us 8 ([]), [.row a0 36, .row a1 94, .row (zc Try.prog 94) 94], []⟩ : St)) N ([.a (.i .i64 (0 : Int))], [.row a1 94])) (fun e s => (kBlock 0 (kSeq (veC Try.prog (mkΓ [(103, con spec_l02Hour_con)]) N (cAt (codeOf Try.f91) [1, 1]) (pAt (mkPlan (codeOf Try.f91) [([7], [1])]).1 [1, 1]) (SV × Eff × Bool)) (finK Try.prog [.row a0 36] [.cell 6 94]))) e (left (writes (cAt (codeOf Try.f91) [1, 0, 1, 0, 0])) [7] [1] (⟨.a (.w 0) :: .a (.g a1 94) :: .a (.i .i64 (a2)) :: .a (.u) :: .a (.w 1) :: .a (.u) :: .a (.w 2) :: .a (.i .i64 (0 : Int)) :: us 8 ([]), [.row a0 36, .row a1 94, .row (zc Try.prog 94) 94], []⟩ : St) s)) = nodeX (iterO (spec_l02Drift_g0 Try.prog a1 a2 a0) N ((0 : Int), a1)) (fun x => spec_l02Drift_k0_0 Try.prog N a1 a2 a0 x.1 x.2) := by
  refine loop_node spec_l02Drift_e0 spec_l02Drift_x0 _ _ (spec_l02Drift_s0 N a1 a2 a0) N ((0 : Int), a1) _ _ ?_
  intro x; exact spec_l02Drift_k0_0_eq N a1 a2 a0 x.1 x.2

theorem spec_l02Drift_ans (N : Nat) (a1 : Array Value) (a2 : Int) (a0 : Array Value) : ansV Try.prog (mkΓ [(103, con spec_l02Hour_con)]) N Try.f91 [([7], [1])] [.w 0, .g a1 94, .i .i64 (a2)] [.row a0 36] = (nodeX (iterO (spec_l02Drift_g0 Try.prog a1 a2 a0) N ((0 : Int), a1)) (fun x => spec_l02Drift_k0_0 Try.prog N a1 a2 a0 x.1 x.2)) := by
  refine Eq.trans (b := (bindX (iterO (stepV Try.prog (mkΓ [(103, con spec_l02Hour_con)]) N (cAt (codeOf Try.f91) [1, 0, 1, 0, 0]) (pAt (mkPlan (codeOf Try.f91) [([7], [1])]).1 [1, 0, 1, 0]) [7] [1] (⟨.a (.w 0) :: .a (.g a1 94) :: .a (.i .i64 (a2)) :: .a (.u) :: .a (.w 1) :: .a (.u) :: .a (.w 2) :: .a (.i .i64 (0 : Int)) :: us 8 ([]), [.row a0 36, .row a1 94, .row (zc Try.prog 94) 94], []⟩ : St)) N ([.a (.i .i64 (0 : Int))], [.row a1 94])) (fun e s => (kBlock 0 (kSeq (veC Try.prog (mkΓ [(103, con spec_l02Hour_con)]) N (cAt (codeOf Try.f91) [1, 1]) (pAt (mkPlan (codeOf Try.f91) [([7], [1])]).1 [1, 1]) (SV × Eff × Bool)) (finK Try.prog [.row a0 36] [.cell 6 94]))) e (left (writes (cAt (codeOf Try.f91) [1, 0, 1, 0, 0])) [7] [1] (⟨.a (.w 0) :: .a (.g a1 94) :: .a (.i .i64 (a2)) :: .a (.u) :: .a (.w 1) :: .a (.u) :: .a (.w 2) :: .a (.i .i64 (0 : Int)) :: us 8 ([]), [.row a0 36, .row a1 94, .row (zc Try.prog 94) 94], []⟩ : St) s)))) (by kernel_rfl) ?_
  simp only [spec_l02Drift_n0 N a1 a2 a0]

theorem spec_l02Drift_main (a1 : Array Value) (a2 : Int) (a0 : Array Value) (h_a1 : WT Try.prog 94 a1) (h_a2 : IntKind.i64.min ≤ a2 ∧ a2 ≤ IntKind.i64.max) (h_a0 : WT Try.prog 36 a0) (hg : ((okS a0 && ((decide (0 ≤ num a1 0) && decide (num a1 0 < 2)) && ((decide (0 ≤ num a1 1) && decide (num a1 1 ≤ 14)) && (decide (0 ≤ a2) && decide (a2 ≤ 14)))))) = true) : ansV Try.prog (mkΓ [(103, con spec_l02Hour_con)]) 1000 Try.f91 [([7], [1])] [.w 0, .g a1 94, .i .i64 (a2)] [.row a0 36] = some (.a (.g (driftV Try.prog a0 a1 a2.toNat) 94), .none, true) := by
  simp only [Bool.and_eq_true, decide_eq_true_eq] at hg
  obtain ⟨hok, hb, hh, h0, h14⟩ := hg
  obtain ⟨m, rfl⟩ := Int.eq_ofNat_of_zero_le h0
  refine (spec_l02Drift_ans 1000 a1 (m : Int) a0).trans ?_
  have h := iter_all (g := spec_l02Drift_g0 Try.prog a1 (m : Int) a0) (fun j => ((j : Int), driftV Try.prog a0 a1 j)) (m := m) (x := ((m : Int), driftV Try.prog a0 a1 m)) (N := 1000) (fun j hj => by
    have h1 : decide ((j : Int) < (m : Int)) = true := decide_eq_true (by omega)
    have h3 : IntKind.i64.wrap ((j : Int) + 1) = ((j + 1 : Nat) : Int) := by rw [w64 (by omega)]; omega
    have ht := td_drift (S := a0) hb hh (show j ≤ 14 by omega)
    have h4 := dec2 (a := tdS (driftV Try.prog a0 a1 j)) (b := 2) (by rw [ht]; omega) (by rw [ht]; omega)
    simp only [spec_l02Drift_g0, h1, h3, hok, h4, Bool.and_self, cond_true]
    rfl) (by
    have h1 : decide ((m : Int) < (m : Int)) = false := decide_eq_false (by omega)
    simp only [spec_l02Drift_g0, h1, cond_false]) (by omega)
  have h' : iterO (spec_l02Drift_g0 Try.prog a1 (m : Int) a0) 1000 ((0 : Int), a1) = some ((m : Int), driftV Try.prog a0 a1 m) := h
  rw [h']
  rfl
noncomputable def spec_l02Drift_con : Con := fun args h => match args, h with
  | [.w 0, .g a1 94, .i .i64 a2], [.row a0 36] => some (.a (.g (driftV Try.prog a0 a1 a2.toNat) 94), .none, (okS a0 && ((decide (0 ≤ num a1 0) && decide (num a1 0 < 2)) && ((decide (0 ≤ num a1 1) && decide (num a1 1 ≤ 14)) && (decide (0 ≤ a2) && decide (a2 ≤ 14))))))
  | _, _ => none
theorem spec_l02Drift_enter : ∀ args w, (callFunc 91 args).run Try.prog w = .ok (.enter 91 args) w := enter_ok (fn := Try.f91) (by kernel_rfl) (by kernel_rfl) (by kernel_rfl)
theorem spec_l02Drift_ok : ConOk Try.prog 91 spec_l02Drift_con := (ans_ok (N := 1000) (by kernel_rfl) (mkΓ_cons (con_ok spec_l02Hour_ok) spec_l02Hour_enter mkΓ_nil) (fn := Try.f91) (by kernel_rfl) (by kernel_rfl) [([7], [1])]).of (by
  intro ρ h w args vals r e hA hH hr
  unfold spec_l02Drift_con at hr
  split at hr
  · rename_i a1 a2 a0
    obtain ⟨rfl, hg⟩ := Prod.mk.inj (Option.some.inj hr)
    obtain ⟨rfl, hg2⟩ := Prod.mk.inj hg
    exact spec_l02Drift_main a1 a2 a0 (hA.wt 1 rfl) (hA.rng 2 rfl) (hH.wt 0 rfl) hg2
  · cases hr)

theorem spec_l03Behind_ans (N : Nat) (a1 : Int) (a2 : Int) (a3 : Int) (a0 : Array Value) : ansV Try.prog (mkΓ [(91, con spec_l02Drift_con)]) N Try.f68 [] [.w 0, .i .i64 (a1), .i .i64 (a2), .i .i64 (a3)] [.row a0 36] = (bif (decide (0 ≤ a1) && decide (a1 < 36)) then (bif (okS a0 && ((decide (0 ≤ num ((((zc Try.prog 94).setIfInBounds 0 (.int .i8 (IntKind.i8.wrap a2))).setIfInBounds 2 (.int .i64 (1 : Int))).setIfInBounds (3 + ((a1).toNat * 1)) (.int .i64 (1 : Int))) 0) && decide (num ((((zc Try.prog 94).setIfInBounds 0 (.int .i8 (IntKind.i8.wrap a2))).setIfInBounds 2 (.int .i64 (1 : Int))).setIfInBounds (3 + ((a1).toNat * 1)) (.int .i64 (1 : Int))) 0 < 2)) && ((decide (0 ≤ num ((((zc Try.prog 94).setIfInBounds 0 (.int .i8 (IntKind.i8.wrap a2))).setIfInBounds 2 (.int .i64 (1 : Int))).setIfInBounds (3 + ((a1).toNat * 1)) (.int .i64 (1 : Int))) 1) && decide (num ((((zc Try.prog 94).setIfInBounds 0 (.int .i8 (IntKind.i8.wrap a2))).setIfInBounds 2 (.int .i64 (1 : Int))).setIfInBounds (3 + ((a1).toNat * 1)) (.int .i64 (1 : Int))) 1 ≤ 14)) && (decide (0 ≤ a3) && decide (a3 ≤ 14))))) then (some (.a (.g (driftV Try.prog a0 ((((zc Try.prog 94).setIfInBounds 0 (.int .i8 (IntKind.i8.wrap a2))).setIfInBounds 2 (.int .i64 (1 : Int))).setIfInBounds (3 + ((a1).toNat * 1)) (.int .i64 (1 : Int))) a3.toNat) 94), .none, true))
      else (none))
    else (none)) := by kernel_rfl


/-- A bottle at the beginning. -/
noncomputable def oneX (P : Program) (c b : Int) : Array Value := (((zc P 94).setIfInBounds 0 (.int .i8 (IntKind.i8.wrap b))).setIfInBounds 2 (.int .i64 1)).setIfInBounds (3 + c.toNat * 1) (.int .i64 1)


theorem oneX_num {c b : Int} (hb : 0 ≤ b ∧ b ≤ 1) (hc : 0 ≤ c ∧ c ≤ 35) : num (oneX Try.prog c b) 0 = b ∧ num (oneX Try.prog c b) 1 = 0 ∧ (oneX Try.prog c b).size = 40 ∧ ∀ i, i < 36 → num (oneX Try.prog c b) (3 + i) = if i = c.toNat then 1 else 0 := by
  have hz : (zc Try.prog 94).size = 40 := by kernel_rfl
  have hc0 : (List.range 36).all (fun k => match (zc Try.prog 94)[3 + k]? with | some (.int .i64 0) => true | _ => false) = true := by kernel_rfl
  have h1 : (zc Try.prog 94)[1]? = some (.int .i8 0) := by kernel_rfl
  unfold oneX
  refine ⟨?_, ?_, by simp [hz], fun i hi => ?_⟩
  · unfold num; rw [Array.getElem?_setIfInBounds, if_neg (by omega), Array.getElem?_setIfInBounds, if_neg (by omega), Array.getElem?_setIfInBounds, if_pos rfl, if_pos (by omega)]
    exact IntWalk.i8_in _ (by omega)
  · unfold num; rw [Array.getElem?_setIfInBounds, if_neg (by omega), Array.getElem?_setIfInBounds, if_neg (by omega), Array.getElem?_setIfInBounds, if_neg (by omega), h1]
  · unfold num
    rw [Array.getElem?_setIfInBounds]
    by_cases e : i = c.toNat
    · rw [if_pos (by omega), if_pos (by simp; omega), if_pos e]
    · rw [if_neg (by omega), if_neg e, Array.getElem?_setIfInBounds, if_neg (by omega), Array.getElem?_setIfInBounds, if_neg (by omega)]
      have := List.all_eq_true.1 hc0 i (List.mem_range.2 hi)
      split at this
      · rename_i e2; rw [e2]
      · cases this

theorem spec_l03Behind_main (a1 : Int) (a2 : Int) (a3 : Int) (a0 : Array Value) (h_a1 : IntKind.i64.min ≤ a1 ∧ a1 ≤ IntKind.i64.max) (h_a2 : IntKind.i64.min ≤ a2 ∧ a2 ≤ IntKind.i64.max) (h_a3 : IntKind.i64.min ≤ a3 ∧ a3 ≤ IntKind.i64.max) (h_a0 : WT Try.prog 36 a0) (hg : ((okS a0 && ((spec_l01Is_v0 a1 a0 && spec_l00In_v0 a2 0 1) && spec_l00In_v0 a3 0 14))) = true) : ansV Try.prog (mkΓ [(91, con spec_l02Drift_con)]) 1000 Try.f68 [] [.w 0, .i .i64 (a1), .i .i64 (a2), .i .i64 (a3)] [.row a0 36] = some (.a (.g (driftV Try.prog a0 (oneX Try.prog a1 a2) a3.toNat) 94), .none, true) := by
  simp only [Bool.and_eq_true] at hg
  obtain ⟨hok, ⟨his, htd⟩, hhr⟩ := hg
  have hc := is_range his
  have hb := in_range htd
  have hh := in_range hhr
  obtain ⟨n0, n1, _, _⟩ := oneX_num (c := a1) (b := a2) hb hc
  refine (spec_l03Behind_ans 1000 a1 a2 a3 a0).trans ?_
  unfold oneX at n0 n1
  rw [dec2 hc.1 (show a1 < 36 by omega), n0, n1, hok, dec2 hb.1 (show a2 < 2 by omega), decide_eq_true hh.1, decide_eq_true hh.2]
  rfl
noncomputable def spec_l03Behind_con : Con := fun args h => match args, h with
  | [.w 0, .i .i64 a1, .i .i64 a2, .i .i64 a3], [.row a0 36] => some (.a (.g (driftV Try.prog a0 (oneX Try.prog a1 a2) a3.toNat) 94), .none, (okS a0 && ((spec_l01Is_v0 a1 a0 && spec_l00In_v0 a2 0 1) && spec_l00In_v0 a3 0 14)))
  | _, _ => none
theorem spec_l03Behind_enter : ∀ args w, (callFunc 68 args).run Try.prog w = .ok (.enter 68 args) w := enter_ok (fn := Try.f68) (by kernel_rfl) (by kernel_rfl) (by kernel_rfl)
theorem spec_l03Behind_ok : ConOk Try.prog 68 spec_l03Behind_con := (ans_ok (N := 1000) (by kernel_rfl) (mkΓ_cons (con_ok spec_l02Drift_ok) spec_l02Drift_enter mkΓ_nil) (fn := Try.f68) (by kernel_rfl) (by kernel_rfl) []).of (by
  intro ρ h w args vals r e hA hH hr
  unfold spec_l03Behind_con at hr
  split at hr
  · rename_i a1 a2 a3 a0
    obtain ⟨rfl, hg⟩ := Prod.mk.inj (Option.some.inj hr)
    obtain ⟨rfl, hg2⟩ := Prod.mk.inj hg
    exact spec_l03Behind_main a1 a2 a3 a0 (hA.rng 1 rfl) (hA.rng 2 rfl) (hA.rng 3 rfl) (hH.wt 0 rfl) hg2
  · cases hr)

end
end Go.Proofs.Ytmkkckhfghomfaa
