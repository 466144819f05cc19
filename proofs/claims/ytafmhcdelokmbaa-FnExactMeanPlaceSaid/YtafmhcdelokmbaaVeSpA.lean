/- Spreads copied; parts, and what makes a spread valid: the two loops. -/
import Derived.Test.YtafmhcdelokmbaaProg
import Derived.Test.YtafmhcdelokmbaaVeGrid
namespace Go.Proofs.Ytafmhcdelokmbaa
open Go.ChangeShapes Go.WideShapes Go.ChangeAt Go.RowKit Ve
set_option linter.unusedVariables false
set_option linter.unusedSimpArgs false
set_option maxRecDepth 100000
noncomputable section
theorem impl_hasBottles_ans (N : Nat) (a0 : Int) (a1 : Int) : ansV Try.prog (mkΓ []) N Try.f92 [] [.i .i64 (a0), .i .i64 (a1)] [] = (bif decide (a0 ≥ (1 : Int)) then (some (.a (.b (decide (a0 ≤ a1))), .none, true))
    else (some (.a (.b (false)), .none, true))) := by kernel_rfl

noncomputable def impl_hasBottles_v0 (a0 : Int) (a1 : Int) : Bool := (bif decide (a0 ≥ (1 : Int)) then decide (a0 ≤ a1) else false)

theorem impl_hasBottles_main (a0 : Int) (a1 : Int) (h_a0 : IntKind.i64.min ≤ a0 ∧ a0 ≤ IntKind.i64.max) (h_a1 : IntKind.i64.min ≤ a1 ∧ a1 ≤ IntKind.i64.max) (hg : (true) = true) : ansV Try.prog (mkΓ []) 1000 Try.f92 [] [.i .i64 (a0), .i .i64 (a1)] [] = some (.a (.b ((impl_hasBottles_v0 a0 a1))), .none, true) := by
  refine (impl_hasBottles_ans 1000 a0 a1).trans ?_
  unfold impl_hasBottles_v0
  revert hg
  generalize (decide (a0 ≥ (1 : Int))) = b2
  intro hg
  cases b2
  · skip
    first | (simp only [cond_true, cond_false, Bool.and_true, Bool.true_and, Bool.and_false, Bool.false_and]; done) | rfl | exact (nomatch (hg : false = true))
  · skip
    first | (simp only [cond_true, cond_false, Bool.and_true, Bool.true_and, Bool.and_false, Bool.false_and]; done) | rfl | exact (nomatch (hg : false = true))
noncomputable def impl_hasBottles_con : Con := fun args h => match args, h with
  | [.i .i64 a0, .i .i64 a1], [] => some (.a (.b ((impl_hasBottles_v0 a0 a1))), .none, true)
  | _, _ => none
theorem impl_hasBottles_enter : ∀ args w, (callFunc 92 args).run Try.prog w = .ok (.enter 92 args) w := enter_ok (fn := Try.f92) (by kernel_rfl) (by kernel_rfl) (by kernel_rfl)
theorem impl_hasBottles_ok : ConOk Try.prog 92 impl_hasBottles_con := (ans_ok (N := 1000) (by kernel_rfl) mkΓ_nil (fn := Try.f92) (by kernel_rfl) (by kernel_rfl) []).of (by
  intro ρ h w args vals r e hA hH hr
  unfold impl_hasBottles_con at hr
  split at hr
  · rename_i a0 a1
    obtain ⟨rfl, hg⟩ := Prod.mk.inj (Option.some.inj hr)
    obtain ⟨rfl, hg2⟩ := Prod.mk.inj hg
    exact impl_hasBottles_main a0 a1 (hA.rng 0 rfl) (hA.rng 1 rfl) hg2
  · cases hr)

noncomputable def laws_toInt64A36_e0 : Int × Array Value → LS
  | (y0_4, r0_2) => ([.a (.i .i64 (y0_4))], [.row r0_2 48])

noncomputable def laws_toInt64A36_x0 : Int × Array Value → Exit × LS
  | t => ((.exit 0), laws_toInt64A36_e0 t)

noncomputable def laws_toInt64A36_g0 (P : Program) (a0 : Array Value) : Int × Array Value → Option (Stp (Int × Array Value) (Int × Array Value))
  | (y0_4, r0_2) => bif decide (y0_4 < (36 : Int)) then (bif (decide (0 ≤ y0_4) && decide (y0_4 < 36)) then (bif (decide (0 ≤ y0_4) && decide (y0_4 < 36)) then (some (.more ((IntKind.i64.wrap (y0_4 + (1 : Int))), (r0_2.setIfInBounds ((y0_4).toNat * 1) (.int .i64 (num a0 ((y0_4).toNat * 1)))))))
        else (none))
      else (none))
    else (some (.done (y0_4, r0_2)))

theorem laws_toInt64A36_s0 (N : Nat) (a0 : Array Value) : ∀ t : Int × Array Value, stepV Try.prog (mkΓ []) N (cAt (codeOf Try.f83) [1, 1, 0, 1, 0, 0]) (pAt (mkPlan (codeOf Try.f83) [([4], [2])]).1 [1, 1, 0, 1, 0]) [4] [2] (⟨[.a (.g a0 48), .a (.w 0), .a (.w 1), .a (.w 2), .a (.i .i64 (0 : Int)), .a (.u), .a (.u), .a (.u), .a (.u), .a (.u), .a (.u), .a (.u), .a (.u), .a (.u), .a (.u)], [.row a0 48, .row (zc Try.prog 48) 48, .row (zc Try.prog 48) 48], []⟩ : St) (laws_toInt64A36_e0 t) = mapS laws_toInt64A36_e0 laws_toInt64A36_x0 (laws_toInt64A36_g0 Try.prog a0 t) := by
  rintro ⟨y0_4, r0_2⟩
  have h : stepV Try.prog (mkΓ []) N (cAt (codeOf Try.f83) [1, 1, 0, 1, 0, 0]) (pAt (mkPlan (codeOf Try.f83) [([4], [2])]).1 [1, 1, 0, 1, 0]) [4] [2] (⟨[.a (.g a0 48), .a (.w 0), .a (.w 1), .a (.w 2), .a (.i .i64 (0 : Int)), .a (.u), .a (.u), .a (.u), .a (.u), .a (.u), .a (.u), .a (.u), .a (.u), .a (.u), .a (.u)], [.row a0 48, .row (zc Try.prog 48) 48, .row (zc Try.prog 48) 48], []⟩ : St) ([.a (.i .i64 (y0_4))], [.row r0_2 48]) = (bif decide (y0_4 < (36 : Int)) then (bif (decide (0 ≤ y0_4) && decide (y0_4 < 36)) then (bif (decide (0 ≤ y0_4) && decide (y0_4 < 36)) then (some (.more ([.a (.i .i64 (IntKind.i64.wrap (y0_4 + (1 : Int))))], [.row (r0_2.setIfInBounds ((y0_4).toNat * 1) (.int .i64 (num a0 ((y0_4).toNat * 1)))) 48])))
        else (none))
      else (none))
    else (some (.done ((.exit 0), ([.a (.i .i64 (y0_4))], [.row r0_2 48]))))) := by kernel_rfl
  refine h.trans ?_
  simp only [laws_toInt64A36_g0, mapS_cond, mapS_more, mapS_done, mapS_none, laws_toInt64A36_e0, laws_toInt64A36_x0]

noncomputable def laws_toInt64A36_k0_0 (P : Program) (N : Nat) (a0 : Array Value) (z0_4 : Int) (q0_2 : Array Value) : Option (SV × Eff × Bool) := some (.a (.g q0_2 48), .none, true)

theorem laws_toInt64A36_k0_0_eq (N : Nat) (a0 : Array Value) (z0_4 : Int) (q0_2 : Array Value) : (kBlock 0 (kSeq (veC Try.prog (mkΓ []) N (cAt (codeOf Try.f83) [1, 1, 1]) (pAt (mkPlan (codeOf Try.f83) [([4], [2])]).1 [1, 1, 1]) (SV × Eff × Bool)) (finK Try.prog [] [.cell 2 48]))) (.exit 0) (left (writes (cAt (codeOf Try.f83) [1, 1, 0, 1, 0, 0])) [4] [2] (⟨[.a (.g a0 48), .a (.w 0), .a (.w 1), .a (.w 2), .a (.i .i64 (0 : Int)), .a (.u), .a (.u), .a (.u), .a (.u), .a (.u), .a (.u), .a (.u), .a (.u), .a (.u), .a (.u)], [.row a0 48, .row (zc Try.prog 48) 48, .row (zc Try.prog 48) 48], []⟩ : St) ([.a (.i .i64 (z0_4))], [.row q0_2 48])) = laws_toInt64A36_k0_0 Try.prog N a0 z0_4 q0_2 := by
  have h : (kBlock 0 (kSeq (veC Try.prog (mkΓ []) N (cAt (codeOf Try.f83) [1, 1, 1]) (pAt (mkPlan (codeOf Try.f83) [([4], [2])]).1 [1, 1, 1]) (SV × Eff × Bool)) (finK Try.prog [] [.cell 2 48]))) (.exit 0) (left (writes (cAt (codeOf Try.f83) [1, 1, 0, 1, 0, 0])) [4] [2] (⟨[.a (.g a0 48), .a (.w 0), .a (.w 1), .a (.w 2), .a (.i .i64 (0 : Int)), .a (.u), .a (.u), .a (.u), .a (.u), .a (.u), .a (.u), .a (.u), .a (.u), .a (.u), .a (.u)], [.row a0 48, .row (zc Try.prog 48) 48, .row (zc Try.prog 48) 48], []⟩ : St) ([.a (.i .i64 (z0_4))], [.row q0_2 48])) = (some (.a (.g q0_2 48), .none, true)) := by kernel_rfl
  refine h.trans ?_
  rfl

theorem laws_toInt64A36_n0 (N : Nat) (a0 : Array Value) : bindX (iterO (stepV Try.prog (mkΓ []) N (cAt (codeOf Try.f83) [1, 1, 0, 1, 0, 0]) (pAt (mkPlan (codeOf Try.f83) [([4], [2])]).1 [1, 1, 0, 1, 0]) [4] [2] (⟨[.a (.g a0 48), .a (.w 0), .a (.w 1), .a (.w 2), .a (.i .i64 (0 : Int)), .a (.u), .a (.u), .a (.u), .a (.u), .a (.u), .a (.u), .a (.u), .a (.u), .a (.u), .a (.u)], [.row a0 48, .row (zc Try.prog 48) 48, .row (zc Try.prog 48) 48], []⟩ : St)) N ([.a (.i .i64 (0 : Int))], [.row (zc Try.prog 48) 48])) (fun e s => (kBlock 0 (kSeq (veC Try.prog (mkΓ []) N (cAt (codeOf Try.f83) [1, 1, 1]) (pAt (mkPlan (codeOf Try.f83) [([4], [2])]).1 [1, 1, 1]) (SV × Eff × Bool)) (finK Try.prog [] [.cell 2 48]))) e (left (writes (cAt (codeOf Try.f83) [1, 1, 0, 1, 0, 0])) [4] [2] (⟨[.a (.g a0 48), .a (.w 0), .a (.w 1), .a (.w 2), .a (.i .i64 (0 : Int)), .a (.u), .a (.u), .a (.u), .a (.u), .a (.u), .a (.u), .a (.u), .a (.u), .a (.u), .a (.u)], [.row a0 48, .row (zc Try.prog 48) 48, .row (zc Try.prog 48) 48], []⟩ : St) s)) = nodeX (iterO (laws_toInt64A36_g0 Try.prog a0) N ((0 : Int), (zc Try.prog 48))) (fun x => laws_toInt64A36_k0_0 Try.prog N a0 x.1 x.2) := by
  refine loop_node laws_toInt64A36_e0 laws_toInt64A36_x0 _ _ (laws_toInt64A36_s0 N a0) N ((0 : Int), (zc Try.prog 48)) _ _ ?_
  intro x; exact laws_toInt64A36_k0_0_eq N a0 x.1 x.2

theorem laws_toInt64A36_ans (N : Nat) (a0 : Array Value) : ansV Try.prog (mkΓ []) N Try.f83 [([4], [2])] [.g a0 48] [] = (nodeX (iterO (laws_toInt64A36_g0 Try.prog a0) N ((0 : Int), (zc Try.prog 48))) (fun x => laws_toInt64A36_k0_0 Try.prog N a0 x.1 x.2)) := by
  have h : ansV Try.prog (mkΓ []) N Try.f83 [([4], [2])] [.g a0 48] [] = (bindX (iterO (stepV Try.prog (mkΓ []) N (cAt (codeOf Try.f83) [1, 1, 0, 1, 0, 0]) (pAt (mkPlan (codeOf Try.f83) [([4], [2])]).1 [1, 1, 0, 1, 0]) [4] [2] (⟨[.a (.g a0 48), .a (.w 0), .a (.w 1), .a (.w 2), .a (.i .i64 (0 : Int)), .a (.u), .a (.u), .a (.u), .a (.u), .a (.u), .a (.u), .a (.u), .a (.u), .a (.u), .a (.u)], [.row a0 48, .row (zc Try.prog 48) 48, .row (zc Try.prog 48) 48], []⟩ : St)) N ([.a (.i .i64 (0 : Int))], [.row (zc Try.prog 48) 48])) (fun e s => (kBlock 0 (kSeq (veC Try.prog (mkΓ []) N (cAt (codeOf Try.f83) [1, 1, 1]) (pAt (mkPlan (codeOf Try.f83) [([4], [2])]).1 [1, 1, 1]) (SV × Eff × Bool)) (finK Try.prog [] [.cell 2 48]))) e (left (writes (cAt (codeOf Try.f83) [1, 1, 0, 1, 0, 0])) [4] [2] (⟨[.a (.g a0 48), .a (.w 0), .a (.w 1), .a (.w 2), .a (.i .i64 (0 : Int)), .a (.u), .a (.u), .a (.u), .a (.u), .a (.u), .a (.u), .a (.u), .a (.u), .a (.u), .a (.u)], [.row a0 48, .row (zc Try.prog 48) 48, .row (zc Try.prog 48) 48], []⟩ : St) s))) := by kernel_rfl
  refine h.trans ?_
  simp only [laws_toInt64A36_n0]

theorem laws_toInt64A36_main (a0 : Array Value) (h_a0 : WT Try.prog 48 a0) (hg : (true) = true) : ansV Try.prog (mkΓ []) 1000 Try.f83 [([4], [2])] [.g a0 48] [] = some (.a (.g a0 48), .none, true) := by
  have hs : a0.size = (zc Try.prog 48).size := by rw [h_a0.layLen]; kernel_rfl
  have hz : a0.size = 36 := by rw [h_a0.layLen]; kernel_rfl
  have hL : ∀ k, k < 36 → (lay Try.prog 48)[k * 1]? = some 3 := by
    intro k hk
    have h : (List.range 36).all (fun k => (lay Try.prog 48)[k * 1]? == some 3) = true := by kernel_rfl
    exact eq_of_beq (List.all_eq_true.1 h k (List.mem_range.2 hk))
  have h := iter_all (g := laws_toInt64A36_g0 Try.prog a0) (fun k => ((k : Int), upto a0 (zc Try.prog 48) (k * 1))) (m := 36) (x := (((36 : Nat) : Int), upto a0 (zc Try.prog 48) (36 * 1))) (N := 1000) (fun k hk => by
    have h1 : decide ((k : Int) < 36) = true := decide_eq_true (by omega)
    have h0 : decide (0 ≤ (k : Int)) = true := decide_eq_true (by omega)
    have h3 : IntKind.i64.wrap ((k : Int) + 1) = ((k + 1 : Nat) : Int) := by rw [IntWalk.i64_in _ (by omega)]; omega
    have h4 : ((k : Int)).toNat = k := Int.toNat_natCast k
    have h5 : (upto a0 (zc Try.prog 48) (k * 1)).setIfInBounds (k * 1) (.int .i64 (num a0 (k * 1))) = upto a0 (zc Try.prog 48) ((k + 1) * 1) := by
      rw [Nat.add_mul]; exact upto_set hs (h_a0.int (k := .i64) (hL k hk)).1
    simp only [laws_toInt64A36_g0, h1, h0, Bool.and_self, h4, cond_true, h3, h5]) (by
    have h1 : decide (((36 : Nat) : Int) < 36) = false := by decide
    simp only [laws_toInt64A36_g0, h1, cond_false]) (by omega)
  simp only [Nat.zero_mul, upto_zero hs, upto_all hs hz] at h
  refine (laws_toInt64A36_ans 1000 a0).trans ?_
  have h' : iterO (laws_toInt64A36_g0 Try.prog a0) 1000 ((0 : Int), (zc Try.prog 48)) = some (((36 : Nat) : Int), a0) := h
  rw [h']
  rfl
noncomputable def laws_toInt64A36_con : Con := fun args h => match args, h with
  | [.g a0 48], [] => some (.a (.g a0 48), .none, true)
  | _, _ => none
theorem laws_toInt64A36_enter : ∀ args w, (callFunc 83 args).run Try.prog w = .ok (.enter 83 args) w := enter_ok (fn := Try.f83) (by kernel_rfl) (by kernel_rfl) (by kernel_rfl)
theorem laws_toInt64A36_ok : ConOk Try.prog 83 laws_toInt64A36_con := (ans_ok (N := 1000) (by kernel_rfl) mkΓ_nil (fn := Try.f83) (by kernel_rfl) (by kernel_rfl) [([4], [2])]).of (by
  intro ρ h w args vals r e hA hH hr
  unfold laws_toInt64A36_con at hr
  split at hr
  · rename_i a0
    obtain ⟨rfl, hg⟩ := Prod.mk.inj (Option.some.inj hr)
    obtain ⟨rfl, hg2⟩ := Prod.mk.inj hg
    exact laws_toInt64A36_main a0 (hA.wt 0 rfl) hg2
  · cases hr)

theorem laws_toSpread_ans (N : Nat) (a0 : Array Value) : ansV Try.prog (mkΓ [(83, con laws_toInt64A36_con)]) N Try.f31 [] [.g a0 55] [] = (some (.a (.g ((spl ((((zc Try.prog 50).setIfInBounds 0 (.int .i8 (num a0 0))).setIfInBounds 1 (.int .i8 (num a0 1))).setIfInBounds 2 (.int .i64 (num a0 2))) 3 (a0.extract 3 (3 + 36)).toList).setIfInBounds 39 (.int .i64 (num a0 39))) 50), .none, true)) := by kernel_rfl

theorem laws_toSpread_main (a0 : Array Value) (h_a0 : WT Try.prog 55 a0) (hg : (true) = true) : ansV Try.prog (mkΓ [(83, con laws_toInt64A36_con)]) 1000 Try.f31 [] [.g a0 55] [] = some (.a (.g a0 50), .none, true) := by
  have hs : a0.size = (zc Try.prog 50).size := by rw [h_a0.layLen]; kernel_rfl
  have hz : a0.size = 40 := by rw [h_a0.layLen]; kernel_rfl
  have e0 : (upto a0 (zc Try.prog 50) 0).setIfInBounds 0 (.int .i8 (num a0 0)) = upto a0 (zc Try.prog 50) 1 := upto_set hs (h_a0.int (k := .i8) (by kernel_rfl)).1
  rw [upto_zero hs] at e0
  have e1 : (upto a0 (zc Try.prog 50) 1).setIfInBounds 1 (.int .i8 (num a0 1)) = upto a0 (zc Try.prog 50) 2 := upto_set hs (h_a0.int (k := .i8) (by kernel_rfl)).1
  have e2 : (upto a0 (zc Try.prog 50) 2).setIfInBounds 2 (.int .i64 (num a0 2)) = upto a0 (zc Try.prog 50) 3 := upto_set hs (h_a0.int (k := .i64) (by kernel_rfl)).1
  have e3 : spl (upto a0 (zc Try.prog 50) 3) 3 (a0.extract 3 (3 + 36)).toList = upto a0 (zc Try.prog 50) 39 := upto_spl hs (by omega) rfl
  have e4 : (upto a0 (zc Try.prog 50) 39).setIfInBounds 39 (.int .i64 (num a0 39)) = upto a0 (zc Try.prog 50) 40 := upto_set hs (h_a0.int (k := .i64) (by kernel_rfl)).1
  refine (laws_toSpread_ans 1000 a0).trans ?_
  rw [e0, e1, e2, e3, e4, upto_all hs hz]
noncomputable def laws_toSpread_con : Con := fun args h => match args, h with
  | [.g a0 55], [] => some (.a (.g a0 50), .none, true)
  | _, _ => none
theorem laws_toSpread_enter : ∀ args w, (callFunc 31 args).run Try.prog w = .ok (.enter 31 args) w := enter_ok (fn := Try.f31) (by kernel_rfl) (by kernel_rfl) (by kernel_rfl)
theorem laws_toSpread_ok : ConOk Try.prog 31 laws_toSpread_con := (ans_ok (N := 1000) (by kernel_rfl) (mkΓ_cons (con_ok laws_toInt64A36_ok) laws_toInt64A36_enter mkΓ_nil) (fn := Try.f31) (by kernel_rfl) (by kernel_rfl) []).of (by
  intro ρ h w args vals r e hA hH hr
  unfold laws_toSpread_con at hr
  split at hr
  · rename_i a0
    obtain ⟨rfl, hg⟩ := Prod.mk.inj (Option.some.inj hr)
    obtain ⟨rfl, hg2⟩ := Prod.mk.inj hg
    exact laws_toSpread_main a0 (hA.wt 0 rfl) hg2
  · cases hr)

theorem tide_eq (t : Int) : impl_hasTide_v0 t = spec_l00In_v0 t 0 1 := by
  unfold impl_hasTide_v0 spec_l00In_v0
  by_cases h0 : t = 0
  · subst h0; rfl
  · by_cases h1 : t = 1
    · subst h1; rfl
    · rw [show (t == 0) = false from beq_eq_false_iff_ne.2 h0, show (t == 1) = false from beq_eq_false_iff_ne.2 h1]
      by_cases h2 : t ≥ 0
      · rw [decide_eq_true h2, decide_eq_false (show ¬ t ≤ 1 by omega)]; rfl
      · rw [decide_eq_false h2]; rfl
theorem tide_range {t : Int} (h : spec_l00In_v0 t 0 1 = true) : 0 ≤ t ∧ t ≤ 1 := by
  unfold spec_l00In_v0 at h
  cases h0 : decide (t ≥ 0) with
  | false => rw [h0] at h; exact nomatch h
  | true => rw [h0] at h; exact ⟨of_decide_eq_true h0, of_decide_eq_true h⟩

theorem bottles_eq (n hi : Int) : impl_hasBottles_v0 n hi = spec_l00In_v0 n 1 hi := by
  unfold impl_hasBottles_v0 spec_l00In_v0
  first | rfl | (cases decide (n ≥ 1) <;> rfl)

theorem wrap12 : ∀ k, k < 14 → IntKind.i64.wrap ((12 : Int) ^ k * 12) = 12 ^ (k + 1) := by decide

noncomputable def spec_l02Parts_e0 : Int × Int → LS
  | (y0_3, y0_4) => ([.a (.i .i64 (y0_3)), .a (.i .i64 (y0_4))], [])

noncomputable def spec_l02Parts_x0 : Int × Int → Exit × LS
  | t => ((.exit 0), spec_l02Parts_e0 t)

noncomputable def spec_l02Parts_g0 (P : Program) (a0 : Int) : Int × Int → Option (Stp (Int × Int) (Int × Int))
  | (y0_3, y0_4) => bif decide (y0_4 < a0) then (some (.more ((IntKind.i64.wrap (y0_3 * (12 : Int))), (IntKind.i64.wrap (y0_4 + (1 : Int))))))
    else (some (.done (y0_3, y0_4)))

theorem spec_l02Parts_s0 (N : Nat) (a0 : Int) : ∀ t : Int × Int, stepV Try.prog (mkΓ []) N (cAt (codeOf Try.f109) [1, 1, 0, 1, 0, 0]) (pAt (mkPlan (codeOf Try.f109) [([3, 4], [])]).1 [1, 1, 0, 1, 0]) [3, 4] [] (⟨[.a (.i .i64 (a0)), .a (.u), .a (.i .i64 (0 : Int)), .a (.i .i64 (1 : Int)), .a (.i .i64 (0 : Int)), .a (.u), .a (.u), .a (.u), .a (.u), .a (.u), .a (.u), .a (.u), .a (.u)], [], []⟩ : St) (spec_l02Parts_e0 t) = mapS spec_l02Parts_e0 spec_l02Parts_x0 (spec_l02Parts_g0 Try.prog a0 t) := by
  rintro ⟨y0_3, y0_4⟩
  have h : stepV Try.prog (mkΓ []) N (cAt (codeOf Try.f109) [1, 1, 0, 1, 0, 0]) (pAt (mkPlan (codeOf Try.f109) [([3, 4], [])]).1 [1, 1, 0, 1, 0]) [3, 4] [] (⟨[.a (.i .i64 (a0)), .a (.u), .a (.i .i64 (0 : Int)), .a (.i .i64 (1 : Int)), .a (.i .i64 (0 : Int)), .a (.u), .a (.u), .a (.u), .a (.u), .a (.u), .a (.u), .a (.u), .a (.u)], [], []⟩ : St) ([.a (.i .i64 (y0_3)), .a (.i .i64 (y0_4))], []) = (bif decide (y0_4 < a0) then (some (.more ([.a (.i .i64 (IntKind.i64.wrap (y0_3 * (12 : Int)))), .a (.i .i64 (IntKind.i64.wrap (y0_4 + (1 : Int))))], [])))
    else (some (.done ((.exit 0), ([.a (.i .i64 (y0_3)), .a (.i .i64 (y0_4))], []))))) := by kernel_rfl
  refine h.trans ?_
  simp only [spec_l02Parts_g0, mapS_cond, mapS_more, mapS_done, mapS_none, spec_l02Parts_e0, spec_l02Parts_x0]

noncomputable def spec_l02Parts_k0_0 (P : Program) (N : Nat) (a0 : Int) (z0_3 : Int) (z0_4 : Int) : Option (SV × Eff × Bool) := some (.a (.i .i64 (z0_3)), .none, true)

theorem spec_l02Parts_k0_0_eq (N : Nat) (a0 : Int) (z0_3 : Int) (z0_4 : Int) : (kBlock 0 (kSeq (veC Try.prog (mkΓ []) N (cAt (codeOf Try.f109) [1, 1, 1]) (pAt (mkPlan (codeOf Try.f109) [([3, 4], [])]).1 [1, 1, 1]) (SV × Eff × Bool)) (finK Try.prog [] [.tmp 2]))) (.exit 0) (left (writes (cAt (codeOf Try.f109) [1, 1, 0, 1, 0, 0])) [3, 4] [] (⟨[.a (.i .i64 (a0)), .a (.u), .a (.i .i64 (0 : Int)), .a (.i .i64 (1 : Int)), .a (.i .i64 (0 : Int)), .a (.u), .a (.u), .a (.u), .a (.u), .a (.u), .a (.u), .a (.u), .a (.u)], [], []⟩ : St) ([.a (.i .i64 (z0_3)), .a (.i .i64 (z0_4))], [])) = spec_l02Parts_k0_0 Try.prog N a0 z0_3 z0_4 := by
  have h : (kBlock 0 (kSeq (veC Try.prog (mkΓ []) N (cAt (codeOf Try.f109) [1, 1, 1]) (pAt (mkPlan (codeOf Try.f109) [([3, 4], [])]).1 [1, 1, 1]) (SV × Eff × Bool)) (finK Try.prog [] [.tmp 2]))) (.exit 0) (left (writes (cAt (codeOf Try.f109) [1, 1, 0, 1, 0, 0])) [3, 4] [] (⟨[.a (.i .i64 (a0)), .a (.u), .a (.i .i64 (0 : Int)), .a (.i .i64 (1 : Int)), .a (.i .i64 (0 : Int)), .a (.u), .a (.u), .a (.u), .a (.u), .a (.u), .a (.u), .a (.u), .a (.u)], [], []⟩ : St) ([.a (.i .i64 (z0_3)), .a (.i .i64 (z0_4))], [])) = (some (.a (.i .i64 (z0_3)), .none, true)) := by kernel_rfl
  refine h.trans ?_
  rfl

theorem spec_l02Parts_n0 (N : Nat) (a0 : Int) : bindX (iterO (stepV Try.prog (mkΓ []) N (cAt (codeOf Try.f109) [1, 1, 0, 1, 0, 0]) (pAt (mkPlan (codeOf Try.f109) [([3, 4], [])]).1 [1, 1, 0, 1, 0]) [3, 4] [] (⟨[.a (.i .i64 (a0)), .a (.u), .a (.i .i64 (0 : Int)), .a (.i .i64 (1 : Int)), .a (.i .i64 (0 : Int)), .a (.u), .a (.u), .a (.u), .a (.u), .a (.u), .a (.u), .a (.u), .a (.u)], [], []⟩ : St)) N ([.a (.i .i64 (1 : Int)), .a (.i .i64 (0 : Int))], [])) (fun e s => (kBlock 0 (kSeq (veC Try.prog (mkΓ []) N (cAt (codeOf Try.f109) [1, 1, 1]) (pAt (mkPlan (codeOf Try.f109) [([3, 4], [])]).1 [1, 1, 1]) (SV × Eff × Bool)) (finK Try.prog [] [.tmp 2]))) e (left (writes (cAt (codeOf Try.f109) [1, 1, 0, 1, 0, 0])) [3, 4] [] (⟨[.a (.i .i64 (a0)), .a (.u), .a (.i .i64 (0 : Int)), .a (.i .i64 (1 : Int)), .a (.i .i64 (0 : Int)), .a (.u), .a (.u), .a (.u), .a (.u), .a (.u), .a (.u), .a (.u), .a (.u)], [], []⟩ : St) s)) = nodeX (iterO (spec_l02Parts_g0 Try.prog a0) N ((1 : Int), (0 : Int))) (fun x => spec_l02Parts_k0_0 Try.prog N a0 x.1 x.2) := by
  refine loop_node spec_l02Parts_e0 spec_l02Parts_x0 _ _ (spec_l02Parts_s0 N a0) N ((1 : Int), (0 : Int)) _ _ ?_
  intro x; exact spec_l02Parts_k0_0_eq N a0 x.1 x.2

theorem spec_l02Parts_ans (N : Nat) (a0 : Int) : ansV Try.prog (mkΓ []) N Try.f109 [([3, 4], [])] [.i .i64 (a0)] [] = (nodeX (iterO (spec_l02Parts_g0 Try.prog a0) N ((1 : Int), (0 : Int))) (fun x => spec_l02Parts_k0_0 Try.prog N a0 x.1 x.2)) := by
  have h : ansV Try.prog (mkΓ []) N Try.f109 [([3, 4], [])] [.i .i64 (a0)] [] = (bindX (iterO (stepV Try.prog (mkΓ []) N (cAt (codeOf Try.f109) [1, 1, 0, 1, 0, 0]) (pAt (mkPlan (codeOf Try.f109) [([3, 4], [])]).1 [1, 1, 0, 1, 0]) [3, 4] [] (⟨[.a (.i .i64 (a0)), .a (.u), .a (.i .i64 (0 : Int)), .a (.i .i64 (1 : Int)), .a (.i .i64 (0 : Int)), .a (.u), .a (.u), .a (.u), .a (.u), .a (.u), .a (.u), .a (.u), .a (.u)], [], []⟩ : St)) N ([.a (.i .i64 (1 : Int)), .a (.i .i64 (0 : Int))], [])) (fun e s => (kBlock 0 (kSeq (veC Try.prog (mkΓ []) N (cAt (codeOf Try.f109) [1, 1, 1]) (pAt (mkPlan (codeOf Try.f109) [([3, 4], [])]).1 [1, 1, 1]) (SV × Eff × Bool)) (finK Try.prog [] [.tmp 2]))) e (left (writes (cAt (codeOf Try.f109) [1, 1, 0, 1, 0, 0])) [3, 4] [] (⟨[.a (.i .i64 (a0)), .a (.u), .a (.i .i64 (0 : Int)), .a (.i .i64 (1 : Int)), .a (.i .i64 (0 : Int)), .a (.u), .a (.u), .a (.u), .a (.u), .a (.u), .a (.u), .a (.u), .a (.u)], [], []⟩ : St) s))) := by kernel_rfl
  refine h.trans ?_
  simp only [spec_l02Parts_n0]

theorem spec_l02Parts_main (a0 : Int) (h_a0 : IntKind.i64.min ≤ a0 ∧ a0 ≤ IntKind.i64.max) (hg : ((decide (0 ≤ a0) && decide (a0 ≤ 14))) = true) : ansV Try.prog (mkΓ []) 1000 Try.f109 [([3, 4], [])] [.i .i64 (a0)] [] = some (.a (.i .i64 (12 ^ a0.toNat)), .none, true) := by
  simp only [Bool.and_eq_true, decide_eq_true_eq] at hg
  obtain ⟨h0, h14⟩ := hg
  obtain ⟨m, rfl⟩ := Int.eq_ofNat_of_zero_le h0
  refine (spec_l02Parts_ans 1000 _).trans ?_
  have h := iter_all (g := spec_l02Parts_g0 Try.prog (m : Int)) (fun k => ((12 : Int) ^ k, (k : Int))) (m := m) (x := ((12 : Int) ^ m, (m : Int))) (N := 1000) (fun k hk => by
    have h1 : decide ((k : Int) < (m : Int)) = true := decide_eq_true (by omega)
    have h2 : IntKind.i64.wrap ((k : Int) + 1) = ((k + 1 : Nat) : Int) := by rw [IntWalk.i64_in _ (by omega)]; omega
    simp only [spec_l02Parts_g0, h1, cond_true, wrap12 k (by omega), h2]) (by
    have h1 : decide ((m : Int) < (m : Int)) = false := decide_eq_false (by omega)
    simp only [spec_l02Parts_g0, h1, cond_false]) (by omega)
  have h' : iterO (spec_l02Parts_g0 Try.prog (m : Int)) 1000 ((1 : Int), (0 : Int)) = some ((12 : Int) ^ m, (m : Int)) := h
  rw [h']
  rfl
noncomputable def spec_l02Parts_con : Con := fun args h => match args, h with
  | [.i .i64 a0], [] => some (.a (.i .i64 (12 ^ a0.toNat)), .none, (decide (0 ≤ a0) && decide (a0 ≤ 14)))
  | _, _ => none
theorem spec_l02Parts_enter : ∀ args w, (callFunc 109 args).run Try.prog w = .ok (.enter 109 args) w := enter_ok (fn := Try.f109) (by kernel_rfl) (by kernel_rfl) (by kernel_rfl)
theorem spec_l02Parts_ok : ConOk Try.prog 109 spec_l02Parts_con := (ans_ok (N := 1000) (by kernel_rfl) mkΓ_nil (fn := Try.f109) (by kernel_rfl) (by kernel_rfl) [([3, 4], [])]).of (by
  intro ρ h w args vals r e hA hH hr
  unfold spec_l02Parts_con at hr
  split at hr
  · rename_i a0
    obtain ⟨rfl, hg⟩ := Prod.mk.inj (Option.some.inj hr)
    obtain ⟨rfl, hg2⟩ := Prod.mk.inj hg
    exact spec_l02Parts_main a0 (hA.rng 0 rfl) hg2
  · cases hr)

noncomputable def impl_partsAfter_e0 : Int × Int → LS
  | (y0_3, y0_5) => ([.a (.i .i64 (y0_3)), .a (.i .i64 (y0_5))], [])

noncomputable def impl_partsAfter_x0 : Int × Int → Exit × LS
  | t => ((.exit 0), impl_partsAfter_e0 t)

noncomputable def impl_partsAfter_g0 (P : Program) (a0 : Int) : Int × Int → Option (Stp (Int × Int) (Int × Int))
  | (y0_3, y0_5) => bif decide (y0_5 < a0) then (some (.more ((IntKind.i64.wrap (y0_3 * (12 : Int))), (IntKind.i64.wrap (y0_5 + (1 : Int))))))
    else (some (.done (y0_3, y0_5)))

theorem impl_partsAfter_s0 (N : Nat) (a0 : Int) : ∀ t : Int × Int, stepV Try.prog (mkΓ []) N (cAt (codeOf Try.f112) [1, 1, 0, 1, 0, 0]) (pAt (mkPlan (codeOf Try.f112) [([3, 5], [])]).1 [1, 1, 0, 1, 0]) [3, 5] [] (⟨[.a (.i .i64 (a0)), .a (.u), .a (.i .i64 (0 : Int)), .a (.i .i64 (1 : Int)), .a (.i .i64 (a0)), .a (.i .i64 (0 : Int)), .a (.u), .a (.u), .a (.u), .a (.u), .a (.u)], [], []⟩ : St) (impl_partsAfter_e0 t) = mapS impl_partsAfter_e0 impl_partsAfter_x0 (impl_partsAfter_g0 Try.prog a0 t) := by
  rintro ⟨y0_3, y0_5⟩
  have h : stepV Try.prog (mkΓ []) N (cAt (codeOf Try.f112) [1, 1, 0, 1, 0, 0]) (pAt (mkPlan (codeOf Try.f112) [([3, 5], [])]).1 [1, 1, 0, 1, 0]) [3, 5] [] (⟨[.a (.i .i64 (a0)), .a (.u), .a (.i .i64 (0 : Int)), .a (.i .i64 (1 : Int)), .a (.i .i64 (a0)), .a (.i .i64 (0 : Int)), .a (.u), .a (.u), .a (.u), .a (.u), .a (.u)], [], []⟩ : St) ([.a (.i .i64 (y0_3)), .a (.i .i64 (y0_5))], []) = (bif decide (y0_5 < a0) then (some (.more ([.a (.i .i64 (IntKind.i64.wrap (y0_3 * (12 : Int)))), .a (.i .i64 (IntKind.i64.wrap (y0_5 + (1 : Int))))], [])))
    else (some (.done ((.exit 0), ([.a (.i .i64 (y0_3)), .a (.i .i64 (y0_5))], []))))) := by kernel_rfl
  refine h.trans ?_
  simp only [impl_partsAfter_g0, mapS_cond, mapS_more, mapS_done, mapS_none, impl_partsAfter_e0, impl_partsAfter_x0]

noncomputable def impl_partsAfter_k0_0 (P : Program) (N : Nat) (a0 : Int) (z0_3 : Int) (z0_5 : Int) : Option (SV × Eff × Bool) := some (.a (.i .i64 (z0_3)), .none, true)

theorem impl_partsAfter_k0_0_eq (N : Nat) (a0 : Int) (z0_3 : Int) (z0_5 : Int) : (kBlock 0 (kSeq (veC Try.prog (mkΓ []) N (cAt (codeOf Try.f112) [1, 1, 1]) (pAt (mkPlan (codeOf Try.f112) [([3, 5], [])]).1 [1, 1, 1]) (SV × Eff × Bool)) (finK Try.prog [] [.tmp 2]))) (.exit 0) (left (writes (cAt (codeOf Try.f112) [1, 1, 0, 1, 0, 0])) [3, 5] [] (⟨[.a (.i .i64 (a0)), .a (.u), .a (.i .i64 (0 : Int)), .a (.i .i64 (1 : Int)), .a (.i .i64 (a0)), .a (.i .i64 (0 : Int)), .a (.u), .a (.u), .a (.u), .a (.u), .a (.u)], [], []⟩ : St) ([.a (.i .i64 (z0_3)), .a (.i .i64 (z0_5))], [])) = impl_partsAfter_k0_0 Try.prog N a0 z0_3 z0_5 := by
  have h : (kBlock 0 (kSeq (veC Try.prog (mkΓ []) N (cAt (codeOf Try.f112) [1, 1, 1]) (pAt (mkPlan (codeOf Try.f112) [([3, 5], [])]).1 [1, 1, 1]) (SV × Eff × Bool)) (finK Try.prog [] [.tmp 2]))) (.exit 0) (left (writes (cAt (codeOf Try.f112) [1, 1, 0, 1, 0, 0])) [3, 5] [] (⟨[.a (.i .i64 (a0)), .a (.u), .a (.i .i64 (0 : Int)), .a (.i .i64 (1 : Int)), .a (.i .i64 (a0)), .a (.i .i64 (0 : Int)), .a (.u), .a (.u), .a (.u), .a (.u), .a (.u)], [], []⟩ : St) ([.a (.i .i64 (z0_3)), .a (.i .i64 (z0_5))], [])) = (some (.a (.i .i64 (z0_3)), .none, true)) := by kernel_rfl
  refine h.trans ?_
  rfl

theorem impl_partsAfter_n0 (N : Nat) (a0 : Int) : bindX (iterO (stepV Try.prog (mkΓ []) N (cAt (codeOf Try.f112) [1, 1, 0, 1, 0, 0]) (pAt (mkPlan (codeOf Try.f112) [([3, 5], [])]).1 [1, 1, 0, 1, 0]) [3, 5] [] (⟨[.a (.i .i64 (a0)), .a (.u), .a (.i .i64 (0 : Int)), .a (.i .i64 (1 : Int)), .a (.i .i64 (a0)), .a (.i .i64 (0 : Int)), .a (.u), .a (.u), .a (.u), .a (.u), .a (.u)], [], []⟩ : St)) N ([.a (.i .i64 (1 : Int)), .a (.i .i64 (0 : Int))], [])) (fun e s => (kBlock 0 (kSeq (veC Try.prog (mkΓ []) N (cAt (codeOf Try.f112) [1, 1, 1]) (pAt (mkPlan (codeOf Try.f112) [([3, 5], [])]).1 [1, 1, 1]) (SV × Eff × Bool)) (finK Try.prog [] [.tmp 2]))) e (left (writes (cAt (codeOf Try.f112) [1, 1, 0, 1, 0, 0])) [3, 5] [] (⟨[.a (.i .i64 (a0)), .a (.u), .a (.i .i64 (0 : Int)), .a (.i .i64 (1 : Int)), .a (.i .i64 (a0)), .a (.i .i64 (0 : Int)), .a (.u), .a (.u), .a (.u), .a (.u), .a (.u)], [], []⟩ : St) s)) = nodeX (iterO (impl_partsAfter_g0 Try.prog a0) N ((1 : Int), (0 : Int))) (fun x => impl_partsAfter_k0_0 Try.prog N a0 x.1 x.2) := by
  refine loop_node impl_partsAfter_e0 impl_partsAfter_x0 _ _ (impl_partsAfter_s0 N a0) N ((1 : Int), (0 : Int)) _ _ ?_
  intro x; exact impl_partsAfter_k0_0_eq N a0 x.1 x.2

theorem impl_partsAfter_ans (N : Nat) (a0 : Int) : ansV Try.prog (mkΓ []) N Try.f112 [([3, 5], [])] [.i .i64 (a0)] [] = (nodeX (iterO (impl_partsAfter_g0 Try.prog a0) N ((1 : Int), (0 : Int))) (fun x => impl_partsAfter_k0_0 Try.prog N a0 x.1 x.2)) := by
  have h : ansV Try.prog (mkΓ []) N Try.f112 [([3, 5], [])] [.i .i64 (a0)] [] = (bindX (iterO (stepV Try.prog (mkΓ []) N (cAt (codeOf Try.f112) [1, 1, 0, 1, 0, 0]) (pAt (mkPlan (codeOf Try.f112) [([3, 5], [])]).1 [1, 1, 0, 1, 0]) [3, 5] [] (⟨[.a (.i .i64 (a0)), .a (.u), .a (.i .i64 (0 : Int)), .a (.i .i64 (1 : Int)), .a (.i .i64 (a0)), .a (.i .i64 (0 : Int)), .a (.u), .a (.u), .a (.u), .a (.u), .a (.u)], [], []⟩ : St)) N ([.a (.i .i64 (1 : Int)), .a (.i .i64 (0 : Int))], [])) (fun e s => (kBlock 0 (kSeq (veC Try.prog (mkΓ []) N (cAt (codeOf Try.f112) [1, 1, 1]) (pAt (mkPlan (codeOf Try.f112) [([3, 5], [])]).1 [1, 1, 1]) (SV × Eff × Bool)) (finK Try.prog [] [.tmp 2]))) e (left (writes (cAt (codeOf Try.f112) [1, 1, 0, 1, 0, 0])) [3, 5] [] (⟨[.a (.i .i64 (a0)), .a (.u), .a (.i .i64 (0 : Int)), .a (.i .i64 (1 : Int)), .a (.i .i64 (a0)), .a (.i .i64 (0 : Int)), .a (.u), .a (.u), .a (.u), .a (.u), .a (.u)], [], []⟩ : St) s))) := by kernel_rfl
  refine h.trans ?_
  simp only [impl_partsAfter_n0]

theorem impl_partsAfter_main (a0 : Int) (h_a0 : IntKind.i64.min ≤ a0 ∧ a0 ≤ IntKind.i64.max) (hg : ((decide (0 ≤ a0) && decide (a0 ≤ 14))) = true) : ansV Try.prog (mkΓ []) 1000 Try.f112 [([3, 5], [])] [.i .i64 (a0)] [] = some (.a (.i .i64 (12 ^ a0.toNat)), .none, true) := by
  simp only [Bool.and_eq_true, decide_eq_true_eq] at hg
  obtain ⟨h0, h14⟩ := hg
  obtain ⟨m, rfl⟩ := Int.eq_ofNat_of_zero_le h0
  refine (impl_partsAfter_ans 1000 _).trans ?_
  have h := iter_all (g := impl_partsAfter_g0 Try.prog (m : Int)) (fun k => ((12 : Int) ^ k, (k : Int))) (m := m) (x := ((12 : Int) ^ m, (m : Int))) (N := 1000) (fun k hk => by
    have h1 : decide ((k : Int) < (m : Int)) = true := decide_eq_true (by omega)
    have h2 : IntKind.i64.wrap ((k : Int) + 1) = ((k + 1 : Nat) : Int) := by rw [IntWalk.i64_in _ (by omega)]; omega
    simp only [impl_partsAfter_g0, h1, cond_true, wrap12 k (by omega), h2]) (by
    have h1 : decide ((m : Int) < (m : Int)) = false := decide_eq_false (by omega)
    simp only [impl_partsAfter_g0, h1, cond_false]) (by omega)
  have h' : iterO (impl_partsAfter_g0 Try.prog (m : Int)) 1000 ((1 : Int), (0 : Int)) = some ((12 : Int) ^ m, (m : Int)) := h
  rw [h']
  rfl
noncomputable def impl_partsAfter_con : Con := fun args h => match args, h with
  | [.i .i64 a0], [] => some (.a (.i .i64 (12 ^ a0.toNat)), .none, (decide (0 ≤ a0) && decide (a0 ≤ 14)))
  | _, _ => none
theorem impl_partsAfter_enter : ∀ args w, (callFunc 112 args).run Try.prog w = .ok (.enter 112 args) w := enter_ok (fn := Try.f112) (by kernel_rfl) (by kernel_rfl) (by kernel_rfl)
theorem impl_partsAfter_ok : ConOk Try.prog 112 impl_partsAfter_con := (ans_ok (N := 1000) (by kernel_rfl) mkΓ_nil (fn := Try.f112) (by kernel_rfl) (by kernel_rfl) [([3, 5], [])]).of (by
  intro ρ h w args vals r e hA hH hr
  unfold impl_partsAfter_con at hr
  split at hr
  · rename_i a0
    obtain ⟨rfl, hg⟩ := Prod.mk.inj (Option.some.inj hr)
    obtain ⟨rfl, hg2⟩ := Prod.mk.inj hg
    exact impl_partsAfter_main a0 (hA.rng 0 rfl) hg2
  · cases hr)

theorem impl_allOf_ans (N : Nat) (a0 : Array Value) : ansV Try.prog (mkΓ [(112, con impl_partsAfter_con)]) N Try.f86 [] [.g a0 50] [] = (bif (decide (0 ≤ (IntKind.i64.wrap (num a0 1))) && decide ((IntKind.i64.wrap (num a0 1)) ≤ 14)) then (some (.a (.i .i64 (IntKind.i64.wrap ((num a0 2) * (12 ^ (IntKind.i64.wrap (num a0 1)).toNat)))), .none, true))
    else (none)) := by kernel_rfl

noncomputable def impl_allOf_v0 (a0 : Array Value) : Int := (IntKind.i64.wrap ((num a0 2) * (12 ^ (IntKind.i64.wrap (num a0 1)).toNat)))
noncomputable def impl_allOf_gd (a0 : Array Value) : Bool := (decide (0 ≤ (IntKind.i64.wrap (num a0 1))) && decide ((IntKind.i64.wrap (num a0 1)) ≤ 14))

theorem impl_allOf_main (a0 : Array Value) (h_a0 : WT Try.prog 50 a0) (hg : ((impl_allOf_gd a0)) = true) : ansV Try.prog (mkΓ [(112, con impl_partsAfter_con)]) 1000 Try.f86 [] [.g a0 50] [] = some (.a (.i .i64 (impl_allOf_v0 a0)), .none, true) := by
  refine (impl_allOf_ans 1000 a0).trans ?_
  unfold impl_allOf_gd at hg
  unfold impl_allOf_v0
  revert hg
  generalize (decide (0 ≤ (IntKind.i64.wrap (num a0 1)))) = b2
  intro hg
  cases b2
  · skip
    first | exact (nomatch (hg : false = true)) | (simp only [cond_true, cond_false, Bool.and_true, Bool.true_and, Bool.and_false, Bool.false_and]; done) | rfl
  · skip
    revert hg
    generalize (decide ((IntKind.i64.wrap (num a0 1)) ≤ 14)) = b4
    intro hg
    cases b4
    · skip
      first | exact (nomatch (hg : false = true)) | (simp only [cond_true, cond_false, Bool.and_true, Bool.true_and, Bool.and_false, Bool.false_and]; done) | rfl
    · skip
      first | (simp only [cond_true, cond_false, Bool.and_true, Bool.true_and, Bool.and_false, Bool.false_and]; done) | rfl | exact (nomatch (hg : false = true))
noncomputable def impl_allOf_con : Con := fun args h => match args, h with
  | [.g a0 50], [] => some (.a (.i .i64 (impl_allOf_v0 a0)), .none, (impl_allOf_gd a0))
  | _, _ => none
theorem impl_allOf_enter : ∀ args w, (callFunc 86 args).run Try.prog w = .ok (.enter 86 args) w := enter_ok (fn := Try.f86) (by kernel_rfl) (by kernel_rfl) (by kernel_rfl)
theorem impl_allOf_ok : ConOk Try.prog 86 impl_allOf_con := (ans_ok (N := 1000) (by kernel_rfl) (mkΓ_cons (con_ok impl_partsAfter_ok) impl_partsAfter_enter mkΓ_nil) (fn := Try.f86) (by kernel_rfl) (by kernel_rfl) []).of (by
  intro ρ h w args vals r e hA hH hr
  unfold impl_allOf_con at hr
  split at hr
  · rename_i a0
    obtain ⟨rfl, hg⟩ := Prod.mk.inj (Option.some.inj hr)
    obtain ⟨rfl, hg2⟩ := Prod.mk.inj hg
    exact impl_allOf_main a0 (hA.wt 0 rfl) hg2
  · cases hr)

theorem impl_hasHours_ans (N : Nat) (a0 : Int) : ansV Try.prog (mkΓ []) N Try.f116 [] [.i .i64 (a0)] [] = (bif decide (a0 ≥ (0 : Int)) then (some (.a (.b (decide (a0 ≤ (14 : Int)))), .none, true))
    else (some (.a (.b (false)), .none, true))) := by kernel_rfl

noncomputable def impl_hasHours_v0 (a0 : Int) : Bool := (bif decide (a0 ≥ (0 : Int)) then decide (a0 ≤ (14 : Int)) else false)

theorem impl_hasHours_main (a0 : Int) (h_a0 : IntKind.i64.min ≤ a0 ∧ a0 ≤ IntKind.i64.max) (hg : (true) = true) : ansV Try.prog (mkΓ []) 1000 Try.f116 [] [.i .i64 (a0)] [] = some (.a (.b ((impl_hasHours_v0 a0))), .none, true) := by
  refine (impl_hasHours_ans 1000 a0).trans ?_
  unfold impl_hasHours_v0
  revert hg
  generalize (decide (a0 ≥ (0 : Int))) = b2
  intro hg
  cases b2
  · skip
    first | (simp only [cond_true, cond_false, Bool.and_true, Bool.true_and, Bool.and_false, Bool.false_and]; done) | rfl | exact (nomatch (hg : false = true))
  · skip
    first | (simp only [cond_true, cond_false, Bool.and_true, Bool.true_and, Bool.and_false, Bool.false_and]; done) | rfl | exact (nomatch (hg : false = true))
noncomputable def impl_hasHours_con : Con := fun args h => match args, h with
  | [.i .i64 a0], [] => some (.a (.b ((impl_hasHours_v0 a0))), .none, true)
  | _, _ => none
theorem impl_hasHours_enter : ∀ args w, (callFunc 116 args).run Try.prog w = .ok (.enter 116 args) w := enter_ok (fn := Try.f116) (by kernel_rfl) (by kernel_rfl) (by kernel_rfl)
theorem impl_hasHours_ok : ConOk Try.prog 116 impl_hasHours_con := (ans_ok (N := 1000) (by kernel_rfl) mkΓ_nil (fn := Try.f116) (by kernel_rfl) (by kernel_rfl) []).of (by
  intro ρ h w args vals r e hA hH hr
  unfold impl_hasHours_con at hr
  split at hr
  · rename_i a0
    obtain ⟨rfl, hg⟩ := Prod.mk.inj (Option.some.inj hr)
    obtain ⟨rfl, hg2⟩ := Prod.mk.inj hg
    exact impl_hasHours_main a0 (hA.rng 0 rfl) hg2
  · cases hr)


noncomputable def leftW (X : Int) (D : Array Value) : Nat → Int
  | 0 => X
  | k + 1 => IntKind.i64.wrap (leftW X D k - num D (3 + k * 1))
noncomputable def allB (p : Nat → Bool) : Bool := (List.range 36).all p
theorem allB_iff (p : Nat → Bool) : allB p = true ↔ ∀ k, k < 36 → p k = true := by
  unfold allB; rw [List.all_eq_true]
  exact ⟨fun h k hk => h k (List.mem_range.2 hk), fun h k hk => h k (List.mem_range.1 hk)⟩
noncomputable def pS (S D : Array Value) (X : Int) (k : Nat) : Bool := spec_l00In_v0 (num D (3 + k * 1)) 0 (leftW X D k) && (!(num D (3 + k * 1) != 0) || spec_l01Is_v0 (k : Int) S)
noncomputable def pI (S D : Array Value) (X : Int) (k : Nat) : Bool := !(decide (num D (3 + k * 1) < 0)) && (!(decide (num D (3 + k * 1) > leftW X D k)) && (!(decide (num D (3 + k * 1) > 0)) || impl_hasCell_v0 S (k : Int)))
noncomputable def allW (D : Array Value) : Int := IntKind.i64.wrap ((num D 2) * (12 ^ (IntKind.i64.wrap (num D 1)).toNat))
noncomputable def specSp (S D : Array Value) : Bool := bif (!(spec_l00In_v0 (IntKind.i64.wrap (num D 0)) 0 1)) then false else bif (!(spec_l00In_v0 (IntKind.i64.wrap (num D 1)) 0 14)) then false else bif (!(spec_l00In_v0 (num D 2) 1 1000)) then false else bif (!(spec_l00In_v0 (num D 39) 0 (allW D))) then false else (allB (pS S D (IntKind.i64.wrap (allW D - num D 39))) && (leftW (IntKind.i64.wrap (allW D - num D 39)) D 36 == 0))
noncomputable def implSp (S D : Array Value) : Bool := allB (pI S D (allW D)) && (num D 39 == leftW (allW D) D 36)
theorem in_range {x a b : Int} (h : spec_l00In_v0 x a b = true) : a ≤ x ∧ x ≤ b := by
  unfold spec_l00In_v0 at h
  cases h0 : decide (x ≥ a) with
  | false => rw [h0] at h; exact nomatch h
  | true => rw [h0] at h; exact ⟨of_decide_eq_true h0, of_decide_eq_true h⟩
theorem in_of {x a b : Int} (h : a ≤ x ∧ x ≤ b) : spec_l00In_v0 x a b = true := by
  unfold spec_l00In_v0; rw [decide_eq_true (show x ≥ a from h.1), decide_eq_true h.2]; rfl
theorem cell_num {D : Array Value} {T : TypeId} (hz : D.size = 40) (k : Nat) (hk : k < 36) : num (D.extract 3 (3 + 36)) (k * 1) = num D (3 + k * 1) := by
  unfold num
  rw [Array.getElem?_extract, if_pos (by omega)]

noncomputable def spec_l02Ok_e0 : Bool × Int × Int → LS
  | (y0_4, y0_5, y0_6) => ([.a (.b (y0_4)), .a (.i .i64 (y0_5)), .a (.i .i64 (y0_6))], [])

noncomputable def spec_l02Ok_x0 : (Stp (Bool × Int × Int) (Bool × Int × Int)) → Exit × LS
  | .more t => (.ret, spec_l02Ok_e0 t)
  | .done t => ((.exit 0), spec_l02Ok_e0 t)

noncomputable def spec_l02Ok_g0 (P : Program) (a0 : Array Value) (a1 : Array Value) : Bool × Int × Int → Option (Stp (Bool × Int × Int) (Stp (Bool × Int × Int) (Bool × Int × Int)))
  | (y0_4, y0_5, y0_6) => bif decide (y0_6 < (36 : Int)) then (bif (decide (0 ≤ y0_6) && decide (y0_6 < 36)) then (bif (!((spec_l00In_v0 (num a1 (3 + ((y0_6).toNat * 1))) (0 : Int) y0_5))) then (some (.done (.more (false, y0_5, y0_6))))
        else (bif (decide (0 ≤ y0_6) && decide (y0_6 < 36)) then (bif ((num a1 (3 + ((y0_6).toNat * 1))) != (0 : Int)) then (bif (!((spec_l01Is_v0 y0_6 a0))) then (some (.done (.more (false, y0_5, y0_6))))
              else (bif (decide (0 ≤ y0_6) && decide (y0_6 < 36)) then (some (.more (y0_4, (IntKind.i64.wrap (y0_5 - (num a1 (3 + ((y0_6).toNat * 1))))), (IntKind.i64.wrap (y0_6 + (1 : Int))))))
                else (none)))
            else (bif (decide (0 ≤ y0_6) && decide (y0_6 < 36)) then (some (.more (y0_4, (IntKind.i64.wrap (y0_5 - (num a1 (3 + ((y0_6).toNat * 1))))), (IntKind.i64.wrap (y0_6 + (1 : Int))))))
              else (none)))
          else (none)))
      else (none))
    else (some (.done (.done (y0_4, y0_5, y0_6))))

theorem spec_l02Ok_s0 (N : Nat) (a0 : Array Value) (a1 : Array Value) : ∀ t : Bool × Int × Int, stepV Try.prog (mkΓ [(52, con spec_l00In_con), (68, con spec_l01Is_con), (75, con spec_l01Tide_con), (109, con spec_l02Parts_con)]) N (cAt (codeOf Try.f107) [1, 1, 1, 1, 1, 0, 1, 0, 0]) (pAt (mkPlan (codeOf Try.f107) [([4, 5, 6], [])]).1 [1, 1, 1, 1, 1, 0, 1, 0]) [4, 5, 6] [] (⟨[.a (.w 0), .a (.w 1), .a (.u), .a (.u), .a (.b (false)), .a (.i .i64 (IntKind.i64.wrap ((IntKind.i64.wrap ((num a1 2) * (12 ^ (IntKind.i64.wrap (num a1 1)).toNat))) - (num a1 39)))), .a (.i .i64 (0 : Int)), .a (.w 1), .a (.w 1), .a (.p 1 (0) 23), .a (.i .i8 (num a1 0)), .a (.i .i64 (IntKind.i64.wrap (num a1 0))), .a (.b ((spec_l00In_v0 (IntKind.i64.wrap (num a1 0)) (0 : Int) (1 : Int)))), .a (.b ((!((spec_l00In_v0 (IntKind.i64.wrap (num a1 0)) (0 : Int) (1 : Int)))))), .a (.b (false)), .a (.w 1), .a (.w 1), .a (.p 1 (1) 23), .a (.i .i8 (num a1 1)), .a (.i .i64 (IntKind.i64.wrap (num a1 1))), .a (.b ((spec_l00In_v0 (IntKind.i64.wrap (num a1 1)) (0 : Int) (14 : Int)))), .a (.b ((!((spec_l00In_v0 (IntKind.i64.wrap (num a1 1)) (0 : Int) (14 : Int)))))), .a (.b ((!((spec_l00In_v0 (IntKind.i64.wrap (num a1 1)) (0 : Int) (14 : Int)))))), .a (.b (false)), .a (.w 1), .a (.w 1), .a (.p 1 (2) 2), .a (.i .i64 (num a1 2)), .a (.b ((spec_l00In_v0 (num a1 2) (1 : Int) (1000 : Int)))), .a (.b ((!((spec_l00In_v0 (num a1 2) (1 : Int) (1000 : Int)))))), .a (.b ((!((spec_l00In_v0 (num a1 2) (1 : Int) (1000 : Int)))))), .a (.w 1), .a (.w 1), .a (.p 1 (2) 2), .a (.i .i64 (num a1 2)), .a (.w 1), .a (.w 1), .a (.p 1 (1) 23), .a (.i .i8 (num a1 1)), .a (.i .i64 (IntKind.i64.wrap (num a1 1))), .a (.i .i64 (12 ^ (IntKind.i64.wrap (num a1 1)).toNat)), .a (.i .i64 (IntKind.i64.wrap ((num a1 2) * (12 ^ (IntKind.i64.wrap (num a1 1)).toNat)))), .a (.w 1), .a (.w 1), .a (.p 1 (39) 2), .a (.i .i64 (num a1 39)), .a (.i .i64 (IntKind.i64.wrap ((num a1 2) * (12 ^ (IntKind.i64.wrap (num a1 1)).toNat)))), .a (.b ((spec_l00In_v0 (num a1 39) (0 : Int) (IntKind.i64.wrap ((num a1 2) * (12 ^ (IntKind.i64.wrap (num a1 1)).toNat)))))), .a (.b ((!((spec_l00In_v0 (num a1 39) (0 : Int) (IntKind.i64.wrap ((num a1 2) * (12 ^ (IntKind.i64.wrap (num a1 1)).toNat)))))))), .a (.i .i64 (IntKind.i64.wrap ((num a1 2) * (12 ^ (IntKind.i64.wrap (num a1 1)).toNat)))), .a (.w 1), .a (.w 1), .a (.p 1 (39) 2), .a (.i .i64 (num a1 39)), .a (.i .i64 (IntKind.i64.wrap ((IntKind.i64.wrap ((num a1 2) * (12 ^ (IntKind.i64.wrap (num a1 1)).toNat))) - (num a1 39)))), .a (.u), .a (.u), .a (.u), .a (.u), .a (.u), .a (.u), .a (.u), .a (.u), .a (.u), .a (.u), .a (.u), .a (.u), .a (.u), .a (.u), .a (.u), .a (.u), .a (.u), .a (.u), .a (.u), .a (.u), .a (.u), .a (.u), .a (.u), .a (.u), .a (.u), .a (.u), .a (.u), .a (.u), .a (.u), .a (.u), .a (.u), .a (.u), .a (.u), .a (.u), .a (.u), .a (.u), .a (.u), .a (.u)], [.row a0 29, .row a1 50, .no, .no, .no, .no, .no, .no, .no, .no, .no, .no, .no, .no], []⟩ : St) (spec_l02Ok_e0 t) = mapS spec_l02Ok_e0 spec_l02Ok_x0 (spec_l02Ok_g0 Try.prog a0 a1 t) := by
  rintro ⟨y0_4, y0_5, y0_6⟩
  have h : stepV Try.prog (mkΓ [(52, con spec_l00In_con), (68, con spec_l01Is_con), (75, con spec_l01Tide_con), (109, con spec_l02Parts_con)]) N (cAt (codeOf Try.f107) [1, 1, 1, 1, 1, 0, 1, 0, 0]) (pAt (mkPlan (codeOf Try.f107) [([4, 5, 6], [])]).1 [1, 1, 1, 1, 1, 0, 1, 0]) [4, 5, 6] [] (⟨[.a (.w 0), .a (.w 1), .a (.u), .a (.u), .a (.b (false)), .a (.i .i64 (IntKind.i64.wrap ((IntKind.i64.wrap ((num a1 2) * (12 ^ (IntKind.i64.wrap (num a1 1)).toNat))) - (num a1 39)))), .a (.i .i64 (0 : Int)), .a (.w 1), .a (.w 1), .a (.p 1 (0) 23), .a (.i .i8 (num a1 0)), .a (.i .i64 (IntKind.i64.wrap (num a1 0))), .a (.b ((spec_l00In_v0 (IntKind.i64.wrap (num a1 0)) (0 : Int) (1 : Int)))), .a (.b ((!((spec_l00In_v0 (IntKind.i64.wrap (num a1 0)) (0 : Int) (1 : Int)))))), .a (.b (false)), .a (.w 1), .a (.w 1), .a (.p 1 (1) 23), .a (.i .i8 (num a1 1)), .a (.i .i64 (IntKind.i64.wrap (num a1 1))), .a (.b ((spec_l00In_v0 (IntKind.i64.wrap (num a1 1)) (0 : Int) (14 : Int)))), .a (.b ((!((spec_l00In_v0 (IntKind.i64.wrap (num a1 1)) (0 : Int) (14 : Int)))))), .a (.b ((!((spec_l00In_v0 (IntKind.i64.wrap (num a1 1)) (0 : Int) (14 : Int)))))), .a (.b (false)), .a (.w 1), .a (.w 1), .a (.p 1 (2) 2), .a (.i .i64 (num a1 2)), .a (.b ((spec_l00In_v0 (num a1 2) (1 : Int) (1000 : Int)))), .a (.b ((!((spec_l00In_v0 (num a1 2) (1 : Int) (1000 : Int)))))), .a (.b ((!((spec_l00In_v0 (num a1 2) (1 : Int) (1000 : Int)))))), .a (.w 1), .a (.w 1), .a (.p 1 (2) 2), .a (.i .i64 (num a1 2)), .a (.w 1), .a (.w 1), .a (.p 1 (1) 23), .a (.i .i8 (num a1 1)), .a (.i .i64 (IntKind.i64.wrap (num a1 1))), .a (.i .i64 (12 ^ (IntKind.i64.wrap (num a1 1)).toNat)), .a (.i .i64 (IntKind.i64.wrap ((num a1 2) * (12 ^ (IntKind.i64.wrap (num a1 1)).toNat)))), .a (.w 1), .a (.w 1), .a (.p 1 (39) 2), .a (.i .i64 (num a1 39)), .a (.i .i64 (IntKind.i64.wrap ((num a1 2) * (12 ^ (IntKind.i64.wrap (num a1 1)).toNat)))), .a (.b ((spec_l00In_v0 (num a1 39) (0 : Int) (IntKind.i64.wrap ((num a1 2) * (12 ^ (IntKind.i64.wrap (num a1 1)).toNat)))))), .a (.b ((!((spec_l00In_v0 (num a1 39) (0 : Int) (IntKind.i64.wrap ((num a1 2) * (12 ^ (IntKind.i64.wrap (num a1 1)).toNat)))))))), .a (.i .i64 (IntKind.i64.wrap ((num a1 2) * (12 ^ (IntKind.i64.wrap (num a1 1)).toNat)))), .a (.w 1), .a (.w 1), .a (.p 1 (39) 2), .a (.i .i64 (num a1 39)), .a (.i .i64 (IntKind.i64.wrap ((IntKind.i64.wrap ((num a1 2) * (12 ^ (IntKind.i64.wrap (num a1 1)).toNat))) - (num a1 39)))), .a (.u), .a (.u), .a (.u), .a (.u), .a (.u), .a (.u), .a (.u), .a (.u), .a (.u), .a (.u), .a (.u), .a (.u), .a (.u), .a (.u), .a (.u), .a (.u), .a (.u), .a (.u), .a (.u), .a (.u), .a (.u), .a (.u), .a (.u), .a (.u), .a (.u), .a (.u), .a (.u), .a (.u), .a (.u), .a (.u), .a (.u), .a (.u), .a (.u), .a (.u), .a (.u), .a (.u), .a (.u), .a (.u)], [.row a0 29, .row a1 50, .no, .no, .no, .no, .no, .no, .no, .no, .no, .no, .no, .no], []⟩ : St) ([.a (.b (y0_4)), .a (.i .i64 (y0_5)), .a (.i .i64 (y0_6))], []) = (bif decide (y0_6 < (36 : Int)) then (bif (decide (0 ≤ y0_6) && decide (y0_6 < 36)) then (bif (!((spec_l00In_v0 (num a1 (3 + ((y0_6).toNat * 1))) (0 : Int) y0_5))) then (some (.done (.ret, ([.a (.b (false)), .a (.i .i64 (y0_5)), .a (.i .i64 (y0_6))], []))))
        else (bif (decide (0 ≤ y0_6) && decide (y0_6 < 36)) then (bif ((num a1 (3 + ((y0_6).toNat * 1))) != (0 : Int)) then (bif (!((spec_l01Is_v0 y0_6 a0))) then (some (.done (.ret, ([.a (.b (false)), .a (.i .i64 (y0_5)), .a (.i .i64 (y0_6))], []))))
              else (bif (decide (0 ≤ y0_6) && decide (y0_6 < 36)) then (some (.more ([.a (.b (y0_4)), .a (.i .i64 (IntKind.i64.wrap (y0_5 - (num a1 (3 + ((y0_6).toNat * 1)))))), .a (.i .i64 (IntKind.i64.wrap (y0_6 + (1 : Int))))], [])))
                else (none)))
            else (bif (decide (0 ≤ y0_6) && decide (y0_6 < 36)) then (some (.more ([.a (.b (y0_4)), .a (.i .i64 (IntKind.i64.wrap (y0_5 - (num a1 (3 + ((y0_6).toNat * 1)))))), .a (.i .i64 (IntKind.i64.wrap (y0_6 + (1 : Int))))], [])))
              else (none)))
          else (none)))
      else (none))
    else (some (.done ((.exit 0), ([.a (.b (y0_4)), .a (.i .i64 (y0_5)), .a (.i .i64 (y0_6))], []))))) := by kernel_rfl
  refine h.trans ?_
  simp only [spec_l02Ok_g0, mapS_cond, mapS_more, mapS_done, mapS_none, spec_l02Ok_e0, spec_l02Ok_x0]

noncomputable def spec_l02Ok_k0_0 (P : Program) (N : Nat) (a0 : Array Value) (a1 : Array Value) (z0_4 : Bool) (z0_5 : Int) (z0_6 : Int) : Option (SV × Eff × Bool) := some (.a (.b (z0_4)), .none, true)

theorem spec_l02Ok_k0_0_eq (N : Nat) (a0 : Array Value) (a1 : Array Value) (z0_4 : Bool) (z0_5 : Int) (z0_6 : Int) : (kBlock 0 (kSeq (veC Try.prog (mkΓ [(52, con spec_l00In_con), (68, con spec_l01Is_con), (75, con spec_l01Tide_con), (109, con spec_l02Parts_con)]) N (cAt (codeOf Try.f107) [1, 1, 1, 1, 1, 1]) (pAt (mkPlan (codeOf Try.f107) [([4, 5, 6], [])]).1 [1, 1, 1, 1, 1, 1]) (SV × Eff × Bool)) (finK Try.prog [.row a0 29, .row a1 50] [.tmp 4]))) .ret (left (writes (cAt (codeOf Try.f107) [1, 1, 1, 1, 1, 0, 1, 0, 0])) [4, 5, 6] [] (⟨[.a (.w 0), .a (.w 1), .a (.u), .a (.u), .a (.b (false)), .a (.i .i64 (IntKind.i64.wrap ((IntKind.i64.wrap ((num a1 2) * (12 ^ (IntKind.i64.wrap (num a1 1)).toNat))) - (num a1 39)))), .a (.i .i64 (0 : Int)), .a (.w 1), .a (.w 1), .a (.p 1 (0) 23), .a (.i .i8 (num a1 0)), .a (.i .i64 (IntKind.i64.wrap (num a1 0))), .a (.b ((spec_l00In_v0 (IntKind.i64.wrap (num a1 0)) (0 : Int) (1 : Int)))), .a (.b ((!((spec_l00In_v0 (IntKind.i64.wrap (num a1 0)) (0 : Int) (1 : Int)))))), .a (.b (false)), .a (.w 1), .a (.w 1), .a (.p 1 (1) 23), .a (.i .i8 (num a1 1)), .a (.i .i64 (IntKind.i64.wrap (num a1 1))), .a (.b ((spec_l00In_v0 (IntKind.i64.wrap (num a1 1)) (0 : Int) (14 : Int)))), .a (.b ((!((spec_l00In_v0 (IntKind.i64.wrap (num a1 1)) (0 : Int) (14 : Int)))))), .a (.b ((!((spec_l00In_v0 (IntKind.i64.wrap (num a1 1)) (0 : Int) (14 : Int)))))), .a (.b (false)), .a (.w 1), .a (.w 1), .a (.p 1 (2) 2), .a (.i .i64 (num a1 2)), .a (.b ((spec_l00In_v0 (num a1 2) (1 : Int) (1000 : Int)))), .a (.b ((!((spec_l00In_v0 (num a1 2) (1 : Int) (1000 : Int)))))), .a (.b ((!((spec_l00In_v0 (num a1 2) (1 : Int) (1000 : Int)))))), .a (.w 1), .a (.w 1), .a (.p 1 (2) 2), .a (.i .i64 (num a1 2)), .a (.w 1), .a (.w 1), .a (.p 1 (1) 23), .a (.i .i8 (num a1 1)), .a (.i .i64 (IntKind.i64.wrap (num a1 1))), .a (.i .i64 (12 ^ (IntKind.i64.wrap (num a1 1)).toNat)), .a (.i .i64 (IntKind.i64.wrap ((num a1 2) * (12 ^ (IntKind.i64.wrap (num a1 1)).toNat)))), .a (.w 1), .a (.w 1), .a (.p 1 (39) 2), .a (.i .i64 (num a1 39)), .a (.i .i64 (IntKind.i64.wrap ((num a1 2) * (12 ^ (IntKind.i64.wrap (num a1 1)).toNat)))), .a (.b ((spec_l00In_v0 (num a1 39) (0 : Int) (IntKind.i64.wrap ((num a1 2) * (12 ^ (IntKind.i64.wrap (num a1 1)).toNat)))))), .a (.b ((!((spec_l00In_v0 (num a1 39) (0 : Int) (IntKind.i64.wrap ((num a1 2) * (12 ^ (IntKind.i64.wrap (num a1 1)).toNat)))))))), .a (.i .i64 (IntKind.i64.wrap ((num a1 2) * (12 ^ (IntKind.i64.wrap (num a1 1)).toNat)))), .a (.w 1), .a (.w 1), .a (.p 1 (39) 2), .a (.i .i64 (num a1 39)), .a (.i .i64 (IntKind.i64.wrap ((IntKind.i64.wrap ((num a1 2) * (12 ^ (IntKind.i64.wrap (num a1 1)).toNat))) - (num a1 39)))), .a (.u), .a (.u), .a (.u), .a (.u), .a (.u), .a (.u), .a (.u), .a (.u), .a (.u), .a (.u), .a (.u), .a (.u), .a (.u), .a (.u), .a (.u), .a (.u), .a (.u), .a (.u), .a (.u), .a (.u), .a (.u), .a (.u), .a (.u), .a (.u), .a (.u), .a (.u), .a (.u), .a (.u), .a (.u), .a (.u), .a (.u), .a (.u), .a (.u), .a (.u), .a (.u), .a (.u), .a (.u), .a (.u)], [.row a0 29, .row a1 50, .no, .no, .no, .no, .no, .no, .no, .no, .no, .no, .no, .no], []⟩ : St) ([.a (.b (z0_4)), .a (.i .i64 (z0_5)), .a (.i .i64 (z0_6))], [])) = spec_l02Ok_k0_0 Try.prog N a0 a1 z0_4 z0_5 z0_6 := by
  have h : (kBlock 0 (kSeq (veC Try.prog (mkΓ [(52, con spec_l00In_con), (68, con spec_l01Is_con), (75, con spec_l01Tide_con), (109, con spec_l02Parts_con)]) N (cAt (codeOf Try.f107) [1, 1, 1, 1, 1, 1]) (pAt (mkPlan (codeOf Try.f107) [([4, 5, 6], [])]).1 [1, 1, 1, 1, 1, 1]) (SV × Eff × Bool)) (finK Try.prog [.row a0 29, .row a1 50] [.tmp 4]))) .ret (left (writes (cAt (codeOf Try.f107) [1, 1, 1, 1, 1, 0, 1, 0, 0])) [4, 5, 6] [] (⟨[.a (.w 0), .a (.w 1), .a (.u), .a (.u), .a (.b (false)), .a (.i .i64 (IntKind.i64.wrap ((IntKind.i64.wrap ((num a1 2) * (12 ^ (IntKind.i64.wrap (num a1 1)).toNat))) - (num a1 39)))), .a (.i .i64 (0 : Int)), .a (.w 1), .a (.w 1), .a (.p 1 (0) 23), .a (.i .i8 (num a1 0)), .a (.i .i64 (IntKind.i64.wrap (num a1 0))), .a (.b ((spec_l00In_v0 (IntKind.i64.wrap (num a1 0)) (0 : Int) (1 : Int)))), .a (.b ((!((spec_l00In_v0 (IntKind.i64.wrap (num a1 0)) (0 : Int) (1 : Int)))))), .a (.b (false)), .a (.w 1), .a (.w 1), .a (.p 1 (1) 23), .a (.i .i8 (num a1 1)), .a (.i .i64 (IntKind.i64.wrap (num a1 1))), .a (.b ((spec_l00In_v0 (IntKind.i64.wrap (num a1 1)) (0 : Int) (14 : Int)))), .a (.b ((!((spec_l00In_v0 (IntKind.i64.wrap (num a1 1)) (0 : Int) (14 : Int)))))), .a (.b ((!((spec_l00In_v0 (IntKind.i64.wrap (num a1 1)) (0 : Int) (14 : Int)))))), .a (.b (false)), .a (.w 1), .a (.w 1), .a (.p 1 (2) 2), .a (.i .i64 (num a1 2)), .a (.b ((spec_l00In_v0 (num a1 2) (1 : Int) (1000 : Int)))), .a (.b ((!((spec_l00In_v0 (num a1 2) (1 : Int) (1000 : Int)))))), .a (.b ((!((spec_l00In_v0 (num a1 2) (1 : Int) (1000 : Int)))))), .a (.w 1), .a (.w 1), .a (.p 1 (2) 2), .a (.i .i64 (num a1 2)), .a (.w 1), .a (.w 1), .a (.p 1 (1) 23), .a (.i .i8 (num a1 1)), .a (.i .i64 (IntKind.i64.wrap (num a1 1))), .a (.i .i64 (12 ^ (IntKind.i64.wrap (num a1 1)).toNat)), .a (.i .i64 (IntKind.i64.wrap ((num a1 2) * (12 ^ (IntKind.i64.wrap (num a1 1)).toNat)))), .a (.w 1), .a (.w 1), .a (.p 1 (39) 2), .a (.i .i64 (num a1 39)), .a (.i .i64 (IntKind.i64.wrap ((num a1 2) * (12 ^ (IntKind.i64.wrap (num a1 1)).toNat)))), .a (.b ((spec_l00In_v0 (num a1 39) (0 : Int) (IntKind.i64.wrap ((num a1 2) * (12 ^ (IntKind.i64.wrap (num a1 1)).toNat)))))), .a (.b ((!((spec_l00In_v0 (num a1 39) (0 : Int) (IntKind.i64.wrap ((num a1 2) * (12 ^ (IntKind.i64.wrap (num a1 1)).toNat)))))))), .a (.i .i64 (IntKind.i64.wrap ((num a1 2) * (12 ^ (IntKind.i64.wrap (num a1 1)).toNat)))), .a (.w 1), .a (.w 1), .a (.p 1 (39) 2), .a (.i .i64 (num a1 39)), .a (.i .i64 (IntKind.i64.wrap ((IntKind.i64.wrap ((num a1 2) * (12 ^ (IntKind.i64.wrap (num a1 1)).toNat))) - (num a1 39)))), .a (.u), .a (.u), .a (.u), .a (.u), .a (.u), .a (.u), .a (.u), .a (.u), .a (.u), .a (.u), .a (.u), .a (.u), .a (.u), .a (.u), .a (.u), .a (.u), .a (.u), .a (.u), .a (.u), .a (.u), .a (.u), .a (.u), .a (.u), .a (.u), .a (.u), .a (.u), .a (.u), .a (.u), .a (.u), .a (.u), .a (.u), .a (.u), .a (.u), .a (.u), .a (.u), .a (.u), .a (.u), .a (.u)], [.row a0 29, .row a1 50, .no, .no, .no, .no, .no, .no, .no, .no, .no, .no, .no, .no], []⟩ : St) ([.a (.b (z0_4)), .a (.i .i64 (z0_5)), .a (.i .i64 (z0_6))], [])) = (some (.a (.b (z0_4)), .none, true)) := by kernel_rfl
  refine h.trans ?_
  rfl

noncomputable def spec_l02Ok_k0_1 (P : Program) (N : Nat) (a0 : Array Value) (a1 : Array Value) (z0_4 : Bool) (z0_5 : Int) (z0_6 : Int) : Option (SV × Eff × Bool) := some (.a (.b ((z0_5 == (0 : Int)))), .none, true)

theorem spec_l02Ok_k0_1_eq (N : Nat) (a0 : Array Value) (a1 : Array Value) (z0_4 : Bool) (z0_5 : Int) (z0_6 : Int) : (kBlock 0 (kSeq (veC Try.prog (mkΓ [(52, con spec_l00In_con), (68, con spec_l01Is_con), (75, con spec_l01Tide_con), (109, con spec_l02Parts_con)]) N (cAt (codeOf Try.f107) [1, 1, 1, 1, 1, 1]) (pAt (mkPlan (codeOf Try.f107) [([4, 5, 6], [])]).1 [1, 1, 1, 1, 1, 1]) (SV × Eff × Bool)) (finK Try.prog [.row a0 29, .row a1 50] [.tmp 4]))) (.exit 0) (left (writes (cAt (codeOf Try.f107) [1, 1, 1, 1, 1, 0, 1, 0, 0])) [4, 5, 6] [] (⟨[.a (.w 0), .a (.w 1), .a (.u), .a (.u), .a (.b (false)), .a (.i .i64 (IntKind.i64.wrap ((IntKind.i64.wrap ((num a1 2) * (12 ^ (IntKind.i64.wrap (num a1 1)).toNat))) - (num a1 39)))), .a (.i .i64 (0 : Int)), .a (.w 1), .a (.w 1), .a (.p 1 (0) 23), .a (.i .i8 (num a1 0)), .a (.i .i64 (IntKind.i64.wrap (num a1 0))), .a (.b ((spec_l00In_v0 (IntKind.i64.wrap (num a1 0)) (0 : Int) (1 : Int)))), .a (.b ((!((spec_l00In_v0 (IntKind.i64.wrap (num a1 0)) (0 : Int) (1 : Int)))))), .a (.b (false)), .a (.w 1), .a (.w 1), .a (.p 1 (1) 23), .a (.i .i8 (num a1 1)), .a (.i .i64 (IntKind.i64.wrap (num a1 1))), .a (.b ((spec_l00In_v0 (IntKind.i64.wrap (num a1 1)) (0 : Int) (14 : Int)))), .a (.b ((!((spec_l00In_v0 (IntKind.i64.wrap (num a1 1)) (0 : Int) (14 : Int)))))), .a (.b ((!((spec_l00In_v0 (IntKind.i64.wrap (num a1 1)) (0 : Int) (14 : Int)))))), .a (.b (false)), .a (.w 1), .a (.w 1), .a (.p 1 (2) 2), .a (.i .i64 (num a1 2)), .a (.b ((spec_l00In_v0 (num a1 2) (1 : Int) (1000 : Int)))), .a (.b ((!((spec_l00In_v0 (num a1 2) (1 : Int) (1000 : Int)))))), .a (.b ((!((spec_l00In_v0 (num a1 2) (1 : Int) (1000 : Int)))))), .a (.w 1), .a (.w 1), .a (.p 1 (2) 2), .a (.i .i64 (num a1 2)), .a (.w 1), .a (.w 1), .a (.p 1 (1) 23), .a (.i .i8 (num a1 1)), .a (.i .i64 (IntKind.i64.wrap (num a1 1))), .a (.i .i64 (12 ^ (IntKind.i64.wrap (num a1 1)).toNat)), .a (.i .i64 (IntKind.i64.wrap ((num a1 2) * (12 ^ (IntKind.i64.wrap (num a1 1)).toNat)))), .a (.w 1), .a (.w 1), .a (.p 1 (39) 2), .a (.i .i64 (num a1 39)), .a (.i .i64 (IntKind.i64.wrap ((num a1 2) * (12 ^ (IntKind.i64.wrap (num a1 1)).toNat)))), .a (.b ((spec_l00In_v0 (num a1 39) (0 : Int) (IntKind.i64.wrap ((num a1 2) * (12 ^ (IntKind.i64.wrap (num a1 1)).toNat)))))), .a (.b ((!((spec_l00In_v0 (num a1 39) (0 : Int) (IntKind.i64.wrap ((num a1 2) * (12 ^ (IntKind.i64.wrap (num a1 1)).toNat)))))))), .a (.i .i64 (IntKind.i64.wrap ((num a1 2) * (12 ^ (IntKind.i64.wrap (num a1 1)).toNat)))), .a (.w 1), .a (.w 1), .a (.p 1 (39) 2), .a (.i .i64 (num a1 39)), .a (.i .i64 (IntKind.i64.wrap ((IntKind.i64.wrap ((num a1 2) * (12 ^ (IntKind.i64.wrap (num a1 1)).toNat))) - (num a1 39)))), .a (.u), .a (.u), .a (.u), .a (.u), .a (.u), .a (.u), .a (.u), .a (.u), .a (.u), .a (.u), .a (.u), .a (.u), .a (.u), .a (.u), .a (.u), .a (.u), .a (.u), .a (.u), .a (.u), .a (.u), .a (.u), .a (.u), .a (.u), .a (.u), .a (.u), .a (.u), .a (.u), .a (.u), .a (.u), .a (.u), .a (.u), .a (.u), .a (.u), .a (.u), .a (.u), .a (.u), .a (.u), .a (.u)], [.row a0 29, .row a1 50, .no, .no, .no, .no, .no, .no, .no, .no, .no, .no, .no, .no], []⟩ : St) ([.a (.b (z0_4)), .a (.i .i64 (z0_5)), .a (.i .i64 (z0_6))], [])) = spec_l02Ok_k0_1 Try.prog N a0 a1 z0_4 z0_5 z0_6 := by
  have h : (kBlock 0 (kSeq (veC Try.prog (mkΓ [(52, con spec_l00In_con), (68, con spec_l01Is_con), (75, con spec_l01Tide_con), (109, con spec_l02Parts_con)]) N (cAt (codeOf Try.f107) [1, 1, 1, 1, 1, 1]) (pAt (mkPlan (codeOf Try.f107) [([4, 5, 6], [])]).1 [1, 1, 1, 1, 1, 1]) (SV × Eff × Bool)) (finK Try.prog [.row a0 29, .row a1 50] [.tmp 4]))) (.exit 0) (left (writes (cAt (codeOf Try.f107) [1, 1, 1, 1, 1, 0, 1, 0, 0])) [4, 5, 6] [] (⟨[.a (.w 0), .a (.w 1), .a (.u), .a (.u), .a (.b (false)), .a (.i .i64 (IntKind.i64.wrap ((IntKind.i64.wrap ((num a1 2) * (12 ^ (IntKind.i64.wrap (num a1 1)).toNat))) - (num a1 39)))), .a (.i .i64 (0 : Int)), .a (.w 1), .a (.w 1), .a (.p 1 (0) 23), .a (.i .i8 (num a1 0)), .a (.i .i64 (IntKind.i64.wrap (num a1 0))), .a (.b ((spec_l00In_v0 (IntKind.i64.wrap (num a1 0)) (0 : Int) (1 : Int)))), .a (.b ((!((spec_l00In_v0 (IntKind.i64.wrap (num a1 0)) (0 : Int) (1 : Int)))))), .a (.b (false)), .a (.w 1), .a (.w 1), .a (.p 1 (1) 23), .a (.i .i8 (num a1 1)), .a (.i .i64 (IntKind.i64.wrap (num a1 1))), .a (.b ((spec_l00In_v0 (IntKind.i64.wrap (num a1 1)) (0 : Int) (14 : Int)))), .a (.b ((!((spec_l00In_v0 (IntKind.i64.wrap (num a1 1)) (0 : Int) (14 : Int)))))), .a (.b ((!((spec_l00In_v0 (IntKind.i64.wrap (num a1 1)) (0 : Int) (14 : Int)))))), .a (.b (false)), .a (.w 1), .a (.w 1), .a (.p 1 (2) 2), .a (.i .i64 (num a1 2)), .a (.b ((spec_l00In_v0 (num a1 2) (1 : Int) (1000 : Int)))), .a (.b ((!((spec_l00In_v0 (num a1 2) (1 : Int) (1000 : Int)))))), .a (.b ((!((spec_l00In_v0 (num a1 2) (1 : Int) (1000 : Int)))))), .a (.w 1), .a (.w 1), .a (.p 1 (2) 2), .a (.i .i64 (num a1 2)), .a (.w 1), .a (.w 1), .a (.p 1 (1) 23), .a (.i .i8 (num a1 1)), .a (.i .i64 (IntKind.i64.wrap (num a1 1))), .a (.i .i64 (12 ^ (IntKind.i64.wrap (num a1 1)).toNat)), .a (.i .i64 (IntKind.i64.wrap ((num a1 2) * (12 ^ (IntKind.i64.wrap (num a1 1)).toNat)))), .a (.w 1), .a (.w 1), .a (.p 1 (39) 2), .a (.i .i64 (num a1 39)), .a (.i .i64 (IntKind.i64.wrap ((num a1 2) * (12 ^ (IntKind.i64.wrap (num a1 1)).toNat)))), .a (.b ((spec_l00In_v0 (num a1 39) (0 : Int) (IntKind.i64.wrap ((num a1 2) * (12 ^ (IntKind.i64.wrap (num a1 1)).toNat)))))), .a (.b ((!((spec_l00In_v0 (num a1 39) (0 : Int) (IntKind.i64.wrap ((num a1 2) * (12 ^ (IntKind.i64.wrap (num a1 1)).toNat)))))))), .a (.i .i64 (IntKind.i64.wrap ((num a1 2) * (12 ^ (IntKind.i64.wrap (num a1 1)).toNat)))), .a (.w 1), .a (.w 1), .a (.p 1 (39) 2), .a (.i .i64 (num a1 39)), .a (.i .i64 (IntKind.i64.wrap ((IntKind.i64.wrap ((num a1 2) * (12 ^ (IntKind.i64.wrap (num a1 1)).toNat))) - (num a1 39)))), .a (.u), .a (.u), .a (.u), .a (.u), .a (.u), .a (.u), .a (.u), .a (.u), .a (.u), .a (.u), .a (.u), .a (.u), .a (.u), .a (.u), .a (.u), .a (.u), .a (.u), .a (.u), .a (.u), .a (.u), .a (.u), .a (.u), .a (.u), .a (.u), .a (.u), .a (.u), .a (.u), .a (.u), .a (.u), .a (.u), .a (.u), .a (.u), .a (.u), .a (.u), .a (.u), .a (.u), .a (.u), .a (.u)], [.row a0 29, .row a1 50, .no, .no, .no, .no, .no, .no, .no, .no, .no, .no, .no, .no], []⟩ : St) ([.a (.b (z0_4)), .a (.i .i64 (z0_5)), .a (.i .i64 (z0_6))], [])) = (some (.a (.b ((z0_5 == (0 : Int)))), .none, true)) := by kernel_rfl
  refine h.trans ?_
  rfl

theorem spec_l02Ok_n0 (N : Nat) (a0 : Array Value) (a1 : Array Value) : bindX (iterO (stepV Try.prog (mkΓ [(52, con spec_l00In_con), (68, con spec_l01Is_con), (75, con spec_l01Tide_con), (109, con spec_l02Parts_con)]) N (cAt (codeOf Try.f107) [1, 1, 1, 1, 1, 0, 1, 0, 0]) (pAt (mkPlan (codeOf Try.f107) [([4, 5, 6], [])]).1 [1, 1, 1, 1, 1, 0, 1, 0]) [4, 5, 6] [] (⟨[.a (.w 0), .a (.w 1), .a (.u), .a (.u), .a (.b (false)), .a (.i .i64 (IntKind.i64.wrap ((IntKind.i64.wrap ((num a1 2) * (12 ^ (IntKind.i64.wrap (num a1 1)).toNat))) - (num a1 39)))), .a (.i .i64 (0 : Int)), .a (.w 1), .a (.w 1), .a (.p 1 (0) 23), .a (.i .i8 (num a1 0)), .a (.i .i64 (IntKind.i64.wrap (num a1 0))), .a (.b ((spec_l00In_v0 (IntKind.i64.wrap (num a1 0)) (0 : Int) (1 : Int)))), .a (.b ((!((spec_l00In_v0 (IntKind.i64.wrap (num a1 0)) (0 : Int) (1 : Int)))))), .a (.b (false)), .a (.w 1), .a (.w 1), .a (.p 1 (1) 23), .a (.i .i8 (num a1 1)), .a (.i .i64 (IntKind.i64.wrap (num a1 1))), .a (.b ((spec_l00In_v0 (IntKind.i64.wrap (num a1 1)) (0 : Int) (14 : Int)))), .a (.b ((!((spec_l00In_v0 (IntKind.i64.wrap (num a1 1)) (0 : Int) (14 : Int)))))), .a (.b ((!((spec_l00In_v0 (IntKind.i64.wrap (num a1 1)) (0 : Int) (14 : Int)))))), .a (.b (false)), .a (.w 1), .a (.w 1), .a (.p 1 (2) 2), .a (.i .i64 (num a1 2)), .a (.b ((spec_l00In_v0 (num a1 2) (1 : Int) (1000 : Int)))), .a (.b ((!((spec_l00In_v0 (num a1 2) (1 : Int) (1000 : Int)))))), .a (.b ((!((spec_l00In_v0 (num a1 2) (1 : Int) (1000 : Int)))))), .a (.w 1), .a (.w 1), .a (.p 1 (2) 2), .a (.i .i64 (num a1 2)), .a (.w 1), .a (.w 1), .a (.p 1 (1) 23), .a (.i .i8 (num a1 1)), .a (.i .i64 (IntKind.i64.wrap (num a1 1))), .a (.i .i64 (12 ^ (IntKind.i64.wrap (num a1 1)).toNat)), .a (.i .i64 (IntKind.i64.wrap ((num a1 2) * (12 ^ (IntKind.i64.wrap (num a1 1)).toNat)))), .a (.w 1), .a (.w 1), .a (.p 1 (39) 2), .a (.i .i64 (num a1 39)), .a (.i .i64 (IntKind.i64.wrap ((num a1 2) * (12 ^ (IntKind.i64.wrap (num a1 1)).toNat)))), .a (.b ((spec_l00In_v0 (num a1 39) (0 : Int) (IntKind.i64.wrap ((num a1 2) * (12 ^ (IntKind.i64.wrap (num a1 1)).toNat)))))), .a (.b ((!((spec_l00In_v0 (num a1 39) (0 : Int) (IntKind.i64.wrap ((num a1 2) * (12 ^ (IntKind.i64.wrap (num a1 1)).toNat)))))))), .a (.i .i64 (IntKind.i64.wrap ((num a1 2) * (12 ^ (IntKind.i64.wrap (num a1 1)).toNat)))), .a (.w 1), .a (.w 1), .a (.p 1 (39) 2), .a (.i .i64 (num a1 39)), .a (.i .i64 (IntKind.i64.wrap ((IntKind.i64.wrap ((num a1 2) * (12 ^ (IntKind.i64.wrap (num a1 1)).toNat))) - (num a1 39)))), .a (.u), .a (.u), .a (.u), .a (.u), .a (.u), .a (.u), .a (.u), .a (.u), .a (.u), .a (.u), .a (.u), .a (.u), .a (.u), .a (.u), .a (.u), .a (.u), .a (.u), .a (.u), .a (.u), .a (.u), .a (.u), .a (.u), .a (.u), .a (.u), .a (.u), .a (.u), .a (.u), .a (.u), .a (.u), .a (.u), .a (.u), .a (.u), .a (.u), .a (.u), .a (.u), .a (.u), .a (.u), .a (.u)], [.row a0 29, .row a1 50, .no, .no, .no, .no, .no, .no, .no, .no, .no, .no, .no, .no], []⟩ : St)) N ([.a (.b (false)), .a (.i .i64 (IntKind.i64.wrap ((IntKind.i64.wrap ((num a1 2) * (12 ^ (IntKind.i64.wrap (num a1 1)).toNat))) - (num a1 39)))), .a (.i .i64 (0 : Int))], [])) (fun e s => (kBlock 0 (kSeq (veC Try.prog (mkΓ [(52, con spec_l00In_con), (68, con spec_l01Is_con), (75, con spec_l01Tide_con), (109, con spec_l02Parts_con)]) N (cAt (codeOf Try.f107) [1, 1, 1, 1, 1, 1]) (pAt (mkPlan (codeOf Try.f107) [([4, 5, 6], [])]).1 [1, 1, 1, 1, 1, 1]) (SV × Eff × Bool)) (finK Try.prog [.row a0 29, .row a1 50] [.tmp 4]))) e (left (writes (cAt (codeOf Try.f107) [1, 1, 1, 1, 1, 0, 1, 0, 0])) [4, 5, 6] [] (⟨[.a (.w 0), .a (.w 1), .a (.u), .a (.u), .a (.b (false)), .a (.i .i64 (IntKind.i64.wrap ((IntKind.i64.wrap ((num a1 2) * (12 ^ (IntKind.i64.wrap (num a1 1)).toNat))) - (num a1 39)))), .a (.i .i64 (0 : Int)), .a (.w 1), .a (.w 1), .a (.p 1 (0) 23), .a (.i .i8 (num a1 0)), .a (.i .i64 (IntKind.i64.wrap (num a1 0))), .a (.b ((spec_l00In_v0 (IntKind.i64.wrap (num a1 0)) (0 : Int) (1 : Int)))), .a (.b ((!((spec_l00In_v0 (IntKind.i64.wrap (num a1 0)) (0 : Int) (1 : Int)))))), .a (.b (false)), .a (.w 1), .a (.w 1), .a (.p 1 (1) 23), .a (.i .i8 (num a1 1)), .a (.i .i64 (IntKind.i64.wrap (num a1 1))), .a (.b ((spec_l00In_v0 (IntKind.i64.wrap (num a1 1)) (0 : Int) (14 : Int)))), .a (.b ((!((spec_l00In_v0 (IntKind.i64.wrap (num a1 1)) (0 : Int) (14 : Int)))))), .a (.b ((!((spec_l00In_v0 (IntKind.i64.wrap (num a1 1)) (0 : Int) (14 : Int)))))), .a (.b (false)), .a (.w 1), .a (.w 1), .a (.p 1 (2) 2), .a (.i .i64 (num a1 2)), .a (.b ((spec_l00In_v0 (num a1 2) (1 : Int) (1000 : Int)))), .a (.b ((!((spec_l00In_v0 (num a1 2) (1 : Int) (1000 : Int)))))), .a (.b ((!((spec_l00In_v0 (num a1 2) (1 : Int) (1000 : Int)))))), .a (.w 1), .a (.w 1), .a (.p 1 (2) 2), .a (.i .i64 (num a1 2)), .a (.w 1), .a (.w 1), .a (.p 1 (1) 23), .a (.i .i8 (num a1 1)), .a (.i .i64 (IntKind.i64.wrap (num a1 1))), .a (.i .i64 (12 ^ (IntKind.i64.wrap (num a1 1)).toNat)), .a (.i .i64 (IntKind.i64.wrap ((num a1 2) * (12 ^ (IntKind.i64.wrap (num a1 1)).toNat)))), .a (.w 1), .a (.w 1), .a (.p 1 (39) 2), .a (.i .i64 (num a1 39)), .a (.i .i64 (IntKind.i64.wrap ((num a1 2) * (12 ^ (IntKind.i64.wrap (num a1 1)).toNat)))), .a (.b ((spec_l00In_v0 (num a1 39) (0 : Int) (IntKind.i64.wrap ((num a1 2) * (12 ^ (IntKind.i64.wrap (num a1 1)).toNat)))))), .a (.b ((!((spec_l00In_v0 (num a1 39) (0 : Int) (IntKind.i64.wrap ((num a1 2) * (12 ^ (IntKind.i64.wrap (num a1 1)).toNat)))))))), .a (.i .i64 (IntKind.i64.wrap ((num a1 2) * (12 ^ (IntKind.i64.wrap (num a1 1)).toNat)))), .a (.w 1), .a (.w 1), .a (.p 1 (39) 2), .a (.i .i64 (num a1 39)), .a (.i .i64 (IntKind.i64.wrap ((IntKind.i64.wrap ((num a1 2) * (12 ^ (IntKind.i64.wrap (num a1 1)).toNat))) - (num a1 39)))), .a (.u), .a (.u), .a (.u), .a (.u), .a (.u), .a (.u), .a (.u), .a (.u), .a (.u), .a (.u), .a (.u), .a (.u), .a (.u), .a (.u), .a (.u), .a (.u), .a (.u), .a (.u), .a (.u), .a (.u), .a (.u), .a (.u), .a (.u), .a (.u), .a (.u), .a (.u), .a (.u), .a (.u), .a (.u), .a (.u), .a (.u), .a (.u), .a (.u), .a (.u), .a (.u), .a (.u), .a (.u), .a (.u)], [.row a0 29, .row a1 50, .no, .no, .no, .no, .no, .no, .no, .no, .no, .no, .no, .no], []⟩ : St) s)) = nodeX (iterO (spec_l02Ok_g0 Try.prog a0 a1) N (false, (IntKind.i64.wrap ((IntKind.i64.wrap ((num a1 2) * (12 ^ (IntKind.i64.wrap (num a1 1)).toNat))) - (num a1 39))), (0 : Int))) (st2 (fun x => spec_l02Ok_k0_0 Try.prog N a0 a1 x.1 x.2.1 x.2.2) (fun x => spec_l02Ok_k0_1 Try.prog N a0 a1 x.1 x.2.1 x.2.2)) := by
  refine loop_node spec_l02Ok_e0 spec_l02Ok_x0 _ _ (spec_l02Ok_s0 N a0 a1) N (false, (IntKind.i64.wrap ((IntKind.i64.wrap ((num a1 2) * (12 ^ (IntKind.i64.wrap (num a1 1)).toNat))) - (num a1 39))), (0 : Int)) _ _ ?_
  intro x
  cases x with
  | more x => exact spec_l02Ok_k0_0_eq N a0 a1 x.1 x.2.1 x.2.2
  | done x => exact spec_l02Ok_k0_1_eq N a0 a1 x.1 x.2.1 x.2.2

theorem spec_l02Ok_ans (N : Nat) (a0 : Array Value) (a1 : Array Value) : ansV Try.prog (mkΓ [(52, con spec_l00In_con), (68, con spec_l01Is_con), (75, con spec_l01Tide_con), (109, con spec_l02Parts_con)]) N Try.f107 [([4, 5, 6], [])] [.w 0, .w 1] [.row a0 29, .row a1 50] = (bif (!((spec_l00In_v0 (IntKind.i64.wrap (num a1 0)) (0 : Int) (1 : Int)))) then (some (.a (.b (false)), .none, true))
    else (bif (!((spec_l00In_v0 (IntKind.i64.wrap (num a1 1)) (0 : Int) (14 : Int)))) then (some (.a (.b (false)), .none, true))
      else (bif (!((spec_l00In_v0 (num a1 2) (1 : Int) (1000 : Int)))) then (some (.a (.b (false)), .none, true))
        else (bif (decide (0 ≤ (IntKind.i64.wrap (num a1 1))) && decide ((IntKind.i64.wrap (num a1 1)) ≤ 14)) then (bif (!((spec_l00In_v0 (num a1 39) (0 : Int) (IntKind.i64.wrap ((num a1 2) * (12 ^ (IntKind.i64.wrap (num a1 1)).toNat)))))) then (some (.a (.b (false)), .none, true))
            else (nodeX (iterO (spec_l02Ok_g0 Try.prog a0 a1) N (false, (IntKind.i64.wrap ((IntKind.i64.wrap ((num a1 2) * (12 ^ (IntKind.i64.wrap (num a1 1)).toNat))) - (num a1 39))), (0 : Int))) (st2 (fun x => spec_l02Ok_k0_0 Try.prog N a0 a1 x.1 x.2.1 x.2.2) (fun x => spec_l02Ok_k0_1 Try.prog N a0 a1 x.1 x.2.1 x.2.2))))
          else (none))))) := by
  have h : ansV Try.prog (mkΓ [(52, con spec_l00In_con), (68, con spec_l01Is_con), (75, con spec_l01Tide_con), (109, con spec_l02Parts_con)]) N Try.f107 [([4, 5, 6], [])] [.w 0, .w 1] [.row a0 29, .row a1 50] = (bif (!((spec_l00In_v0 (IntKind.i64.wrap (num a1 0)) (0 : Int) (1 : Int)))) then (some (.a (.b (false)), .none, true))
    else (bif (!((spec_l00In_v0 (IntKind.i64.wrap (num a1 1)) (0 : Int) (14 : Int)))) then (some (.a (.b (false)), .none, true))
      else (bif (!((spec_l00In_v0 (num a1 2) (1 : Int) (1000 : Int)))) then (some (.a (.b (false)), .none, true))
        else (bif (decide (0 ≤ (IntKind.i64.wrap (num a1 1))) && decide ((IntKind.i64.wrap (num a1 1)) ≤ 14)) then (bif (!((spec_l00In_v0 (num a1 39) (0 : Int) (IntKind.i64.wrap ((num a1 2) * (12 ^ (IntKind.i64.wrap (num a1 1)).toNat)))))) then (some (.a (.b (false)), .none, true))
            else (bindX (iterO (stepV Try.prog (mkΓ [(52, con spec_l00In_con), (68, con spec_l01Is_con), (75, con spec_l01Tide_con), (109, con spec_l02Parts_con)]) N (cAt (codeOf Try.f107) [1, 1, 1, 1, 1, 0, 1, 0, 0]) (pAt (mkPlan (codeOf Try.f107) [([4, 5, 6], [])]).1 [1, 1, 1, 1, 1, 0, 1, 0]) [4, 5, 6] [] (⟨[.a (.w 0), .a (.w 1), .a (.u), .a (.u), .a (.b (false)), .a (.i .i64 (IntKind.i64.wrap ((IntKind.i64.wrap ((num a1 2) * (12 ^ (IntKind.i64.wrap (num a1 1)).toNat))) - (num a1 39)))), .a (.i .i64 (0 : Int)), .a (.w 1), .a (.w 1), .a (.p 1 (0) 23), .a (.i .i8 (num a1 0)), .a (.i .i64 (IntKind.i64.wrap (num a1 0))), .a (.b ((spec_l00In_v0 (IntKind.i64.wrap (num a1 0)) (0 : Int) (1 : Int)))), .a (.b ((!((spec_l00In_v0 (IntKind.i64.wrap (num a1 0)) (0 : Int) (1 : Int)))))), .a (.b (false)), .a (.w 1), .a (.w 1), .a (.p 1 (1) 23), .a (.i .i8 (num a1 1)), .a (.i .i64 (IntKind.i64.wrap (num a1 1))), .a (.b ((spec_l00In_v0 (IntKind.i64.wrap (num a1 1)) (0 : Int) (14 : Int)))), .a (.b ((!((spec_l00In_v0 (IntKind.i64.wrap (num a1 1)) (0 : Int) (14 : Int)))))), .a (.b ((!((spec_l00In_v0 (IntKind.i64.wrap (num a1 1)) (0 : Int) (14 : Int)))))), .a (.b (false)), .a (.w 1), .a (.w 1), .a (.p 1 (2) 2), .a (.i .i64 (num a1 2)), .a (.b ((spec_l00In_v0 (num a1 2) (1 : Int) (1000 : Int)))), .a (.b ((!((spec_l00In_v0 (num a1 2) (1 : Int) (1000 : Int)))))), .a (.b ((!((spec_l00In_v0 (num a1 2) (1 : Int) (1000 : Int)))))), .a (.w 1), .a (.w 1), .a (.p 1 (2) 2), .a (.i .i64 (num a1 2)), .a (.w 1), .a (.w 1), .a (.p 1 (1) 23), .a (.i .i8 (num a1 1)), .a (.i .i64 (IntKind.i64.wrap (num a1 1))), .a (.i .i64 (12 ^ (IntKind.i64.wrap (num a1 1)).toNat)), .a (.i .i64 (IntKind.i64.wrap ((num a1 2) * (12 ^ (IntKind.i64.wrap (num a1 1)).toNat)))), .a (.w 1), .a (.w 1), .a (.p 1 (39) 2), .a (.i .i64 (num a1 39)), .a (.i .i64 (IntKind.i64.wrap ((num a1 2) * (12 ^ (IntKind.i64.wrap (num a1 1)).toNat)))), .a (.b ((spec_l00In_v0 (num a1 39) (0 : Int) (IntKind.i64.wrap ((num a1 2) * (12 ^ (IntKind.i64.wrap (num a1 1)).toNat)))))), .a (.b ((!((spec_l00In_v0 (num a1 39) (0 : Int) (IntKind.i64.wrap ((num a1 2) * (12 ^ (IntKind.i64.wrap (num a1 1)).toNat)))))))), .a (.i .i64 (IntKind.i64.wrap ((num a1 2) * (12 ^ (IntKind.i64.wrap (num a1 1)).toNat)))), .a (.w 1), .a (.w 1), .a (.p 1 (39) 2), .a (.i .i64 (num a1 39)), .a (.i .i64 (IntKind.i64.wrap ((IntKind.i64.wrap ((num a1 2) * (12 ^ (IntKind.i64.wrap (num a1 1)).toNat))) - (num a1 39)))), .a (.u), .a (.u), .a (.u), .a (.u), .a (.u), .a (.u), .a (.u), .a (.u), .a (.u), .a (.u), .a (.u), .a (.u), .a (.u), .a (.u), .a (.u), .a (.u), .a (.u), .a (.u), .a (.u), .a (.u), .a (.u), .a (.u), .a (.u), .a (.u), .a (.u), .a (.u), .a (.u), .a (.u), .a (.u), .a (.u), .a (.u), .a (.u), .a (.u), .a (.u), .a (.u), .a (.u), .a (.u), .a (.u)], [.row a0 29, .row a1 50, .no, .no, .no, .no, .no, .no, .no, .no, .no, .no, .no, .no], []⟩ : St)) N ([.a (.b (false)), .a (.i .i64 (IntKind.i64.wrap ((IntKind.i64.wrap ((num a1 2) * (12 ^ (IntKind.i64.wrap (num a1 1)).toNat))) - (num a1 39)))), .a (.i .i64 (0 : Int))], [])) (fun e s => (kBlock 0 (kSeq (veC Try.prog (mkΓ [(52, con spec_l00In_con), (68, con spec_l01Is_con), (75, con spec_l01Tide_con), (109, con spec_l02Parts_con)]) N (cAt (codeOf Try.f107) [1, 1, 1, 1, 1, 1]) (pAt (mkPlan (codeOf Try.f107) [([4, 5, 6], [])]).1 [1, 1, 1, 1, 1, 1]) (SV × Eff × Bool)) (finK Try.prog [.row a0 29, .row a1 50] [.tmp 4]))) e (left (writes (cAt (codeOf Try.f107) [1, 1, 1, 1, 1, 0, 1, 0, 0])) [4, 5, 6] [] (⟨[.a (.w 0), .a (.w 1), .a (.u), .a (.u), .a (.b (false)), .a (.i .i64 (IntKind.i64.wrap ((IntKind.i64.wrap ((num a1 2) * (12 ^ (IntKind.i64.wrap (num a1 1)).toNat))) - (num a1 39)))), .a (.i .i64 (0 : Int)), .a (.w 1), .a (.w 1), .a (.p 1 (0) 23), .a (.i .i8 (num a1 0)), .a (.i .i64 (IntKind.i64.wrap (num a1 0))), .a (.b ((spec_l00In_v0 (IntKind.i64.wrap (num a1 0)) (0 : Int) (1 : Int)))), .a (.b ((!((spec_l00In_v0 (IntKind.i64.wrap (num a1 0)) (0 : Int) (1 : Int)))))), .a (.b (false)), .a (.w 1), .a (.w 1), .a (.p 1 (1) 23), .a (.i .i8 (num a1 1)), .a (.i .i64 (IntKind.i64.wrap (num a1 1))), .a (.b ((spec_l00In_v0 (IntKind.i64.wrap (num a1 1)) (0 : Int) (14 : Int)))), .a (.b ((!((spec_l00In_v0 (IntKind.i64.wrap (num a1 1)) (0 : Int) (14 : Int)))))), .a (.b ((!((spec_l00In_v0 (IntKind.i64.wrap (num a1 1)) (0 : Int) (14 : Int)))))), .a (.b (false)), .a (.w 1), .a (.w 1), .a (.p 1 (2) 2), .a (.i .i64 (num a1 2)), .a (.b ((spec_l00In_v0 (num a1 2) (1 : Int) (1000 : Int)))), .a (.b ((!((spec_l00In_v0 (num a1 2) (1 : Int) (1000 : Int)))))), .a (.b ((!((spec_l00In_v0 (num a1 2) (1 : Int) (1000 : Int)))))), .a (.w 1), .a (.w 1), .a (.p 1 (2) 2), .a (.i .i64 (num a1 2)), .a (.w 1), .a (.w 1), .a (.p 1 (1) 23), .a (.i .i8 (num a1 1)), .a (.i .i64 (IntKind.i64.wrap (num a1 1))), .a (.i .i64 (12 ^ (IntKind.i64.wrap (num a1 1)).toNat)), .a (.i .i64 (IntKind.i64.wrap ((num a1 2) * (12 ^ (IntKind.i64.wrap (num a1 1)).toNat)))), .a (.w 1), .a (.w 1), .a (.p 1 (39) 2), .a (.i .i64 (num a1 39)), .a (.i .i64 (IntKind.i64.wrap ((num a1 2) * (12 ^ (IntKind.i64.wrap (num a1 1)).toNat)))), .a (.b ((spec_l00In_v0 (num a1 39) (0 : Int) (IntKind.i64.wrap ((num a1 2) * (12 ^ (IntKind.i64.wrap (num a1 1)).toNat)))))), .a (.b ((!((spec_l00In_v0 (num a1 39) (0 : Int) (IntKind.i64.wrap ((num a1 2) * (12 ^ (IntKind.i64.wrap (num a1 1)).toNat)))))))), .a (.i .i64 (IntKind.i64.wrap ((num a1 2) * (12 ^ (IntKind.i64.wrap (num a1 1)).toNat)))), .a (.w 1), .a (.w 1), .a (.p 1 (39) 2), .a (.i .i64 (num a1 39)), .a (.i .i64 (IntKind.i64.wrap ((IntKind.i64.wrap ((num a1 2) * (12 ^ (IntKind.i64.wrap (num a1 1)).toNat))) - (num a1 39)))), .a (.u), .a (.u), .a (.u), .a (.u), .a (.u), .a (.u), .a (.u), .a (.u), .a (.u), .a (.u), .a (.u), .a (.u), .a (.u), .a (.u), .a (.u), .a (.u), .a (.u), .a (.u), .a (.u), .a (.u), .a (.u), .a (.u), .a (.u), .a (.u), .a (.u), .a (.u), .a (.u), .a (.u), .a (.u), .a (.u), .a (.u), .a (.u), .a (.u), .a (.u), .a (.u), .a (.u), .a (.u), .a (.u)], [.row a0 29, .row a1 50, .no, .no, .no, .no, .no, .no, .no, .no, .no, .no, .no, .no], []⟩ : St) s))))
          else (none))))) := by kernel_rfl
  refine h.trans ?_
  simp only [spec_l02Ok_n0]

theorem spec_l02Ok_main (a0 : Array Value) (a1 : Array Value) (h_a0 : WT Try.prog 29 a0) (h_a1 : WT Try.prog 50 a1) (hg : (true) = true) : ansV Try.prog (mkΓ [(52, con spec_l00In_con), (68, con spec_l01Is_con), (75, con spec_l01Tide_con), (109, con spec_l02Parts_con)]) 1000 Try.f107 [([4, 5, 6], [])] [.w 0, .w 1] [.row a0 29, .row a1 50] = some (.a (.b ((specSp a0 a1))), .none, true) := by
  refine (spec_l02Ok_ans 1000 a0 a1).trans ?_
  unfold specSp
  cases h1 : spec_l00In_v0 (IntKind.i64.wrap (num a1 0)) 0 1
  · simp only [Bool.not_false, cond_true]
  cases h2 : spec_l00In_v0 (IntKind.i64.wrap (num a1 1)) 0 14
  · simp only [Bool.not_false, Bool.not_true, cond_true, cond_false]
  cases h3 : spec_l00In_v0 (num a1 2) 1 1000
  · simp only [Bool.not_false, Bool.not_true, cond_true, cond_false]
  have hr := in_range h2
  simp only [Bool.not_true, cond_true, cond_false, decide_eq_true hr.1, decide_eq_true hr.2, Bool.and_self]
  show (bif (!(spec_l00In_v0 (num a1 39) 0 (allW a1))) then _ else _) = _
  cases h5 : spec_l00In_v0 (num a1 39) 0 (allW a1)
  · simp only [Bool.not_false, cond_true]
  simp only [Bool.not_true, cond_false]
  show nodeX (iterO (spec_l02Ok_g0 Try.prog a0 a1) 1000 (false, IntKind.i64.wrap (allW a1 - num a1 39), (0 : Int))) _ = _
  generalize IntKind.i64.wrap (allW a1 - num a1 39) = X
  refine (iter_first (g := spec_l02Ok_g0 Try.prog a0 a1) (fun k => (false, leftW X a1 k, (k : Int))) (pS a0 a1 X) 36 (N := 1000) (xd := .done (false, leftW X a1 36, ((36 : Nat) : Int))) (by omega) (fun k hk hp => by
    have h1 : decide ((k : Int) < 36) = true := decide_eq_true (by omega)
    have h0 : decide (0 ≤ (k : Int)) = true := decide_eq_true (by omega)
    have h3 : IntKind.i64.wrap ((k : Int) + 1) = ((k + 1 : Nat) : Int) := by rw [IntWalk.i64_in _ (by omega)]; omega
    have h4 : ((k : Int)).toNat = k := Int.toNat_natCast k
    unfold pS at hp
    simp only [Bool.and_eq_true] at hp
    cases hn : (num a1 (3 + k * 1) != 0)
    · simp only [spec_l02Ok_g0, h1, h0, Bool.and_self, h4, cond_true, h3, hp.1, Bool.not_true, cond_false, hn, leftW]
    · have hp2 := hp.2
      rw [hn] at hp2
      simp only [Bool.not_true, Bool.false_or] at hp2
      simp only [spec_l02Ok_g0, h1, h0, Bool.and_self, h4, cond_true, h3, hp.1, Bool.not_true, cond_false, hn, hp2, leftW]) (by
    have h1 : decide (((36 : Nat) : Int) < 36) = false := by decide
    simp only [spec_l02Ok_g0, h1, cond_false]) (allB (pS a0 a1 X)) (allB_iff _) (some (.a (.b (leftW X a1 36 == 0)), .none, true)) (some (.a (.b false), .none, true)) rfl (fun k hk hp => by
    refine ⟨.more (false, leftW X a1 k, (k : Int)), ?_, rfl⟩
    have h1 : decide ((k : Int) < 36) = true := decide_eq_true (by omega)
    have h0 : decide (0 ≤ (k : Int)) = true := decide_eq_true (by omega)
    have h3 : IntKind.i64.wrap ((k : Int) + 1) = ((k + 1 : Nat) : Int) := by rw [IntWalk.i64_in _ (by omega)]; omega
    have h4 : ((k : Int)).toNat = k := Int.toNat_natCast k
    unfold pS at hp
    cases hi : spec_l00In_v0 (num a1 (3 + k * 1)) 0 (leftW X a1 k)
    · simp only [spec_l02Ok_g0, h1, h0, Bool.and_self, h4, cond_true, hi, Bool.not_false]
    · rw [hi] at hp
      simp only [Bool.true_and, Bool.or_eq_false_iff, Bool.not_eq_false'] at hp
      simp only [spec_l02Ok_g0, h1, h0, Bool.and_self, h4, cond_true, hi, Bool.not_true, cond_false, hp.1, hp.2, Bool.not_false])).trans ?_
  cases allB (pS a0 a1 X) <;> rfl
noncomputable def spec_l02Ok_con : Con := fun args h => match args, h with
  | [.w 0, .w 1], [.row a0 29, .row a1 50] => some (.a (.b ((specSp a0 a1))), .none, true)
  | _, _ => none
theorem spec_l02Ok_enter : ∀ args w, (callFunc 107 args).run Try.prog w = .ok (.enter 107 args) w := enter_ok (fn := Try.f107) (by kernel_rfl) (by kernel_rfl) (by kernel_rfl)
theorem spec_l02Ok_ok : ConOk Try.prog 107 spec_l02Ok_con := (ans_ok (N := 1000) (by kernel_rfl) (mkΓ_cons (con_ok spec_l00In_ok) spec_l00In_enter (mkΓ_cons (con_ok spec_l01Is_ok) spec_l01Is_enter (mkΓ_cons (con_ok spec_l01Tide_ok) spec_l01Tide_enter (mkΓ_cons (con_ok spec_l02Parts_ok) spec_l02Parts_enter mkΓ_nil)))) (fn := Try.f107) (by kernel_rfl) (by kernel_rfl) [([4, 5, 6], [])]).of (by
  intro ρ h w args vals r e hA hH hr
  unfold spec_l02Ok_con at hr
  split at hr
  · rename_i a0 a1
    obtain ⟨rfl, hg⟩ := Prod.mk.inj (Option.some.inj hr)
    obtain ⟨rfl, hg2⟩ := Prod.mk.inj hg
    exact spec_l02Ok_main a0 a1 (hH.wt 0 rfl) (hH.wt 1 rfl) hg2
  · cases hr)

noncomputable def impl_sumsToAll_e0 : Bool × Int × Int → LS
  | (y0_4, y0_5, y0_12) => ([.a (.b (y0_4)), .a (.i .i64 (y0_5)), .a (.i .i64 (y0_12))], [])

noncomputable def impl_sumsToAll_x0 : (Stp (Bool × Int × Int) (Bool × Int × Int)) → Exit × LS
  | .more t => (.ret, impl_sumsToAll_e0 t)
  | .done t => ((.exit 0), impl_sumsToAll_e0 t)

noncomputable def impl_sumsToAll_g0 (P : Program) (a0 : Array Value) (a1 : Array Value) : Bool × Int × Int → Option (Stp (Bool × Int × Int) (Stp (Bool × Int × Int) (Bool × Int × Int)))
  | (y0_4, y0_5, y0_12) => bif decide (y0_12 < (36 : Int)) then (bif (decide (0 ≤ y0_12) && decide (y0_12 < 36)) then (bif decide ((num (a1.extract 3 (3 + 36)) ((y0_12).toNat * 1)) < (0 : Int)) then (some (.done (.more (false, y0_5, y0_12))))
        else (bif decide ((num (a1.extract 3 (3 + 36)) ((y0_12).toNat * 1)) > y0_5) then (some (.done (.more (false, y0_5, y0_12))))
          else (bif decide ((num (a1.extract 3 (3 + 36)) ((y0_12).toNat * 1)) > (0 : Int)) then (bif (!((impl_hasCell_v0 a0 y0_12))) then (some (.done (.more (false, y0_5, y0_12))))
              else (some (.more (y0_4, (IntKind.i64.wrap (y0_5 - (num (a1.extract 3 (3 + 36)) ((y0_12).toNat * 1)))), (IntKind.i64.wrap (y0_12 + (1 : Int)))))))
            else (some (.more (y0_4, (IntKind.i64.wrap (y0_5 - (num (a1.extract 3 (3 + 36)) ((y0_12).toNat * 1)))), (IntKind.i64.wrap (y0_12 + (1 : Int)))))))))
      else (none))
    else (some (.done (.done (y0_4, y0_5, y0_12))))

theorem impl_sumsToAll_s0 (N : Nat) (a0 : Array Value) (a1 : Array Value) : ∀ t : Bool × Int × Int, stepV Try.prog (mkΓ [(86, con impl_allOf_con), (94, con impl_hasCell_con)]) N (cAt (codeOf Try.f125) [1, 1, 0, 1, 0, 0]) (pAt (mkPlan (codeOf Try.f125) [([4, 5, 12], [])]).1 [1, 1, 0, 1, 0]) [4, 5, 12] [] (⟨[.a (.g a0 29), .a (.g a1 50), .a (.w 0), .a (.w 1), .a (.b (false)), .a (.i .i64 (impl_allOf_v0 a1)), .a (.u), .a (.u), .a (.g a1 50), .a (.i .i64 (impl_allOf_v0 a1)), .a (.p 1 (3) 48), .a (.g (a1.extract 3 (3 + 36)) 48), .a (.i .i64 (0 : Int)), .a (.u), .a (.u), .a (.u), .a (.u), .a (.u), .a (.u), .a (.u), .a (.u), .a (.u), .a (.u), .a (.u), .a (.u), .a (.u), .a (.u), .a (.u), .a (.u), .a (.u), .a (.u), .a (.u), .a (.u), .a (.u), .a (.u), .a (.u), .a (.u), .a (.u), .a (.u), .a (.u), .a (.u)], [.row a0 29, .row a1 50, .no], []⟩ : St) (impl_sumsToAll_e0 t) = mapS impl_sumsToAll_e0 impl_sumsToAll_x0 (impl_sumsToAll_g0 Try.prog a0 a1 t) := by
  rintro ⟨y0_4, y0_5, y0_12⟩
  have h : stepV Try.prog (mkΓ [(86, con impl_allOf_con), (94, con impl_hasCell_con)]) N (cAt (codeOf Try.f125) [1, 1, 0, 1, 0, 0]) (pAt (mkPlan (codeOf Try.f125) [([4, 5, 12], [])]).1 [1, 1, 0, 1, 0]) [4, 5, 12] [] (⟨[.a (.g a0 29), .a (.g a1 50), .a (.w 0), .a (.w 1), .a (.b (false)), .a (.i .i64 (impl_allOf_v0 a1)), .a (.u), .a (.u), .a (.g a1 50), .a (.i .i64 (impl_allOf_v0 a1)), .a (.p 1 (3) 48), .a (.g (a1.extract 3 (3 + 36)) 48), .a (.i .i64 (0 : Int)), .a (.u), .a (.u), .a (.u), .a (.u), .a (.u), .a (.u), .a (.u), .a (.u), .a (.u), .a (.u), .a (.u), .a (.u), .a (.u), .a (.u), .a (.u), .a (.u), .a (.u), .a (.u), .a (.u), .a (.u), .a (.u), .a (.u), .a (.u), .a (.u), .a (.u), .a (.u), .a (.u), .a (.u)], [.row a0 29, .row a1 50, .no], []⟩ : St) ([.a (.b (y0_4)), .a (.i .i64 (y0_5)), .a (.i .i64 (y0_12))], []) = (bif decide (y0_12 < (36 : Int)) then (bif (decide (0 ≤ y0_12) && decide (y0_12 < 36)) then (bif decide ((num (a1.extract 3 (3 + 36)) ((y0_12).toNat * 1)) < (0 : Int)) then (some (.done (.ret, ([.a (.b (false)), .a (.i .i64 (y0_5)), .a (.i .i64 (y0_12))], []))))
        else (bif decide ((num (a1.extract 3 (3 + 36)) ((y0_12).toNat * 1)) > y0_5) then (some (.done (.ret, ([.a (.b (false)), .a (.i .i64 (y0_5)), .a (.i .i64 (y0_12))], []))))
          else (bif decide ((num (a1.extract 3 (3 + 36)) ((y0_12).toNat * 1)) > (0 : Int)) then (bif (!((impl_hasCell_v0 a0 y0_12))) then (some (.done (.ret, ([.a (.b (false)), .a (.i .i64 (y0_5)), .a (.i .i64 (y0_12))], []))))
              else (some (.more ([.a (.b (y0_4)), .a (.i .i64 (IntKind.i64.wrap (y0_5 - (num (a1.extract 3 (3 + 36)) ((y0_12).toNat * 1))))), .a (.i .i64 (IntKind.i64.wrap (y0_12 + (1 : Int))))], []))))
            else (some (.more ([.a (.b (y0_4)), .a (.i .i64 (IntKind.i64.wrap (y0_5 - (num (a1.extract 3 (3 + 36)) ((y0_12).toNat * 1))))), .a (.i .i64 (IntKind.i64.wrap (y0_12 + (1 : Int))))], []))))))
      else (none))
    else (some (.done ((.exit 0), ([.a (.b (y0_4)), .a (.i .i64 (y0_5)), .a (.i .i64 (y0_12))], []))))) := by kernel_rfl
  refine h.trans ?_
  simp only [impl_sumsToAll_g0, mapS_cond, mapS_more, mapS_done, mapS_none, impl_sumsToAll_e0, impl_sumsToAll_x0]

noncomputable def impl_sumsToAll_k0_0 (P : Program) (N : Nat) (a0 : Array Value) (a1 : Array Value) (z0_4 : Bool) (z0_5 : Int) (z0_12 : Int) : Option (SV × Eff × Bool) := some (.a (.b (z0_4)), .none, true)

theorem impl_sumsToAll_k0_0_eq (N : Nat) (a0 : Array Value) (a1 : Array Value) (z0_4 : Bool) (z0_5 : Int) (z0_12 : Int) : (kBlock 0 (kSeq (veC Try.prog (mkΓ [(86, con impl_allOf_con), (94, con impl_hasCell_con)]) N (cAt (codeOf Try.f125) [1, 1, 1]) (pAt (mkPlan (codeOf Try.f125) [([4, 5, 12], [])]).1 [1, 1, 1]) (SV × Eff × Bool)) (finK Try.prog [] [.tmp 4]))) .ret (left (writes (cAt (codeOf Try.f125) [1, 1, 0, 1, 0, 0])) [4, 5, 12] [] (⟨[.a (.g a0 29), .a (.g a1 50), .a (.w 0), .a (.w 1), .a (.b (false)), .a (.i .i64 (impl_allOf_v0 a1)), .a (.u), .a (.u), .a (.g a1 50), .a (.i .i64 (impl_allOf_v0 a1)), .a (.p 1 (3) 48), .a (.g (a1.extract 3 (3 + 36)) 48), .a (.i .i64 (0 : Int)), .a (.u), .a (.u), .a (.u), .a (.u), .a (.u), .a (.u), .a (.u), .a (.u), .a (.u), .a (.u), .a (.u), .a (.u), .a (.u), .a (.u), .a (.u), .a (.u), .a (.u), .a (.u), .a (.u), .a (.u), .a (.u), .a (.u), .a (.u), .a (.u), .a (.u), .a (.u), .a (.u), .a (.u)], [.row a0 29, .row a1 50, .no], []⟩ : St) ([.a (.b (z0_4)), .a (.i .i64 (z0_5)), .a (.i .i64 (z0_12))], [])) = impl_sumsToAll_k0_0 Try.prog N a0 a1 z0_4 z0_5 z0_12 := by
  have h : (kBlock 0 (kSeq (veC Try.prog (mkΓ [(86, con impl_allOf_con), (94, con impl_hasCell_con)]) N (cAt (codeOf Try.f125) [1, 1, 1]) (pAt (mkPlan (codeOf Try.f125) [([4, 5, 12], [])]).1 [1, 1, 1]) (SV × Eff × Bool)) (finK Try.prog [] [.tmp 4]))) .ret (left (writes (cAt (codeOf Try.f125) [1, 1, 0, 1, 0, 0])) [4, 5, 12] [] (⟨[.a (.g a0 29), .a (.g a1 50), .a (.w 0), .a (.w 1), .a (.b (false)), .a (.i .i64 (impl_allOf_v0 a1)), .a (.u), .a (.u), .a (.g a1 50), .a (.i .i64 (impl_allOf_v0 a1)), .a (.p 1 (3) 48), .a (.g (a1.extract 3 (3 + 36)) 48), .a (.i .i64 (0 : Int)), .a (.u), .a (.u), .a (.u), .a (.u), .a (.u), .a (.u), .a (.u), .a (.u), .a (.u), .a (.u), .a (.u), .a (.u), .a (.u), .a (.u), .a (.u), .a (.u), .a (.u), .a (.u), .a (.u), .a (.u), .a (.u), .a (.u), .a (.u), .a (.u), .a (.u), .a (.u), .a (.u), .a (.u)], [.row a0 29, .row a1 50, .no], []⟩ : St) ([.a (.b (z0_4)), .a (.i .i64 (z0_5)), .a (.i .i64 (z0_12))], [])) = (some (.a (.b (z0_4)), .none, true)) := by kernel_rfl
  refine h.trans ?_
  rfl

noncomputable def impl_sumsToAll_k0_1 (P : Program) (N : Nat) (a0 : Array Value) (a1 : Array Value) (z0_4 : Bool) (z0_5 : Int) (z0_12 : Int) : Option (SV × Eff × Bool) := some (.a (.b (((num a1 39) == z0_5))), .none, true)

theorem impl_sumsToAll_k0_1_eq (N : Nat) (a0 : Array Value) (a1 : Array Value) (z0_4 : Bool) (z0_5 : Int) (z0_12 : Int) : (kBlock 0 (kSeq (veC Try.prog (mkΓ [(86, con impl_allOf_con), (94, con impl_hasCell_con)]) N (cAt (codeOf Try.f125) [1, 1, 1]) (pAt (mkPlan (codeOf Try.f125) [([4, 5, 12], [])]).1 [1, 1, 1]) (SV × Eff × Bool)) (finK Try.prog [] [.tmp 4]))) (.exit 0) (left (writes (cAt (codeOf Try.f125) [1, 1, 0, 1, 0, 0])) [4, 5, 12] [] (⟨[.a (.g a0 29), .a (.g a1 50), .a (.w 0), .a (.w 1), .a (.b (false)), .a (.i .i64 (impl_allOf_v0 a1)), .a (.u), .a (.u), .a (.g a1 50), .a (.i .i64 (impl_allOf_v0 a1)), .a (.p 1 (3) 48), .a (.g (a1.extract 3 (3 + 36)) 48), .a (.i .i64 (0 : Int)), .a (.u), .a (.u), .a (.u), .a (.u), .a (.u), .a (.u), .a (.u), .a (.u), .a (.u), .a (.u), .a (.u), .a (.u), .a (.u), .a (.u), .a (.u), .a (.u), .a (.u), .a (.u), .a (.u), .a (.u), .a (.u), .a (.u), .a (.u), .a (.u), .a (.u), .a (.u), .a (.u), .a (.u)], [.row a0 29, .row a1 50, .no], []⟩ : St) ([.a (.b (z0_4)), .a (.i .i64 (z0_5)), .a (.i .i64 (z0_12))], [])) = impl_sumsToAll_k0_1 Try.prog N a0 a1 z0_4 z0_5 z0_12 := by
  have h : (kBlock 0 (kSeq (veC Try.prog (mkΓ [(86, con impl_allOf_con), (94, con impl_hasCell_con)]) N (cAt (codeOf Try.f125) [1, 1, 1]) (pAt (mkPlan (codeOf Try.f125) [([4, 5, 12], [])]).1 [1, 1, 1]) (SV × Eff × Bool)) (finK Try.prog [] [.tmp 4]))) (.exit 0) (left (writes (cAt (codeOf Try.f125) [1, 1, 0, 1, 0, 0])) [4, 5, 12] [] (⟨[.a (.g a0 29), .a (.g a1 50), .a (.w 0), .a (.w 1), .a (.b (false)), .a (.i .i64 (impl_allOf_v0 a1)), .a (.u), .a (.u), .a (.g a1 50), .a (.i .i64 (impl_allOf_v0 a1)), .a (.p 1 (3) 48), .a (.g (a1.extract 3 (3 + 36)) 48), .a (.i .i64 (0 : Int)), .a (.u), .a (.u), .a (.u), .a (.u), .a (.u), .a (.u), .a (.u), .a (.u), .a (.u), .a (.u), .a (.u), .a (.u), .a (.u), .a (.u), .a (.u), .a (.u), .a (.u), .a (.u), .a (.u), .a (.u), .a (.u), .a (.u), .a (.u), .a (.u), .a (.u), .a (.u), .a (.u), .a (.u)], [.row a0 29, .row a1 50, .no], []⟩ : St) ([.a (.b (z0_4)), .a (.i .i64 (z0_5)), .a (.i .i64 (z0_12))], [])) = (some (.a (.b (((num a1 39) == z0_5))), .none, true)) := by kernel_rfl
  refine h.trans ?_
  rfl

theorem impl_sumsToAll_n0 (N : Nat) (a0 : Array Value) (a1 : Array Value) : bindX (iterO (stepV Try.prog (mkΓ [(86, con impl_allOf_con), (94, con impl_hasCell_con)]) N (cAt (codeOf Try.f125) [1, 1, 0, 1, 0, 0]) (pAt (mkPlan (codeOf Try.f125) [([4, 5, 12], [])]).1 [1, 1, 0, 1, 0]) [4, 5, 12] [] (⟨[.a (.g a0 29), .a (.g a1 50), .a (.w 0), .a (.w 1), .a (.b (false)), .a (.i .i64 (impl_allOf_v0 a1)), .a (.u), .a (.u), .a (.g a1 50), .a (.i .i64 (impl_allOf_v0 a1)), .a (.p 1 (3) 48), .a (.g (a1.extract 3 (3 + 36)) 48), .a (.i .i64 (0 : Int)), .a (.u), .a (.u), .a (.u), .a (.u), .a (.u), .a (.u), .a (.u), .a (.u), .a (.u), .a (.u), .a (.u), .a (.u), .a (.u), .a (.u), .a (.u), .a (.u), .a (.u), .a (.u), .a (.u), .a (.u), .a (.u), .a (.u), .a (.u), .a (.u), .a (.u), .a (.u), .a (.u), .a (.u)], [.row a0 29, .row a1 50, .no], []⟩ : St)) N ([.a (.b (false)), .a (.i .i64 (impl_allOf_v0 a1)), .a (.i .i64 (0 : Int))], [])) (fun e s => (kBlock 0 (kSeq (veC Try.prog (mkΓ [(86, con impl_allOf_con), (94, con impl_hasCell_con)]) N (cAt (codeOf Try.f125) [1, 1, 1]) (pAt (mkPlan (codeOf Try.f125) [([4, 5, 12], [])]).1 [1, 1, 1]) (SV × Eff × Bool)) (finK Try.prog [] [.tmp 4]))) e (left (writes (cAt (codeOf Try.f125) [1, 1, 0, 1, 0, 0])) [4, 5, 12] [] (⟨[.a (.g a0 29), .a (.g a1 50), .a (.w 0), .a (.w 1), .a (.b (false)), .a (.i .i64 (impl_allOf_v0 a1)), .a (.u), .a (.u), .a (.g a1 50), .a (.i .i64 (impl_allOf_v0 a1)), .a (.p 1 (3) 48), .a (.g (a1.extract 3 (3 + 36)) 48), .a (.i .i64 (0 : Int)), .a (.u), .a (.u), .a (.u), .a (.u), .a (.u), .a (.u), .a (.u), .a (.u), .a (.u), .a (.u), .a (.u), .a (.u), .a (.u), .a (.u), .a (.u), .a (.u), .a (.u), .a (.u), .a (.u), .a (.u), .a (.u), .a (.u), .a (.u), .a (.u), .a (.u), .a (.u), .a (.u), .a (.u)], [.row a0 29, .row a1 50, .no], []⟩ : St) s)) = nodeX (iterO (impl_sumsToAll_g0 Try.prog a0 a1) N (false, (impl_allOf_v0 a1), (0 : Int))) (st2 (fun x => impl_sumsToAll_k0_0 Try.prog N a0 a1 x.1 x.2.1 x.2.2) (fun x => impl_sumsToAll_k0_1 Try.prog N a0 a1 x.1 x.2.1 x.2.2)) := by
  refine loop_node impl_sumsToAll_e0 impl_sumsToAll_x0 _ _ (impl_sumsToAll_s0 N a0 a1) N (false, (impl_allOf_v0 a1), (0 : Int)) _ _ ?_
  intro x
  cases x with
  | more x => exact impl_sumsToAll_k0_0_eq N a0 a1 x.1 x.2.1 x.2.2
  | done x => exact impl_sumsToAll_k0_1_eq N a0 a1 x.1 x.2.1 x.2.2

theorem impl_sumsToAll_ans (N : Nat) (a0 : Array Value) (a1 : Array Value) : ansV Try.prog (mkΓ [(86, con impl_allOf_con), (94, con impl_hasCell_con)]) N Try.f125 [([4, 5, 12], [])] [.g a0 29, .g a1 50] [] = (bif (impl_allOf_gd a1) then (nodeX (iterO (impl_sumsToAll_g0 Try.prog a0 a1) N (false, (impl_allOf_v0 a1), (0 : Int))) (st2 (fun x => impl_sumsToAll_k0_0 Try.prog N a0 a1 x.1 x.2.1 x.2.2) (fun x => impl_sumsToAll_k0_1 Try.prog N a0 a1 x.1 x.2.1 x.2.2)))
    else (none)) := by
  have h : ansV Try.prog (mkΓ [(86, con impl_allOf_con), (94, con impl_hasCell_con)]) N Try.f125 [([4, 5, 12], [])] [.g a0 29, .g a1 50] [] = (bif (impl_allOf_gd a1) then (bindX (iterO (stepV Try.prog (mkΓ [(86, con impl_allOf_con), (94, con impl_hasCell_con)]) N (cAt (codeOf Try.f125) [1, 1, 0, 1, 0, 0]) (pAt (mkPlan (codeOf Try.f125) [([4, 5, 12], [])]).1 [1, 1, 0, 1, 0]) [4, 5, 12] [] (⟨[.a (.g a0 29), .a (.g a1 50), .a (.w 0), .a (.w 1), .a (.b (false)), .a (.i .i64 (impl_allOf_v0 a1)), .a (.u), .a (.u), .a (.g a1 50), .a (.i .i64 (impl_allOf_v0 a1)), .a (.p 1 (3) 48), .a (.g (a1.extract 3 (3 + 36)) 48), .a (.i .i64 (0 : Int)), .a (.u), .a (.u), .a (.u), .a (.u), .a (.u), .a (.u), .a (.u), .a (.u), .a (.u), .a (.u), .a (.u), .a (.u), .a (.u), .a (.u), .a (.u), .a (.u), .a (.u), .a (.u), .a (.u), .a (.u), .a (.u), .a (.u), .a (.u), .a (.u), .a (.u), .a (.u), .a (.u), .a (.u)], [.row a0 29, .row a1 50, .no], []⟩ : St)) N ([.a (.b (false)), .a (.i .i64 (impl_allOf_v0 a1)), .a (.i .i64 (0 : Int))], [])) (fun e s => (kBlock 0 (kSeq (veC Try.prog (mkΓ [(86, con impl_allOf_con), (94, con impl_hasCell_con)]) N (cAt (codeOf Try.f125) [1, 1, 1]) (pAt (mkPlan (codeOf Try.f125) [([4, 5, 12], [])]).1 [1, 1, 1]) (SV × Eff × Bool)) (finK Try.prog [] [.tmp 4]))) e (left (writes (cAt (codeOf Try.f125) [1, 1, 0, 1, 0, 0])) [4, 5, 12] [] (⟨[.a (.g a0 29), .a (.g a1 50), .a (.w 0), .a (.w 1), .a (.b (false)), .a (.i .i64 (impl_allOf_v0 a1)), .a (.u), .a (.u), .a (.g a1 50), .a (.i .i64 (impl_allOf_v0 a1)), .a (.p 1 (3) 48), .a (.g (a1.extract 3 (3 + 36)) 48), .a (.i .i64 (0 : Int)), .a (.u), .a (.u), .a (.u), .a (.u), .a (.u), .a (.u), .a (.u), .a (.u), .a (.u), .a (.u), .a (.u), .a (.u), .a (.u), .a (.u), .a (.u), .a (.u), .a (.u), .a (.u), .a (.u), .a (.u), .a (.u), .a (.u), .a (.u), .a (.u), .a (.u), .a (.u), .a (.u), .a (.u)], [.row a0 29, .row a1 50, .no], []⟩ : St) s)))
    else (none)) := by kernel_rfl
  refine h.trans ?_
  simp only [impl_sumsToAll_n0]

theorem impl_sumsToAll_main (a0 : Array Value) (a1 : Array Value) (h_a0 : WT Try.prog 29 a0) (h_a1 : WT Try.prog 50 a1) (hg : ((impl_allOf_gd a1)) = true) : ansV Try.prog (mkΓ [(86, con impl_allOf_con), (94, con impl_hasCell_con)]) 1000 Try.f125 [([4, 5, 12], [])] [.g a0 29, .g a1 50] [] = some (.a (.b ((implSp a0 a1))), .none, true) := by
  have hz : a1.size = 40 := by rw [h_a1.layLen]; kernel_rfl
  refine (impl_sumsToAll_ans 1000 a0 a1).trans ?_
  rw [hg, cond_true]
  unfold implSp
  show nodeX (iterO (impl_sumsToAll_g0 Try.prog a0 a1) 1000 (false, allW a1, (0 : Int))) _ = _
  generalize allW a1 = X
  refine (iter_first (g := impl_sumsToAll_g0 Try.prog a0 a1) (fun k => (false, leftW X a1 k, (k : Int))) (pI a0 a1 X) 36 (N := 1000) (xd := .done (false, leftW X a1 36, ((36 : Nat) : Int))) (by omega) (fun k hk hp => by
    have h1 : decide ((k : Int) < 36) = true := decide_eq_true (by omega)
    have h0 : decide (0 ≤ (k : Int)) = true := decide_eq_true (by omega)
    have h3 : IntKind.i64.wrap ((k : Int) + 1) = ((k + 1 : Nat) : Int) := by rw [IntWalk.i64_in _ (by omega)]; omega
    have h4 : ((k : Int)).toNat = k := Int.toNat_natCast k
    have h5 := cell_num (T := 0) hz k hk
    unfold pI at hp
    simp only [Bool.and_eq_true, Bool.not_eq_true'] at hp
    cases hn : decide (num a1 (3 + k * 1) > 0)
    · simp only [impl_sumsToAll_g0, h1, h0, Bool.and_self, h4, cond_true, h3, h5, hp.1, hp.2.1, cond_false, hn, leftW]
    · have hp2 := hp.2.2
      rw [hn] at hp2
      simp only [Bool.not_true, Bool.false_or] at hp2
      simp only [impl_sumsToAll_g0, h1, h0, Bool.and_self, h4, cond_true, h3, h5, hp.1, hp.2.1, Bool.not_true, cond_false, hn, hp2, leftW]) (by
    have h1 : decide (((36 : Nat) : Int) < 36) = false := by decide
    simp only [impl_sumsToAll_g0, h1, cond_false]) (allB (pI a0 a1 X)) (allB_iff _) (some (.a (.b (num a1 39 == leftW X a1 36)), .none, true)) (some (.a (.b false), .none, true)) rfl (fun k hk hp => by
    refine ⟨.more (false, leftW X a1 k, (k : Int)), ?_, rfl⟩
    have h1 : decide ((k : Int) < 36) = true := decide_eq_true (by omega)
    have h0 : decide (0 ≤ (k : Int)) = true := decide_eq_true (by omega)
    have h3 : IntKind.i64.wrap ((k : Int) + 1) = ((k + 1 : Nat) : Int) := by rw [IntWalk.i64_in _ (by omega)]; omega
    have h4 : ((k : Int)).toNat = k := Int.toNat_natCast k
    have h5 := cell_num (T := 0) hz k hk
    unfold pI at hp
    cases hi : decide (num a1 (3 + k * 1) < 0)
    · cases hj : decide (num a1 (3 + k * 1) > leftW X a1 k)
      · rw [hi, hj] at hp
        simp only [Bool.not_false, Bool.true_and, Bool.or_eq_false_iff, Bool.not_eq_false'] at hp
        simp only [impl_sumsToAll_g0, h1, h0, Bool.and_self, h4, cond_true, h5, hi, hj, cond_false, hp.1, hp.2, Bool.not_false]
      · simp only [impl_sumsToAll_g0, h1, h0, Bool.and_self, h4, cond_true, h5, hi, hj, cond_false]
    · simp only [impl_sumsToAll_g0, h1, h0, Bool.and_self, h4, cond_true, h5, hi])).trans ?_
  cases allB (pI a0 a1 X) <;> rfl
noncomputable def impl_sumsToAll_con : Con := fun args h => match args, h with
  | [.g a0 29, .g a1 50], [] => some (.a (.b ((implSp a0 a1))), .none, (impl_allOf_gd a1))
  | _, _ => none
theorem impl_sumsToAll_enter : ∀ args w, (callFunc 125 args).run Try.prog w = .ok (.enter 125 args) w := enter_ok (fn := Try.f125) (by kernel_rfl) (by kernel_rfl) (by kernel_rfl)
theorem impl_sumsToAll_ok : ConOk Try.prog 125 impl_sumsToAll_con := (ans_ok (N := 1000) (by kernel_rfl) (mkΓ_cons (con_ok impl_allOf_ok) impl_allOf_enter (mkΓ_cons (con_ok impl_hasCell_ok) impl_hasCell_enter mkΓ_nil)) (fn := Try.f125) (by kernel_rfl) (by kernel_rfl) [([4, 5, 12], [])]).of (by
  intro ρ h w args vals r e hA hH hr
  unfold impl_sumsToAll_con at hr
  split at hr
  · rename_i a0 a1
    obtain ⟨rfl, hg⟩ := Prod.mk.inj (Option.some.inj hr)
    obtain ⟨rfl, hg2⟩ := Prod.mk.inj hg
    exact impl_sumsToAll_main a0 a1 (hA.wt 0 rfl) (hA.wt 1 rfl) hg2
  · cases hr)

end
end Go.Proofs.Ytafmhcdelokmbaa
