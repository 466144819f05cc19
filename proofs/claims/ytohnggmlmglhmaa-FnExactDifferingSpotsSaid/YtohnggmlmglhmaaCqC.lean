/- Lists of spots compared, marked and looked at again. -/
import Derived.Test.YtohnggmlmglhmaaProg
import Derived.Test.YtohnggmlmglhmaaCqB
namespace Go.Proofs.Ytohnggmlmglhmaa
open Go.ChangeShapes Go.WideShapes Go.ChangeAt Go.RowKit Ve Vc
set_option linter.unusedVariables false
set_option linter.unusedSimpArgs false
set_option maxRecDepth 100000
noncomputable section
variable {mn : Md}
noncomputable def mk8 (n : Nat) (k : Int) : Array Value := ⟨(List.range n).map fun i : Nat => .int .i8 (IntKind.i8.wrap (k + (i : Int)))⟩
theorem mk8_size (n : Nat) (k : Int) : (mk8 n k).size = n := by simp [mk8]
theorem mk8_at {n : Nat} {k : Int} {i : Nat} (h : i < n) : (mk8 n k)[i]? = some (.int .i8 (IntKind.i8.wrap (k + (i : Int)))) := by
  unfold mk8; simp [h]
theorem mk8_num {n : Nat} {k : Int} {i : Nat} (h : i < n) : num (mk8 n k) i = IntKind.i8.wrap (k + (i : Int)) := by unfold num; rw [mk8_at h]
theorem s_laws_eqSpot_ans (N : Nat) (a0 : Array Value) (a1 : Array Value) : ansV Try.prog (mkΓ []) N Try.f15 [] [.g a0 49, .g a1 49] [] = (bif ((num a0 0) != (num a1 0)) then (some (.a (.b (false)), .none, true))
    else (bif ((num a0 1) != (num a1 1)) then (some (.a (.b (false)), .none, true))
      else (some (.a (.b (true)), .none, true)))) := by kernel_rfl
theorem s_laws_eqSpot_main (a0 : Array Value) (a1 : Array Value) (h_a0 : WT Try.prog 49 a0) (h_a1 : WT Try.prog 49 a1) (hg : (true) = true) : ansV Try.prog (mkΓ []) 1000 Try.f15 [] [.g a0 49, .g a1 49] [] = some (.a (.b (sameB a0 a1)), .none, true) := by
  have hz : a0.size = 2 := by rw [h_a0.layLen]; kernel_rfl
  have hy : a1.size = 2 := by rw [h_a1.layLen]; kernel_rfl
  refine (s_laws_eqSpot_ans 1000 a0 a1).trans ?_
  cases hb : sameB a0 a1
  · have hne := sameB_false.1 hb
    cases h0 : (num a0 0 != num a1 0)
    · skip
      cases h1 : (num a0 1 != num a1 1)
      · skip
        exfalso
        refine hne (arr_ext fun i => ?_)
        by_cases c0 : i = 0
        · subst c0
          rw [(h_a0.int (k := .i8) (o := 0) (by kernel_rfl)).1, (h_a1.int (k := .i8) (o := 0) (by kernel_rfl)).1, num_eq h0]
        by_cases c1 : i = 1
        · subst c1
          rw [(h_a0.int (k := .i8) (o := 1) (by kernel_rfl)).1, (h_a1.int (k := .i8) (o := 1) (by kernel_rfl)).1, num_eq h1]
        rw [Array.getElem?_eq_none (by omega), Array.getElem?_eq_none (by omega)]
      · rfl
    · rfl
  · rw [sameB_iff.1 hb]
    simp only [bne_self_eq_false, cond_false, sameB_self, Bool.not_true]
noncomputable def s_laws_eqSpot_con : Con := fun args h => match args, h with
  | [.g a0 49, .g a1 49], [] => some (.a (.b (sameB a0 a1)), .none, true)
  | _, _ => none
theorem s_laws_eqSpot_enter : EntX Try.prog 15 := entX_ok (fn := Try.f15) (by kernel_rfl) (by kernel_rfl) (by kernel_rfl)
theorem s_laws_eqSpot_ok : ConOkX mn Try.prog 15 s_laws_eqSpot_con := (ansX_ok (N := 1000) (by kernel_rfl) mkΓ_nilX (fn := Try.f15) (by kernel_rfl) (by kernel_rfl) []).of (by
  intro ρ h w args vals r e hA hH hr
  unfold s_laws_eqSpot_con at hr
  split at hr
  · rename_i a0 a1
    obtain ⟨rfl, hg⟩ := Prod.mk.inj (Option.some.inj hr)
    obtain ⟨rfl, hg2⟩ := Prod.mk.inj hg
    exact s_laws_eqSpot_main a0 a1 (hA.wt 0 rfl) (hA.wt 1 rfl) hg2
  · cases hr)
noncomputable def laws_eqSpotS_t0 (b_a0 : Option (Option Addr)) (n_a0 : Nat) (a0 : Array Value) (b_a1 : Option (Option Addr)) (n_a1 : Nat) (a1 : Array Value) : St := (⟨.a (.l 0) :: .a (.l 1) :: .a (.u) :: .a (.u) :: .a (.b (false)) :: .a (.i .i64 (0 : Int)) :: .a (.l 0) :: .a (.i .i64 (n_a0 : Int)) :: .a (.l 1) :: .a (.i .i64 (n_a1 : Int)) :: .a (.b (((n_a0 : Int) != (n_a1 : Int)))) :: us 16 ([]), [.sl (.came b_a0) n_a0 a0 49, .sl (.came b_a1) n_a1 a1 49], []⟩ : St)
noncomputable def laws_eqSpotS_e0 : Bool × Int → LS
  | (y0_4, y0_5) => ([.a (.b (y0_4)), .a (.i .i64 (y0_5))], [])
noncomputable def laws_eqSpotS_x0 : (Stp (Bool × Int) (Bool × Int)) → Exit × LS
  | .more t => (.ret, laws_eqSpotS_e0 t)
  | .done t => ((.exit 0), laws_eqSpotS_e0 t)
noncomputable def laws_eqSpotS_g0 (P : Program) (b_a0 : Option (Option Addr)) (n_a0 : Nat) (a0 : Array Value) (b_a1 : Option (Option Addr)) (n_a1 : Nat) (a1 : Array Value) : Bool × Int → Option (Stp (Bool × Int) (Stp (Bool × Int) (Bool × Int)))
  | (y0_4, y0_5) => bif decide (y0_5 < (n_a0 : Int)) then (bif (decide (0 ≤ y0_5) && decide (y0_5 < (n_a0 : Int))) then (bif (decide (0 ≤ y0_5) && decide (y0_5 < (n_a1 : Int))) then (bif (!(sameB (a0.extract ((y0_5).toNat * 2) (((y0_5).toNat * 2) + 2)) (a1.extract ((y0_5).toNat * 2) (((y0_5).toNat * 2) + 2)))) then (some (.done (.more (false, y0_5))))
          else (some (.more (y0_4, (IntKind.i64.wrap (y0_5 + (1 : Int)))))))
        else (none))
      else (none))
    else (some (.done (.done (y0_4, y0_5))))
theorem laws_eqSpotS_s0 (N : Nat) (b_a0 : Option (Option Addr)) (n_a0 : Nat) (a0 : Array Value) (b_a1 : Option (Option Addr)) (n_a1 : Nat) (a1 : Array Value) : ∀ t : Bool × Int, stepV Try.prog (mkΓ [(15, con s_laws_eqSpot_con)]) N (cAt (codeOf Try.f7) [1, 1, 0, 1, 0, 0]) (pAt (mkPlan (codeOf Try.f7) [([4, 5], [])]).1 [1, 1, 0, 1, 0]) [4, 5] [] (laws_eqSpotS_t0 b_a0 n_a0 a0 b_a1 n_a1 a1) (laws_eqSpotS_e0 t) = mapS laws_eqSpotS_e0 laws_eqSpotS_x0 (laws_eqSpotS_g0 Try.prog b_a0 n_a0 a0 b_a1 n_a1 a1 t) := by
  rintro ⟨y0_4, y0_5⟩
  refine Eq.trans (b := (bif decide (y0_5 < (n_a0 : Int)) then (bif (decide (0 ≤ y0_5) && decide (y0_5 < (n_a0 : Int))) then (bif (decide (0 ≤ y0_5) && decide (y0_5 < (n_a1 : Int))) then (bif (!(sameB (a0.extract ((y0_5).toNat * 2) (((y0_5).toNat * 2) + 2)) (a1.extract ((y0_5).toNat * 2) (((y0_5).toNat * 2) + 2)))) then (some (.done (.ret, ([.a (.b (false)), .a (.i .i64 (y0_5))], []))))
          else (some (.more ([.a (.b (y0_4)), .a (.i .i64 (IntKind.i64.wrap (y0_5 + (1 : Int))))], []))))
        else (none))
      else (none))
    else (some (.done ((.exit 0), ([.a (.b (y0_4)), .a (.i .i64 (y0_5))], [])))))) (by kernel_rfl) ?_
  simp only [laws_eqSpotS_g0, mapS_cond, mapS_more, mapS_done, mapS_none, laws_eqSpotS_e0, laws_eqSpotS_x0]
noncomputable def laws_eqSpotS_k0_0 (P : Program) (N : Nat) (b_a0 : Option (Option Addr)) (n_a0 : Nat) (a0 : Array Value) (b_a1 : Option (Option Addr)) (n_a1 : Nat) (a1 : Array Value) (z0_4 : Bool) (z0_5 : Int) : Option (SV × Eff × Bool) := some (.a (.b (z0_4)), .none, true)
theorem laws_eqSpotS_k0_0_eq (N : Nat) (b_a0 : Option (Option Addr)) (n_a0 : Nat) (a0 : Array Value) (b_a1 : Option (Option Addr)) (n_a1 : Nat) (a1 : Array Value) (z0_4 : Bool) (z0_5 : Int) : (kBlock 0 (kSeq (veC Try.prog (mkΓ [(15, con s_laws_eqSpot_con)]) N (cAt (codeOf Try.f7) [1, 1, 1]) (pAt (mkPlan (codeOf Try.f7) [([4, 5], [])]).1 [1, 1, 1]) (SV × Eff × Bool)) (finK Try.prog [.sl (.came b_a0) n_a0 a0 49, .sl (.came b_a1) n_a1 a1 49] [.tmp 4]))) .ret (left (writes (cAt (codeOf Try.f7) [1, 1, 0, 1, 0, 0])) [4, 5] [] (laws_eqSpotS_t0 b_a0 n_a0 a0 b_a1 n_a1 a1) ([.a (.b (z0_4)), .a (.i .i64 (z0_5))], [])) = laws_eqSpotS_k0_0 Try.prog N b_a0 n_a0 a0 b_a1 n_a1 a1 z0_4 z0_5 := by
  refine Eq.trans (b := (some (.a (.b (z0_4)), .none, true))) (by kernel_rfl) ?_
  rfl
noncomputable def laws_eqSpotS_k0_1 (P : Program) (N : Nat) (b_a0 : Option (Option Addr)) (n_a0 : Nat) (a0 : Array Value) (b_a1 : Option (Option Addr)) (n_a1 : Nat) (a1 : Array Value) (z0_4 : Bool) (z0_5 : Int) : Option (SV × Eff × Bool) := some (.a (.b (true)), .none, true)
theorem laws_eqSpotS_k0_1_eq (N : Nat) (b_a0 : Option (Option Addr)) (n_a0 : Nat) (a0 : Array Value) (b_a1 : Option (Option Addr)) (n_a1 : Nat) (a1 : Array Value) (z0_4 : Bool) (z0_5 : Int) : (kBlock 0 (kSeq (veC Try.prog (mkΓ [(15, con s_laws_eqSpot_con)]) N (cAt (codeOf Try.f7) [1, 1, 1]) (pAt (mkPlan (codeOf Try.f7) [([4, 5], [])]).1 [1, 1, 1]) (SV × Eff × Bool)) (finK Try.prog [.sl (.came b_a0) n_a0 a0 49, .sl (.came b_a1) n_a1 a1 49] [.tmp 4]))) (.exit 0) (left (writes (cAt (codeOf Try.f7) [1, 1, 0, 1, 0, 0])) [4, 5] [] (laws_eqSpotS_t0 b_a0 n_a0 a0 b_a1 n_a1 a1) ([.a (.b (z0_4)), .a (.i .i64 (z0_5))], [])) = laws_eqSpotS_k0_1 Try.prog N b_a0 n_a0 a0 b_a1 n_a1 a1 z0_4 z0_5 := by
  refine Eq.trans (b := (some (.a (.b (true)), .none, true))) (by kernel_rfl) ?_
  rfl
theorem laws_eqSpotS_n0 (N : Nat) (b_a0 : Option (Option Addr)) (n_a0 : Nat) (a0 : Array Value) (b_a1 : Option (Option Addr)) (n_a1 : Nat) (a1 : Array Value) : bindX (iterO (stepV Try.prog (mkΓ [(15, con s_laws_eqSpot_con)]) N (cAt (codeOf Try.f7) [1, 1, 0, 1, 0, 0]) (pAt (mkPlan (codeOf Try.f7) [([4, 5], [])]).1 [1, 1, 0, 1, 0]) [4, 5] [] (laws_eqSpotS_t0 b_a0 n_a0 a0 b_a1 n_a1 a1)) N ([.a (.b (false)), .a (.i .i64 (0 : Int))], [])) (fun e s => (kBlock 0 (kSeq (veC Try.prog (mkΓ [(15, con s_laws_eqSpot_con)]) N (cAt (codeOf Try.f7) [1, 1, 1]) (pAt (mkPlan (codeOf Try.f7) [([4, 5], [])]).1 [1, 1, 1]) (SV × Eff × Bool)) (finK Try.prog [.sl (.came b_a0) n_a0 a0 49, .sl (.came b_a1) n_a1 a1 49] [.tmp 4]))) e (left (writes (cAt (codeOf Try.f7) [1, 1, 0, 1, 0, 0])) [4, 5] [] (laws_eqSpotS_t0 b_a0 n_a0 a0 b_a1 n_a1 a1) s)) = nodeX (iterO (laws_eqSpotS_g0 Try.prog b_a0 n_a0 a0 b_a1 n_a1 a1) N (false, (0 : Int))) (st2 (fun x => laws_eqSpotS_k0_0 Try.prog N b_a0 n_a0 a0 b_a1 n_a1 a1 x.1 x.2) (fun x => laws_eqSpotS_k0_1 Try.prog N b_a0 n_a0 a0 b_a1 n_a1 a1 x.1 x.2)) := by
  refine loop_node laws_eqSpotS_e0 laws_eqSpotS_x0 _ _ (laws_eqSpotS_s0 N b_a0 n_a0 a0 b_a1 n_a1 a1) N (false, (0 : Int)) _ _ ?_
  intro x
  cases x with
  | more x => exact laws_eqSpotS_k0_0_eq N b_a0 n_a0 a0 b_a1 n_a1 a1 x.1 x.2
  | done x => exact laws_eqSpotS_k0_1_eq N b_a0 n_a0 a0 b_a1 n_a1 a1 x.1 x.2
theorem laws_eqSpotS_ans (N : Nat) (b_a0 : Option (Option Addr)) (n_a0 : Nat) (a0 : Array Value) (b_a1 : Option (Option Addr)) (n_a1 : Nat) (a1 : Array Value) : ansV Try.prog (mkΓ [(15, con s_laws_eqSpot_con)]) N Try.f7 [([4, 5], [])] [.l 0, .l 1] [.sl (.came b_a0) n_a0 a0 49, .sl (.came b_a1) n_a1 a1 49] = (bif ((n_a0 : Int) != (n_a1 : Int)) then (some (.a (.b (false)), .none, true))
    else (nodeX (iterO (laws_eqSpotS_g0 Try.prog b_a0 n_a0 a0 b_a1 n_a1 a1) N (false, (0 : Int))) (st2 (fun x => laws_eqSpotS_k0_0 Try.prog N b_a0 n_a0 a0 b_a1 n_a1 a1 x.1 x.2) (fun x => laws_eqSpotS_k0_1 Try.prog N b_a0 n_a0 a0 b_a1 n_a1 a1 x.1 x.2)))) := by
  refine Eq.trans (b := (bif ((n_a0 : Int) != (n_a1 : Int)) then (some (.a (.b (false)), .none, true))
    else (bindX (iterO (stepV Try.prog (mkΓ [(15, con s_laws_eqSpot_con)]) N (cAt (codeOf Try.f7) [1, 1, 0, 1, 0, 0]) (pAt (mkPlan (codeOf Try.f7) [([4, 5], [])]).1 [1, 1, 0, 1, 0]) [4, 5] [] (laws_eqSpotS_t0 b_a0 n_a0 a0 b_a1 n_a1 a1)) N ([.a (.b (false)), .a (.i .i64 (0 : Int))], [])) (fun e s => (kBlock 0 (kSeq (veC Try.prog (mkΓ [(15, con s_laws_eqSpot_con)]) N (cAt (codeOf Try.f7) [1, 1, 1]) (pAt (mkPlan (codeOf Try.f7) [([4, 5], [])]).1 [1, 1, 1]) (SV × Eff × Bool)) (finK Try.prog [.sl (.came b_a0) n_a0 a0 49, .sl (.came b_a1) n_a1 a1 49] [.tmp 4]))) e (left (writes (cAt (codeOf Try.f7) [1, 1, 0, 1, 0, 0])) [4, 5] [] (laws_eqSpotS_t0 b_a0 n_a0 a0 b_a1 n_a1 a1) s))))) (by kernel_rfl) ?_
  simp only [laws_eqSpotS_n0 N b_a0 n_a0 a0 b_a1 n_a1 a1]
theorem laws_eqSpotS_main (b_a0 : Option (Option Addr)) (n_a0 : Nat) (a0 : Array Value) (b_a1 : Option (Option Addr)) (n_a1 : Nat) (a1 : Array Value) (h_a0 : a0.size = n_a0 * (lay Try.prog 49).length ∧ (∀ k, k < n_a0 → WT Try.prog 49 (a0.extract (k * (lay Try.prog 49).length) (k * (lay Try.prog 49).length + (lay Try.prog 49).length))) ∧ n_a0 ≤ 9223372036854775807) (h_a1 : a1.size = n_a1 * (lay Try.prog 49).length ∧ (∀ k, k < n_a1 → WT Try.prog 49 (a1.extract (k * (lay Try.prog 49).length) (k * (lay Try.prog 49).length + (lay Try.prog 49).length))) ∧ n_a1 ≤ 9223372036854775807) (hg : (true) = true) : ansV Try.prog (mkΓ [(15, con s_laws_eqSpot_con)]) 18446744073709551616 Try.f7 [([4, 5], [])] [.l 0, .l 1] [.sl (.came b_a0) n_a0 a0 49, .sl (.came b_a1) n_a1 a1 49] = some (.a (.b ((decide (n_a0 = n_a1) && sameB a0 a1))), .none, true) := by
  have hm : (lay Try.prog 49).length = 2 := by kernel_rfl
  obtain ⟨s1, s2, s3⟩ := h_a0
  obtain ⟨t1, t2, t3⟩ := h_a1
  rw [hm] at s1 s2 t1 t2
  have hq : (lay Try.prog 49)[0]? = some 0 := by kernel_rfl
  refine (laws_eqSpotS_ans 18446744073709551616 b_a0 n_a0 a0 b_a1 n_a1 a1).trans ?_
  by_cases hl : n_a0 = n_a1
  case neg =>
    rw [decide_eq_false hl, show ((n_a0 : Int) != (n_a1 : Int)) = true from bne_iff_ne.2 (by omega)]
    rfl
  subst hl
  rw [decide_eq_true rfl, show ((n_a0 : Int) != (n_a0 : Int)) = false from bne_self_eq_false _]
  simp only [cond_false, Bool.true_and]
  have hb : sameB a0 a1 = true ↔ ∀ k, k < n_a0 → (fun k => sameB (a0.extract (k * 2) (k * 2 + 2)) (a1.extract (k * 2) (k * 2 + 2))) k = true := by
    constructor
    · intro h k hk
      rw [sameB_iff.1 h]
      exact sameB_self _
    · intro h
      refine sameB_iff.2 ?_
      exact ext_parts (n := n_a0) (m := 2) (by omega) s1 t1 (fun k hk => sameB_iff.1 (h k hk))
  refine (iter_first (g := laws_eqSpotS_g0 Try.prog b_a0 n_a0 a0 b_a1 n_a0 a1) (fun k => (false, (k : Int))) (fun k => sameB (a0.extract (k * 2) (k * 2 + 2)) (a1.extract (k * 2) (k * 2 + 2))) n_a0 (N := 18446744073709551616) (xd := .done (false, (n_a0 : Int))) (by omega) (fun k hk hp => by
    have h1 : decide ((k : Int) < (n_a0 : Int)) = true := decide_eq_true (by omega)
    have h0 : decide (0 ≤ (k : Int)) = true := decide_eq_true (by omega)
    have h3 : IntKind.i64.wrap ((k : Int) + 1) = ((k + 1 : Nat) : Int) := by rw [IntWalk.i64_in _ (by omega)]; omega
    have hp' : sameB (a0.extract (k * 2) (k * 2 + 2)) (a1.extract (k * 2) (k * 2 + 2)) = true := hp
    simp only [laws_eqSpotS_g0, h1, h0, Bool.and_self, Int.toNat_natCast, cond_true, h3, hp', Bool.not_true, cond_false]) (by
    have h1 : decide ((n_a0 : Int) < (n_a0 : Int)) = false := decide_eq_false (by omega)
    simp only [laws_eqSpotS_g0, h1, cond_false]) (sameB a0 a1) hb (some (.a (.b true), .none, true)) (some (.a (.b false), .none, true)) rfl (fun k hk hp => by
    refine ⟨.more (false, (k : Int)), ?_, rfl⟩
    have h1 : decide ((k : Int) < (n_a0 : Int)) = true := decide_eq_true (by omega)
    have h0 : decide (0 ≤ (k : Int)) = true := decide_eq_true (by omega)
    have hp' : sameB (a0.extract (k * 2) (k * 2 + 2)) (a1.extract (k * 2) (k * 2 + 2)) = false := hp
    simp only [laws_eqSpotS_g0, h1, h0, Bool.and_self, Int.toNat_natCast, cond_true, hp', Bool.not_false])).trans ?_
  cases sameB a0 a1 <;> rfl
noncomputable def laws_eqSpotS_con : Con := fun args h => match args, h with
  | [.l 0, .l 1], [.sl (.came b_a0) n_a0 a0 49, .sl (.came b_a1) n_a1 a1 49] => some (.a (.b ((decide (n_a0 = n_a1) && sameB a0 a1))), .none, true)
  | _, _ => none
theorem laws_eqSpotS_enter : EntX Try.prog 7 := entX_ok (fn := Try.f7) (by kernel_rfl) (by kernel_rfl) (by kernel_rfl)
theorem laws_eqSpotS_ok : ConOkX mn Try.prog 7 laws_eqSpotS_con := (ansX_ok (N := 18446744073709551616) (by kernel_rfl) (mkΓ_consX (con_okX s_laws_eqSpot_ok) s_laws_eqSpot_enter mkΓ_nilX) (fn := Try.f7) (by kernel_rfl) (by kernel_rfl) [([4, 5], [])]).of (by
  intro ρ h w args vals r e hA hH hr
  unfold laws_eqSpotS_con at hr
  split at hr
  · rename_i b_a0 n_a0 a0 b_a1 n_a1 a1
    obtain ⟨rfl, hg⟩ := Prod.mk.inj (Option.some.inj hr)
    obtain ⟨rfl, hg2⟩ := Prod.mk.inj hg
    exact laws_eqSpotS_main b_a0 n_a0 a0 b_a1 n_a1 a1 (hH.slw 0 rfl) (hH.slw 1 rfl) hg2
  · cases hr)
noncomputable def laws_markSpotS_t0 (a1 : Int) (n_a0 : Nat) (a0 : Array Value) : St := (⟨.a (.l 0) :: .a (.i .i64 (a1)) :: .a (.u) :: .a (.u) :: .a (.i .i64 (0 : Int)) :: .a (.i .i64 (0 : Int)) :: us 23 ([]), [.sl .lent n_a0 a0 49], []⟩ : St)
noncomputable def laws_markSpotS_e0 (n_a0 : Nat) : Int × Int × Array Value → LS
  | (y0_1, y0_5, r0_0) => ([.a (.i .i64 (y0_1)), .a (.i .i64 (y0_5))], [.sl .lent n_a0 r0_0 49])
noncomputable def laws_markSpotS_x0 (n_a0 : Nat) : Int × Int × Array Value → Exit × LS
  | t => ((.exit 0), (laws_markSpotS_e0 n_a0) t)
noncomputable def laws_markSpotS_g0 (P : Program) (a1 : Int) (n_a0 : Nat) (a0 : Array Value) : Int × Int × Array Value → Option (Stp (Int × Int × Array Value) (Int × Int × Array Value))
  | (y0_1, y0_5, r0_0) => bif decide (y0_5 < (n_a0 : Int)) then (bif (decide (0 ≤ y0_5) && decide (y0_5 < (n_a0 : Int))) then (bif (decide (0 ≤ y0_5) && decide (y0_5 < (n_a0 : Int))) then (some (.more ((IntKind.i64.wrap ((IntKind.i64.wrap (y0_1 + (1 : Int))) + (1 : Int))), (IntKind.i64.wrap (y0_5 + (1 : Int))), ((r0_0.setIfInBounds (((y0_5).toNat * 2) + 0) (.int .i8 (IntKind.i8.wrap y0_1))).setIfInBounds (((y0_5).toNat * 2) + 1) (.int .i8 (IntKind.i8.wrap (IntKind.i64.wrap (y0_1 + (1 : Int)))))))))
        else (none))
      else (none))
    else (some (.done (y0_1, y0_5, r0_0)))
theorem laws_markSpotS_s0 (N : Nat) (a1 : Int) (n_a0 : Nat) (a0 : Array Value) : ∀ t : Int × Int × Array Value, stepV Try.prog (mkΓ []) N (cAt (codeOf Try.f8) [1, 0, 1, 0, 0]) (pAt (mkPlan (codeOf Try.f8) [([1, 5], [0])]).1 [1, 0, 1, 0]) [1, 5] [0] (laws_markSpotS_t0 a1 n_a0 a0) ((laws_markSpotS_e0 n_a0) t) = mapS (laws_markSpotS_e0 n_a0) (laws_markSpotS_x0 n_a0) (laws_markSpotS_g0 Try.prog a1 n_a0 a0 t) := by
  rintro ⟨y0_1, y0_5, r0_0⟩
  refine Eq.trans (b := (bif decide (y0_5 < (n_a0 : Int)) then (bif (decide (0 ≤ y0_5) && decide (y0_5 < (n_a0 : Int))) then (bif (decide (0 ≤ y0_5) && decide (y0_5 < (n_a0 : Int))) then (some (.more ([.a (.i .i64 (IntKind.i64.wrap ((IntKind.i64.wrap (y0_1 + (1 : Int))) + (1 : Int)))), .a (.i .i64 (IntKind.i64.wrap (y0_5 + (1 : Int))))], [.sl .lent n_a0 ((r0_0.setIfInBounds (((y0_5).toNat * 2) + 0) (.int .i8 (IntKind.i8.wrap y0_1))).setIfInBounds (((y0_5).toNat * 2) + 1) (.int .i8 (IntKind.i8.wrap (IntKind.i64.wrap (y0_1 + (1 : Int)))))) 49])))
        else (none))
      else (none))
    else (some (.done ((.exit 0), ([.a (.i .i64 (y0_1)), .a (.i .i64 (y0_5))], [.sl .lent n_a0 r0_0 49])))))) (by kernel_rfl) ?_
  simp only [laws_markSpotS_g0, mapS_cond, mapS_more, mapS_done, mapS_none, laws_markSpotS_e0, laws_markSpotS_x0]
noncomputable def laws_markSpotS_k0_0 (P : Program) (N : Nat) (a1 : Int) (n_a0 : Nat) (a0 : Array Value) (z0_1 : Int) (z0_5 : Int) (q0_0 : Array Value) : Option (SV × Eff × Bool) := bif (Nat.blt 0 n_a0) then (some (.a (.i .i64 (z0_1)), .set 0 (.sl .lent n_a0 q0_0 49), true))
    else (none)
theorem laws_markSpotS_k0_0_eq (N : Nat) (a1 : Int) (n_a0 : Nat) (a0 : Array Value) (z0_1 : Int) (z0_5 : Int) (q0_0 : Array Value) : (kBlock 0 (kSeq (veC Try.prog (mkΓ []) N (cAt (codeOf Try.f8) [1, 1]) (pAt (mkPlan (codeOf Try.f8) [([1, 5], [0])]).1 [1, 1]) (SV × Eff × Bool)) (finK Try.prog [.sl .lent n_a0 a0 49] [.tmp 4]))) (.exit 0) (left (writes (cAt (codeOf Try.f8) [1, 0, 1, 0, 0])) [1, 5] [0] (laws_markSpotS_t0 a1 n_a0 a0) ([.a (.i .i64 (z0_1)), .a (.i .i64 (z0_5))], [.sl .lent n_a0 q0_0 49])) = laws_markSpotS_k0_0 Try.prog N a1 n_a0 a0 z0_1 z0_5 q0_0 := by
  refine Eq.trans (b := (bif (Nat.blt 0 n_a0) then (some (.a (.i .i64 (z0_1)), .set 0 (.sl .lent n_a0 q0_0 49), true))
    else (none))) (by kernel_rfl) ?_
  rfl
theorem laws_markSpotS_n0 (N : Nat) (a1 : Int) (n_a0 : Nat) (a0 : Array Value) : bindX (iterO (stepV Try.prog (mkΓ []) N (cAt (codeOf Try.f8) [1, 0, 1, 0, 0]) (pAt (mkPlan (codeOf Try.f8) [([1, 5], [0])]).1 [1, 0, 1, 0]) [1, 5] [0] (laws_markSpotS_t0 a1 n_a0 a0)) N ([.a (.i .i64 (a1)), .a (.i .i64 (0 : Int))], [.sl .lent n_a0 a0 49])) (fun e s => (kBlock 0 (kSeq (veC Try.prog (mkΓ []) N (cAt (codeOf Try.f8) [1, 1]) (pAt (mkPlan (codeOf Try.f8) [([1, 5], [0])]).1 [1, 1]) (SV × Eff × Bool)) (finK Try.prog [.sl .lent n_a0 a0 49] [.tmp 4]))) e (left (writes (cAt (codeOf Try.f8) [1, 0, 1, 0, 0])) [1, 5] [0] (laws_markSpotS_t0 a1 n_a0 a0) s)) = nodeX (iterO (laws_markSpotS_g0 Try.prog a1 n_a0 a0) N (a1, (0 : Int), a0)) (fun x => laws_markSpotS_k0_0 Try.prog N a1 n_a0 a0 x.1 x.2.1 x.2.2) := by
  refine loop_node (laws_markSpotS_e0 n_a0) (laws_markSpotS_x0 n_a0) _ _ (laws_markSpotS_s0 N a1 n_a0 a0) N (a1, (0 : Int), a0) _ _ ?_
  intro x; exact laws_markSpotS_k0_0_eq N a1 n_a0 a0 x.1 x.2.1 x.2.2
theorem laws_markSpotS_ans (N : Nat) (a1 : Int) (n_a0 : Nat) (a0 : Array Value) : ansV Try.prog (mkΓ []) N Try.f8 [([1, 5], [0])] [.l 0, .i .i64 (a1)] [.sl .lent n_a0 a0 49] = (nodeX (iterO (laws_markSpotS_g0 Try.prog a1 n_a0 a0) N (a1, (0 : Int), a0)) (fun x => laws_markSpotS_k0_0 Try.prog N a1 n_a0 a0 x.1 x.2.1 x.2.2)) := by
  refine Eq.trans (b := (bindX (iterO (stepV Try.prog (mkΓ []) N (cAt (codeOf Try.f8) [1, 0, 1, 0, 0]) (pAt (mkPlan (codeOf Try.f8) [([1, 5], [0])]).1 [1, 0, 1, 0]) [1, 5] [0] (laws_markSpotS_t0 a1 n_a0 a0)) N ([.a (.i .i64 (a1)), .a (.i .i64 (0 : Int))], [.sl .lent n_a0 a0 49])) (fun e s => (kBlock 0 (kSeq (veC Try.prog (mkΓ []) N (cAt (codeOf Try.f8) [1, 1]) (pAt (mkPlan (codeOf Try.f8) [([1, 5], [0])]).1 [1, 1]) (SV × Eff × Bool)) (finK Try.prog [.sl .lent n_a0 a0 49] [.tmp 4]))) e (left (writes (cAt (codeOf Try.f8) [1, 0, 1, 0, 0])) [1, 5] [0] (laws_markSpotS_t0 a1 n_a0 a0) s)))) (by kernel_rfl) ?_
  simp only [laws_markSpotS_n0 N a1 n_a0 a0]
theorem laws_markSpotS_main0 (a1 : Int) (n_a0 : Nat) (a0 : Array Value) (h_a1 : IntKind.i64.min ≤ a1 ∧ a1 ≤ IntKind.i64.max) (h_a0 : a0.size = n_a0 * (lay Try.prog 49).length ∧ (∀ k, k < n_a0 → WT Try.prog 49 (a0.extract (k * (lay Try.prog 49).length) (k * (lay Try.prog 49).length + (lay Try.prog 49).length))) ∧ n_a0 ≤ 9223372036854775807) (hc0 : (Nat.beq n_a0 0) = false) (hg : (((Nat.ble n_a0 100000) && (decide (0 ≤ a1) && decide (a1 ≤ 1000000)))) = true) : ansV Try.prog (mkΓ []) 18446744073709551616 Try.f8 [([1, 5], [0])] [.l 0, .i .i64 (a1)] [.sl .lent n_a0 a0 49] = some (.a (.i .i64 (a1 + ((n_a0 * 2 : Nat) : Int))), .set 0 (.sl .lent n_a0 (mk8 (n_a0 * 2) a1) 49), true) := by
  rw [Bool.and_eq_true, Bool.and_eq_true] at hg
  have hn : n_a0 ≤ 100000 := Nat.le_of_ble_eq_true hg.1
  have hk0 : 0 ≤ a1 ∧ a1 ≤ 1000000 := ⟨of_decide_eq_true hg.2.1, of_decide_eq_true hg.2.2⟩
  have hm : (lay Try.prog 49).length = 2 := by kernel_rfl
  obtain ⟨s1, -, -⟩ := h_a0
  rw [hm] at s1
  have hs : (mk8 (n_a0 * 2) a1).size = a0.size := by rw [mk8_size, s1]
  have hpos : Nat.blt 0 n_a0 = true := by
    have : n_a0 ≠ 0 := fun h => by rw [h] at hc0; cases hc0
    simp [Nat.blt]; omega
  have h := iter_all (g := laws_markSpotS_g0 Try.prog a1 n_a0 a0) (fun i => (a1 + ((i * 2 : Nat) : Int), (i : Int), upto (mk8 (n_a0 * 2) a1) a0 (i * 2))) (m := n_a0) (x := (a1 + ((n_a0 * 2 : Nat) : Int), (n_a0 : Int), upto (mk8 (n_a0 * 2) a1) a0 (n_a0 * 2))) (N := 18446744073709551616) (fun i hi => by
    have h1 : decide ((i : Int) < (n_a0 : Int)) = true := decide_eq_true (by omega)
    have h2 : decide (0 ≤ (i : Int)) = true := decide_eq_true (by omega)
    have h3 : IntKind.i64.wrap (a1 + ((i * 2 : Nat) : Int) + 1) = a1 + ((i * 2 + 1 : Nat) : Int) := by rw [IntWalk.i64_in _ (by omega)]; omega
    have h4 : IntKind.i64.wrap (a1 + ((i * 2 + 1 : Nat) : Int) + 1) = a1 + (((i + 1) * 2 : Nat) : Int) := by rw [IntWalk.i64_in _ (by omega)]; omega
    have h5 : IntKind.i64.wrap ((i : Int) + 1) = ((i + 1 : Nat) : Int) := by rw [IntWalk.i64_in _ (by omega)]; omega
    have h6 : (upto (mk8 (n_a0 * 2) a1) a0 (i * 2)).setIfInBounds (i * 2 + 0) (.int .i8 (IntKind.i8.wrap (a1 + ((i * 2 : Nat) : Int)))) = upto (mk8 (n_a0 * 2) a1) a0 (i * 2 + 1) := upto_set hs (mk8_at (by omega))
    have h7 : (upto (mk8 (n_a0 * 2) a1) a0 (i * 2 + 1)).setIfInBounds (i * 2 + 1) (.int .i8 (IntKind.i8.wrap (a1 + ((i * 2 + 1 : Nat) : Int)))) = upto (mk8 (n_a0 * 2) a1) a0 ((i + 1) * 2) := by
      rw [show (i + 1) * 2 = i * 2 + 1 + 1 by omega]
      exact upto_set hs (mk8_at (by omega))
    simp only [laws_markSpotS_g0, h1, h2, h3, h4, h5, h6, h7, Int.toNat_natCast, Bool.and_self, cond_true]) (by
    have h1 : decide ((n_a0 : Int) < (n_a0 : Int)) = false := decide_eq_false (by omega)
    simp only [laws_markSpotS_g0, h1, cond_false]) (by omega)
  refine (laws_markSpotS_ans 18446744073709551616 a1 n_a0 a0).trans ?_
  have hz : upto (mk8 (n_a0 * 2) a1) a0 0 = a0 := upto_zero hs
  have hl : upto (mk8 (n_a0 * 2) a1) a0 (n_a0 * 2) = mk8 (n_a0 * 2) a1 := upto_all hs (mk8_size _ _)
  have h0 : a1 + (((0 * 2 : Nat)) : Int) = a1 := by omega
  have h' : iterO (laws_markSpotS_g0 Try.prog a1 n_a0 a0) 18446744073709551616 (a1, (0 : Int), a0) = some (a1 + ((n_a0 * 2 : Nat) : Int), (n_a0 : Int), mk8 (n_a0 * 2) a1) := by
    have h2 := h
    simp only [Nat.zero_mul, hz, hl] at h2
    have e : a1 + ((0 : Nat) : Int) = a1 := by omega
    rw [e] at h2
    exact h2
  rw [h']
  simp only [nodeX, laws_markSpotS_k0_0, hpos, cond_true]
theorem laws_markSpotS_main1 (a1 : Int) (n_a0 : Nat) (a0 : Array Value) (h_a1 : IntKind.i64.min ≤ a1 ∧ a1 ≤ IntKind.i64.max) (h_a0 : a0.size = n_a0 * (lay Try.prog 49).length ∧ (∀ k, k < n_a0 → WT Try.prog 49 (a0.extract (k * (lay Try.prog 49).length) (k * (lay Try.prog 49).length + (lay Try.prog 49).length))) ∧ n_a0 ≤ 9223372036854775807) (hc0 : (Nat.beq n_a0 0) = true) (hg : (true) = true) : ansV Try.prog (mkΓ []) 1000 Try.f8 [([1, 5], [])] [.l 0, .i .i64 (a1)] [.sl .lent n_a0 a0 49] = some (.a (.i .i64 (a1)), .none, true) := by
  obtain rfl : n_a0 = 0 := Nat.eq_of_beq_eq_true hc0
  kernel_rfl
noncomputable def laws_markSpotS_scon : SCon := fun args h => match args, h with
  | [.l 0, .i .i64 a1], [.sl .lent n_a0 a0 49] => .two (Nat.beq n_a0 0) (.one (some (.a (.i .i64 (a1)), .none, true))) (.one (some (.a (.i .i64 (a1 + ((n_a0 * 2 : Nat) : Int))), .set 0 (.sl .lent n_a0 (mk8 (n_a0 * 2) a1) 49), ((Nat.ble n_a0 100000) && (decide (0 ≤ a1) && decide (a1 ≤ 1000000))))))
  | _, _ => .one none
theorem laws_markSpotS_enter : EntX Try.prog 8 := entX_ok (fn := Try.f8) (by kernel_rfl) (by kernel_rfl) (by kernel_rfl)
theorem laws_markSpotS_sok : ConOkX mn Try.prog 8 (fun args h => wayRes (laws_markSpotS_scon args h)) := by
  intro ρ h w args vals r e hn hr hA hH
  dsimp only at hr
  unfold laws_markSpotS_scon at hr
  split at hr
  · rename_i a1 n_a0 a0
    simp only [wayRes] at hr
    cases hc0 : (Nat.beq n_a0 0)
    · rw [hc0] at hr
      simp only [wayRes, cond_true, cond_false] at hr
      obtain ⟨rfl, hg⟩ := Prod.mk.inj (Option.some.inj hr)
      obtain ⟨rfl, hg2⟩ := Prod.mk.inj hg
      exact ((ansX_ok (N := 18446744073709551616) (by kernel_rfl) mkΓ_nilX (fn := Try.f8) (by kernel_rfl) (by kernel_rfl) [([1, 5], [0])])) ρ _ w _ vals _ _ hn ((laws_markSpotS_main0 a1 n_a0 a0 (hA.rng 1 rfl) (hH.slw 0 rfl) hc0 hg2)) hA hH
    · rw [hc0] at hr
      simp only [wayRes, cond_true, cond_false] at hr
      obtain ⟨rfl, hg⟩ := Prod.mk.inj (Option.some.inj hr)
      obtain ⟨rfl, hg2⟩ := Prod.mk.inj hg
      exact ((ansX_ok (N := 1000) (by kernel_rfl) mkΓ_nilX (fn := Try.f8) (by kernel_rfl) (by kernel_rfl) [([1, 5], [])])) ρ _ w _ vals _ _ hn ((laws_markSpotS_main1 a1 n_a0 a0 (hA.rng 1 rfl) (hH.slw 0 rfl) hc0 hg2)) hA hH
  · simp only [wayRes] at hr
    cases hr
noncomputable def laws_heldSpotS_t0 (a1 : Int) (b_a0 : Option (Option Addr)) (n_a0 : Nat) (a0 : Array Value) : St := (⟨.a (.l 0) :: .a (.i .i64 (a1)) :: .a (.u) :: .a (.u) :: .a (.i .i64 (0 : Int)) :: .a (.i .i64 (0 : Int)) :: us 27 ([]), [.sl (.came b_a0) n_a0 a0 49], []⟩ : St)
noncomputable def laws_heldSpotS_e0 : Int × Int × Int → LS
  | (y0_1, y0_4, y0_5) => ([.a (.i .i64 (y0_1)), .a (.i .i64 (y0_4)), .a (.i .i64 (y0_5))], [])
noncomputable def laws_heldSpotS_x0 : (Stp (Int × Int × Int) (Int × Int × Int)) → Exit × LS
  | .more t => (.ret, laws_heldSpotS_e0 t)
  | .done t => ((.exit 0), laws_heldSpotS_e0 t)
noncomputable def laws_heldSpotS_g0 (P : Program) (a1 : Int) (b_a0 : Option (Option Addr)) (n_a0 : Nat) (a0 : Array Value) : Int × Int × Int → Option (Stp (Int × Int × Int) (Stp (Int × Int × Int) (Int × Int × Int)))
  | (y0_1, y0_4, y0_5) => bif decide (y0_5 < (n_a0 : Int)) then (bif (decide (0 ≤ y0_5) && decide (y0_5 < (n_a0 : Int))) then (bif ((num a0 (((y0_5).toNat * 2) + 0)) != (IntKind.i8.wrap y0_1)) then (some (.done (.more (y0_1, (-1 : Int), y0_5))))
        else (bif (decide (0 ≤ y0_5) && decide (y0_5 < (n_a0 : Int))) then (bif ((num a0 (((y0_5).toNat * 2) + 1)) != (IntKind.i8.wrap (IntKind.i64.wrap (y0_1 + (1 : Int))))) then (some (.done (.more ((IntKind.i64.wrap (y0_1 + (1 : Int))), (-1 : Int), y0_5))))
            else (some (.more ((IntKind.i64.wrap ((IntKind.i64.wrap (y0_1 + (1 : Int))) + (1 : Int))), y0_4, (IntKind.i64.wrap (y0_5 + (1 : Int)))))))
          else (none)))
      else (none))
    else (some (.done (.done (y0_1, y0_4, y0_5))))
theorem laws_heldSpotS_s0 (N : Nat) (a1 : Int) (b_a0 : Option (Option Addr)) (n_a0 : Nat) (a0 : Array Value) : ∀ t : Int × Int × Int, stepV Try.prog (mkΓ []) N (cAt (codeOf Try.f9) [1, 0, 1, 0, 0]) (pAt (mkPlan (codeOf Try.f9) [([1, 4, 5], [])]).1 [1, 0, 1, 0]) [1, 4, 5] [] (laws_heldSpotS_t0 a1 b_a0 n_a0 a0) (laws_heldSpotS_e0 t) = mapS laws_heldSpotS_e0 laws_heldSpotS_x0 (laws_heldSpotS_g0 Try.prog a1 b_a0 n_a0 a0 t) := by
  rintro ⟨y0_1, y0_4, y0_5⟩
  refine Eq.trans (b := (bif decide (y0_5 < (n_a0 : Int)) then (bif (decide (0 ≤ y0_5) && decide (y0_5 < (n_a0 : Int))) then (bif ((num a0 (((y0_5).toNat * 2) + 0)) != (IntKind.i8.wrap y0_1)) then (some (.done (.ret, ([.a (.i .i64 (y0_1)), .a (.i .i64 (-1 : Int)), .a (.i .i64 (y0_5))], []))))
        else (bif (decide (0 ≤ y0_5) && decide (y0_5 < (n_a0 : Int))) then (bif ((num a0 (((y0_5).toNat * 2) + 1)) != (IntKind.i8.wrap (IntKind.i64.wrap (y0_1 + (1 : Int))))) then (some (.done (.ret, ([.a (.i .i64 (IntKind.i64.wrap (y0_1 + (1 : Int)))), .a (.i .i64 (-1 : Int)), .a (.i .i64 (y0_5))], []))))
            else (some (.more ([.a (.i .i64 (IntKind.i64.wrap ((IntKind.i64.wrap (y0_1 + (1 : Int))) + (1 : Int)))), .a (.i .i64 (y0_4)), .a (.i .i64 (IntKind.i64.wrap (y0_5 + (1 : Int))))], []))))
          else (none)))
      else (none))
    else (some (.done ((.exit 0), ([.a (.i .i64 (y0_1)), .a (.i .i64 (y0_4)), .a (.i .i64 (y0_5))], [])))))) (by kernel_rfl) ?_
  simp only [laws_heldSpotS_g0, mapS_cond, mapS_more, mapS_done, mapS_none, laws_heldSpotS_e0, laws_heldSpotS_x0]
noncomputable def laws_heldSpotS_k0_0 (P : Program) (N : Nat) (a1 : Int) (b_a0 : Option (Option Addr)) (n_a0 : Nat) (a0 : Array Value) (z0_1 : Int) (z0_4 : Int) (z0_5 : Int) : Option (SV × Eff × Bool) := some (.a (.i .i64 (z0_4)), .none, true)
theorem laws_heldSpotS_k0_0_eq (N : Nat) (a1 : Int) (b_a0 : Option (Option Addr)) (n_a0 : Nat) (a0 : Array Value) (z0_1 : Int) (z0_4 : Int) (z0_5 : Int) : (kBlock 0 (kSeq (veC Try.prog (mkΓ []) N (cAt (codeOf Try.f9) [1, 1]) (pAt (mkPlan (codeOf Try.f9) [([1, 4, 5], [])]).1 [1, 1]) (SV × Eff × Bool)) (finK Try.prog [.sl (.came b_a0) n_a0 a0 49] [.tmp 4]))) .ret (left (writes (cAt (codeOf Try.f9) [1, 0, 1, 0, 0])) [1, 4, 5] [] (laws_heldSpotS_t0 a1 b_a0 n_a0 a0) ([.a (.i .i64 (z0_1)), .a (.i .i64 (z0_4)), .a (.i .i64 (z0_5))], [])) = laws_heldSpotS_k0_0 Try.prog N a1 b_a0 n_a0 a0 z0_1 z0_4 z0_5 := by
  refine Eq.trans (b := (some (.a (.i .i64 (z0_4)), .none, true))) (by kernel_rfl) ?_
  rfl
noncomputable def laws_heldSpotS_k0_1 (P : Program) (N : Nat) (a1 : Int) (b_a0 : Option (Option Addr)) (n_a0 : Nat) (a0 : Array Value) (z0_1 : Int) (z0_4 : Int) (z0_5 : Int) : Option (SV × Eff × Bool) := some (.a (.i .i64 (z0_1)), .none, true)
theorem laws_heldSpotS_k0_1_eq (N : Nat) (a1 : Int) (b_a0 : Option (Option Addr)) (n_a0 : Nat) (a0 : Array Value) (z0_1 : Int) (z0_4 : Int) (z0_5 : Int) : (kBlock 0 (kSeq (veC Try.prog (mkΓ []) N (cAt (codeOf Try.f9) [1, 1]) (pAt (mkPlan (codeOf Try.f9) [([1, 4, 5], [])]).1 [1, 1]) (SV × Eff × Bool)) (finK Try.prog [.sl (.came b_a0) n_a0 a0 49] [.tmp 4]))) (.exit 0) (left (writes (cAt (codeOf Try.f9) [1, 0, 1, 0, 0])) [1, 4, 5] [] (laws_heldSpotS_t0 a1 b_a0 n_a0 a0) ([.a (.i .i64 (z0_1)), .a (.i .i64 (z0_4)), .a (.i .i64 (z0_5))], [])) = laws_heldSpotS_k0_1 Try.prog N a1 b_a0 n_a0 a0 z0_1 z0_4 z0_5 := by
  refine Eq.trans (b := (some (.a (.i .i64 (z0_1)), .none, true))) (by kernel_rfl) ?_
  rfl
theorem laws_heldSpotS_n0 (N : Nat) (a1 : Int) (b_a0 : Option (Option Addr)) (n_a0 : Nat) (a0 : Array Value) : bindX (iterO (stepV Try.prog (mkΓ []) N (cAt (codeOf Try.f9) [1, 0, 1, 0, 0]) (pAt (mkPlan (codeOf Try.f9) [([1, 4, 5], [])]).1 [1, 0, 1, 0]) [1, 4, 5] [] (laws_heldSpotS_t0 a1 b_a0 n_a0 a0)) N ([.a (.i .i64 (a1)), .a (.i .i64 (0 : Int)), .a (.i .i64 (0 : Int))], [])) (fun e s => (kBlock 0 (kSeq (veC Try.prog (mkΓ []) N (cAt (codeOf Try.f9) [1, 1]) (pAt (mkPlan (codeOf Try.f9) [([1, 4, 5], [])]).1 [1, 1]) (SV × Eff × Bool)) (finK Try.prog [.sl (.came b_a0) n_a0 a0 49] [.tmp 4]))) e (left (writes (cAt (codeOf Try.f9) [1, 0, 1, 0, 0])) [1, 4, 5] [] (laws_heldSpotS_t0 a1 b_a0 n_a0 a0) s)) = nodeX (iterO (laws_heldSpotS_g0 Try.prog a1 b_a0 n_a0 a0) N (a1, (0 : Int), (0 : Int))) (st2 (fun x => laws_heldSpotS_k0_0 Try.prog N a1 b_a0 n_a0 a0 x.1 x.2.1 x.2.2) (fun x => laws_heldSpotS_k0_1 Try.prog N a1 b_a0 n_a0 a0 x.1 x.2.1 x.2.2)) := by
  refine loop_node laws_heldSpotS_e0 laws_heldSpotS_x0 _ _ (laws_heldSpotS_s0 N a1 b_a0 n_a0 a0) N (a1, (0 : Int), (0 : Int)) _ _ ?_
  intro x
  cases x with
  | more x => exact laws_heldSpotS_k0_0_eq N a1 b_a0 n_a0 a0 x.1 x.2.1 x.2.2
  | done x => exact laws_heldSpotS_k0_1_eq N a1 b_a0 n_a0 a0 x.1 x.2.1 x.2.2
theorem laws_heldSpotS_ans (N : Nat) (a1 : Int) (b_a0 : Option (Option Addr)) (n_a0 : Nat) (a0 : Array Value) : ansV Try.prog (mkΓ []) N Try.f9 [([1, 4, 5], [])] [.l 0, .i .i64 (a1)] [.sl (.came b_a0) n_a0 a0 49] = (nodeX (iterO (laws_heldSpotS_g0 Try.prog a1 b_a0 n_a0 a0) N (a1, (0 : Int), (0 : Int))) (st2 (fun x => laws_heldSpotS_k0_0 Try.prog N a1 b_a0 n_a0 a0 x.1 x.2.1 x.2.2) (fun x => laws_heldSpotS_k0_1 Try.prog N a1 b_a0 n_a0 a0 x.1 x.2.1 x.2.2))) := by
  refine Eq.trans (b := (bindX (iterO (stepV Try.prog (mkΓ []) N (cAt (codeOf Try.f9) [1, 0, 1, 0, 0]) (pAt (mkPlan (codeOf Try.f9) [([1, 4, 5], [])]).1 [1, 0, 1, 0]) [1, 4, 5] [] (laws_heldSpotS_t0 a1 b_a0 n_a0 a0)) N ([.a (.i .i64 (a1)), .a (.i .i64 (0 : Int)), .a (.i .i64 (0 : Int))], [])) (fun e s => (kBlock 0 (kSeq (veC Try.prog (mkΓ []) N (cAt (codeOf Try.f9) [1, 1]) (pAt (mkPlan (codeOf Try.f9) [([1, 4, 5], [])]).1 [1, 1]) (SV × Eff × Bool)) (finK Try.prog [.sl (.came b_a0) n_a0 a0 49] [.tmp 4]))) e (left (writes (cAt (codeOf Try.f9) [1, 0, 1, 0, 0])) [1, 4, 5] [] (laws_heldSpotS_t0 a1 b_a0 n_a0 a0) s)))) (by kernel_rfl) ?_
  simp only [laws_heldSpotS_n0 N a1 b_a0 n_a0 a0]
theorem laws_heldSpotS_main (a1 : Int) (b_a0 : Option (Option Addr)) (n_a0 : Nat) (a0 : Array Value) (h_a1 : IntKind.i64.min ≤ a1 ∧ a1 ≤ IntKind.i64.max) (h_a0 : a0.size = n_a0 * (lay Try.prog 49).length ∧ (∀ k, k < n_a0 → WT Try.prog 49 (a0.extract (k * (lay Try.prog 49).length) (k * (lay Try.prog 49).length + (lay Try.prog 49).length))) ∧ n_a0 ≤ 9223372036854775807) (hg : (((Nat.ble n_a0 100000) && ((decide (0 ≤ a1) && decide (a1 ≤ 1000000)) && sameB a0 (mk8 (n_a0 * 2) a1)))) = true) : ansV Try.prog (mkΓ []) 18446744073709551616 Try.f9 [([1, 4, 5], [])] [.l 0, .i .i64 (a1)] [.sl (.came b_a0) n_a0 a0 49] = some (.a (.i .i64 (a1 + ((n_a0 * 2 : Nat) : Int))), .none, true) := by
  rw [Bool.and_eq_true, Bool.and_eq_true, Bool.and_eq_true] at hg
  have hn : n_a0 ≤ 100000 := Nat.le_of_ble_eq_true hg.1
  have hk0 : 0 ≤ a1 ∧ a1 ≤ 1000000 := ⟨of_decide_eq_true hg.2.1.1, of_decide_eq_true hg.2.1.2⟩
  have hA := sameB_iff.1 hg.2.2
  have hnum : ∀ i, i < n_a0 * 2 → (num a0 i != IntKind.i8.wrap (a1 + (i : Int))) = false := fun i hi => by rw [hA, mk8_num hi]; exact bne_self_eq_false _
  have h := iter_all (g := laws_heldSpotS_g0 Try.prog a1 b_a0 n_a0 a0) (fun i => (a1 + ((i * 2 : Nat) : Int), (0 : Int), (i : Int))) (m := n_a0) (x := .done (a1 + ((n_a0 * 2 : Nat) : Int), (0 : Int), (n_a0 : Int))) (N := 18446744073709551616) (fun i hi => by
    have h1 : decide ((i : Int) < (n_a0 : Int)) = true := decide_eq_true (by omega)
    have h2 : decide (0 ≤ (i : Int)) = true := decide_eq_true (by omega)
    have h3 : IntKind.i64.wrap (a1 + ((i * 2 : Nat) : Int) + 1) = a1 + ((i * 2 + 1 : Nat) : Int) := by rw [IntWalk.i64_in _ (by omega)]; omega
    have h4 : IntKind.i64.wrap (a1 + ((i * 2 + 1 : Nat) : Int) + 1) = a1 + (((i + 1) * 2 : Nat) : Int) := by rw [IntWalk.i64_in _ (by omega)]; omega
    have h5 : IntKind.i64.wrap ((i : Int) + 1) = ((i + 1 : Nat) : Int) := by rw [IntWalk.i64_in _ (by omega)]; omega
    have h6 := hnum (i * 2 + 0) (by omega)
    have h7 := hnum (i * 2 + 1) (by omega)
    rw [show i * 2 + 0 = i * 2 by omega] at h6
    simp only [laws_heldSpotS_g0, h1, h2, h3, h4, h5, h6, h7, Nat.add_zero, Int.toNat_natCast, Bool.and_self, cond_true, cond_false]) (by
    have h1 : decide ((n_a0 : Int) < (n_a0 : Int)) = false := decide_eq_false (by omega)
    simp only [laws_heldSpotS_g0, h1, cond_false]) (by omega)
  refine (laws_heldSpotS_ans 18446744073709551616 a1 b_a0 n_a0 a0).trans ?_
  have h' : iterO (laws_heldSpotS_g0 Try.prog a1 b_a0 n_a0 a0) 18446744073709551616 (a1, (0 : Int), (0 : Int)) = some (.done (a1 + ((n_a0 * 2 : Nat) : Int), (0 : Int), (n_a0 : Int))) := by
    have h2 := h
    have e : a1 + ((0 * 2 : Nat) : Int) = a1 := by omega
    simp only [e] at h2
    exact h2
  rw [h']
  rfl
noncomputable def laws_heldSpotS_con : Con := fun args h => match args, h with
  | [.l 0, .i .i64 a1], [.sl (.came b_a0) n_a0 a0 49] => some (.a (.i .i64 (a1 + ((n_a0 * 2 : Nat) : Int))), .none, ((Nat.ble n_a0 100000) && ((decide (0 ≤ a1) && decide (a1 ≤ 1000000)) && sameB a0 (mk8 (n_a0 * 2) a1))))
  | _, _ => none
theorem laws_heldSpotS_enter : EntX Try.prog 9 := entX_ok (fn := Try.f9) (by kernel_rfl) (by kernel_rfl) (by kernel_rfl)
theorem laws_heldSpotS_ok : ConOkX mn Try.prog 9 laws_heldSpotS_con := (ansX_ok (N := 18446744073709551616) (by kernel_rfl) mkΓ_nilX (fn := Try.f9) (by kernel_rfl) (by kernel_rfl) [([1, 4, 5], [])]).of (by
  intro ρ h w args vals r e hA hH hr
  unfold laws_heldSpotS_con at hr
  split at hr
  · rename_i a1 b_a0 n_a0 a0
    obtain ⟨rfl, hg⟩ := Prod.mk.inj (Option.some.inj hr)
    obtain ⟨rfl, hg2⟩ := Prod.mk.inj hg
    exact laws_heldSpotS_main a1 b_a0 n_a0 a0 (hA.rng 1 rfl) (hH.slw 0 rfl) hg2
  · cases hr)
end
end Go.Proofs.Ytohnggmlmglhmaa
