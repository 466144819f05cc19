/- Lists of spots copied and compared. -/
import Derived.Test.YthkpnfoapjhleaaProg
import Derived.Test.YthkpnfoapjhleaaVeD
namespace Go.Proofs.Ythkpnfoapjhleaa
open Go.ChangeShapes Go.WideShapes Go.ChangeAt Go.RowKit Ve
set_option linter.unusedVariables false
set_option linter.unusedSimpArgs false
set_option maxRecDepth 100000
noncomputable section

theorem ext_num {C : Array Value} {b m o : Nat} (ho : o < m) : num (C.extract b (b + m)) o = num C (b + o) := by
  have e2 : (C.extract b (b + m))[o]? = C[b + o]? := by
    simp only [Array.getElem?_extract]
    by_cases h : b + o < C.size
    · rw [if_pos (by omega)]
    · rw [if_neg (by omega), Array.getElem?_eq_none (by omega)]
  unfold num; rw [e2]
theorem sl_int {P : Program} {e : TypeId} {n m : Nat} {C : Array Value} (h : ∀ k, k < n → WT P e (C.extract (k * m) (k * m + m))) {k o : Nat} {kd : IntKind} (hk : k < n) (ho : o < m) (hq : (lay P e)[o]? = some (kN kd)) :
    C[k * m + o]? = some (.int kd (num C (k * m + o))) ∧ kd.min ≤ num C (k * m + o) ∧ num C (k * m + o) ≤ kd.max := by
  have hw := (h k hk).int hq
  rw [ext_num ho] at hw
  refine ⟨?_, hw.2⟩
  have := hw.1
  rw [Array.getElem?_extract] at this
  split at this
  · exact this
  · cases this

theorem laws_toSpot_ans (N : Nat) (a0 : Array Value) : ansV Try.prog (mkΓ []) N Try.f20 [] [.g a0 45] [] = (some (.a (.g #[.int .i8 (num a0 0), .int .i8 (num a0 1)] 48), .none, true)) := by kernel_rfl

theorem laws_toSpot_main (a0 : Array Value) (h_a0 : WT Try.prog 45 a0) (hg : (true) = true) : ansV Try.prog (mkΓ []) 1000 Try.f20 [] [.g a0 45] [] = some (.a (.g a0 48), .none, true) := by
  have hz : a0.size = 2 := by rw [h_a0.layLen]; kernel_rfl
  have e0 := (h_a0.int (o := 0) (k := .i8) (by kernel_rfl)).1
  have e1 := (h_a0.int (o := 1) (k := .i8) (by kernel_rfl)).1
  have he : (#[.int .i8 (num a0 0), .int .i8 (num a0 1)] : Array Value) = a0 := arr_ext fun i => by
    match i with
    | 0 => exact e0.symm
    | 1 => exact e1.symm
    | i + 2 => rw [Array.getElem?_eq_none (by simp), Array.getElem?_eq_none (by omega)]
  refine (laws_toSpot_ans 1000 a0).trans ?_
  rw [he]
noncomputable def laws_toSpot_con : Con := fun args h => match args, h with
  | [.g a0 45], [] => some (.a (.g a0 48), .none, true)
  | _, _ => none
theorem laws_toSpot_enter : ∀ args w, (callFunc 20 args).run Try.prog w = .ok (.enter 20 args) w := enter_ok (fn := Try.f20) (by kernel_rfl) (by kernel_rfl) (by kernel_rfl)
theorem laws_toSpot_ok : ConOk Try.prog 20 laws_toSpot_con := (ans_ok (N := 1000) (by kernel_rfl) mkΓ_nil (fn := Try.f20) (by kernel_rfl) (by kernel_rfl) []).of (by
  intro ρ h w args vals r e hA hH hr
  unfold laws_toSpot_con at hr
  split at hr
  · rename_i a0
    obtain ⟨rfl, hg⟩ := Prod.mk.inj (Option.some.inj hr)
    obtain ⟨rfl, hg2⟩ := Prod.mk.inj hg
    exact laws_toSpot_main a0 (hA.wt 0 rfl) hg2
  · cases hr)

noncomputable def laws_toSpotS_e0 (n_a0 : Nat) : Int × Array Value → LS
  | (y0_4, r0_3) => ([.a (.i .i64 (y0_4))], [.sl .own ((n_a0 : Int).toNat) r0_3 48])

noncomputable def laws_toSpotS_x0 (n_a0 : Nat) : Int × Array Value → Exit × LS
  | t => ((.exit 0), (laws_toSpotS_e0 n_a0) t)

noncomputable def laws_toSpotS_g0 (P : Program) (b_a0 : Option (Option Addr)) (n_a0 : Nat) (a0 : Array Value) : Int × Array Value → Option (Stp (Int × Array Value) (Int × Array Value))
  | (y0_4, r0_3) => bif decide (y0_4 < (n_a0 : Int)) then (bif (decide (0 ≤ y0_4) && decide (y0_4 < (n_a0 : Int))) then (bif (decide (0 ≤ y0_4) && decide (y0_4 < (((n_a0 : Int).toNat) : Int))) then (some (.more ((IntKind.i64.wrap (y0_4 + (1 : Int))), (spl r0_3 ((y0_4).toNat * 2) (a0.extract ((y0_4).toNat * 2) (((y0_4).toNat * 2) + 2)).toList))))
        else (none))
      else (none))
    else (some (.done (y0_4, r0_3)))

theorem laws_toSpotS_s0 (N : Nat) (b_a0 : Option (Option Addr)) (n_a0 : Nat) (a0 : Array Value) : ∀ t : Int × Array Value, stepV Try.prog (mkΓ [(20, con laws_toSpot_con)]) N (cAt (codeOf Try.f25) [1, 1, 0, 1, 0, 0]) (pAt (mkPlan (codeOf Try.f25) [([4], [3])]).1 [1, 1, 0, 1, 0]) [4] [3] (⟨.a (.l 0) :: .a (.u) :: .a (.v (.slice none 0 0)) :: .a (.l 3) :: .a (.i .i64 (0 : Int)) :: .a (.l 0) :: .a (.i .i64 (n_a0 : Int)) :: .a (.l 3) :: us 15 ([]), [.sl (.came b_a0) n_a0 a0 45, .no, .no, .sl .own ((n_a0 : Int).toNat) (madeCells (zc Try.prog 48) ((n_a0 : Int).toNat * 2)) 48, .no], []⟩ : St) ((laws_toSpotS_e0 n_a0) t) = mapS (laws_toSpotS_e0 n_a0) (laws_toSpotS_x0 n_a0) (laws_toSpotS_g0 Try.prog b_a0 n_a0 a0 t) := by
  rintro ⟨y0_4, r0_3⟩
  refine Eq.trans (b := (bif decide (y0_4 < (n_a0 : Int)) then (bif (decide (0 ≤ y0_4) && decide (y0_4 < (n_a0 : Int))) then (bif (decide (0 ≤ y0_4) && decide (y0_4 < (((n_a0 : Int).toNat) : Int))) then (some (.more ([.a (.i .i64 (IntKind.i64.wrap (y0_4 + (1 : Int))))], [.sl .own ((n_a0 : Int).toNat) (spl r0_3 ((y0_4).toNat * 2) (a0.extract ((y0_4).toNat * 2) (((y0_4).toNat * 2) + 2)).toList) 48])))
        else (none))
      else (none))
    else (some (.done ((.exit 0), ([.a (.i .i64 (y0_4))], [.sl .own ((n_a0 : Int).toNat) r0_3 48])))))) (by kernel_rfl) ?_
  simp only [laws_toSpotS_g0, mapS_cond, mapS_more, mapS_done, mapS_none, laws_toSpotS_e0, laws_toSpotS_x0]

noncomputable def laws_toSpotS_k0_0 (P : Program) (N : Nat) (b_a0 : Option (Option Addr)) (n_a0 : Nat) (a0 : Array Value) (z0_4 : Int) (q0_3 : Array Value) : Option (SV × Eff × Bool) := some (.a .x, .newS none ((n_a0 : Int).toNat) q0_3 48, true)

theorem laws_toSpotS_k0_0_eq (N : Nat) (b_a0 : Option (Option Addr)) (n_a0 : Nat) (a0 : Array Value) (z0_4 : Int) (q0_3 : Array Value) : (kBlock 0 (kSeq (veC Try.prog (mkΓ [(20, con laws_toSpot_con)]) N (cAt (codeOf Try.f25) [1, 1, 1]) (pAt (mkPlan (codeOf Try.f25) [([4], [3])]).1 [1, 1, 1]) (SV × Eff × Bool)) (finK Try.prog [.sl (.came b_a0) n_a0 a0 45] [.tmp 2]))) (.exit 0) (left (writes (cAt (codeOf Try.f25) [1, 1, 0, 1, 0, 0])) [4] [3] (⟨.a (.l 0) :: .a (.u) :: .a (.v (.slice none 0 0)) :: .a (.l 3) :: .a (.i .i64 (0 : Int)) :: .a (.l 0) :: .a (.i .i64 (n_a0 : Int)) :: .a (.l 3) :: us 15 ([]), [.sl (.came b_a0) n_a0 a0 45, .no, .no, .sl .own ((n_a0 : Int).toNat) (madeCells (zc Try.prog 48) ((n_a0 : Int).toNat * 2)) 48, .no], []⟩ : St) ([.a (.i .i64 (z0_4))], [.sl .own ((n_a0 : Int).toNat) q0_3 48])) = laws_toSpotS_k0_0 Try.prog N b_a0 n_a0 a0 z0_4 q0_3 := by
  refine Eq.trans (b := (some (.a .x, .newS none ((n_a0 : Int).toNat) q0_3 48, true))) (by kernel_rfl) ?_
  rfl

theorem laws_toSpotS_n0 (N : Nat) (b_a0 : Option (Option Addr)) (n_a0 : Nat) (a0 : Array Value) : bindX (iterO (stepV Try.prog (mkΓ [(20, con laws_toSpot_con)]) N (cAt (codeOf Try.f25) [1, 1, 0, 1, 0, 0]) (pAt (mkPlan (codeOf Try.f25) [([4], [3])]).1 [1, 1, 0, 1, 0]) [4] [3] (⟨.a (.l 0) :: .a (.u) :: .a (.v (.slice none 0 0)) :: .a (.l 3) :: .a (.i .i64 (0 : Int)) :: .a (.l 0) :: .a (.i .i64 (n_a0 : Int)) :: .a (.l 3) :: us 15 ([]), [.sl (.came b_a0) n_a0 a0 45, .no, .no, .sl .own ((n_a0 : Int).toNat) (madeCells (zc Try.prog 48) ((n_a0 : Int).toNat * 2)) 48, .no], []⟩ : St)) N ([.a (.i .i64 (0 : Int))], [.sl .own ((n_a0 : Int).toNat) (madeCells (zc Try.prog 48) ((n_a0 : Int).toNat * 2)) 48])) (fun e s => (kBlock 0 (kSeq (veC Try.prog (mkΓ [(20, con laws_toSpot_con)]) N (cAt (codeOf Try.f25) [1, 1, 1]) (pAt (mkPlan (codeOf Try.f25) [([4], [3])]).1 [1, 1, 1]) (SV × Eff × Bool)) (finK Try.prog [.sl (.came b_a0) n_a0 a0 45] [.tmp 2]))) e (left (writes (cAt (codeOf Try.f25) [1, 1, 0, 1, 0, 0])) [4] [3] (⟨.a (.l 0) :: .a (.u) :: .a (.v (.slice none 0 0)) :: .a (.l 3) :: .a (.i .i64 (0 : Int)) :: .a (.l 0) :: .a (.i .i64 (n_a0 : Int)) :: .a (.l 3) :: us 15 ([]), [.sl (.came b_a0) n_a0 a0 45, .no, .no, .sl .own ((n_a0 : Int).toNat) (madeCells (zc Try.prog 48) ((n_a0 : Int).toNat * 2)) 48, .no], []⟩ : St) s)) = nodeX (iterO (laws_toSpotS_g0 Try.prog b_a0 n_a0 a0) N ((0 : Int), (madeCells (zc Try.prog 48) ((n_a0 : Int).toNat * 2)))) (fun x => laws_toSpotS_k0_0 Try.prog N b_a0 n_a0 a0 x.1 x.2) := by
  refine loop_node (laws_toSpotS_e0 n_a0) (laws_toSpotS_x0 n_a0) _ _ (laws_toSpotS_s0 N b_a0 n_a0 a0) N ((0 : Int), (madeCells (zc Try.prog 48) ((n_a0 : Int).toNat * 2))) _ _ ?_
  intro x; exact laws_toSpotS_k0_0_eq N b_a0 n_a0 a0 x.1 x.2

theorem laws_toSpotS_ans (N : Nat) (b_a0 : Option (Option Addr)) (n_a0 : Nat) (a0 : Array Value) : ansV Try.prog (mkΓ [(20, con laws_toSpot_con)]) N Try.f25 [([4], [3])] [.l 0] [.sl (.came b_a0) n_a0 a0 45] = (bif (decide (0 ≤ (n_a0 : Int)) && ((n_a0 : Int) == (n_a0 : Int) && decide ((bytesOf Try.prog 48 : Int) * (n_a0 : Int) ≤ 281474976710656))) then (nodeX (iterO (laws_toSpotS_g0 Try.prog b_a0 n_a0 a0) N ((0 : Int), (madeCells (zc Try.prog 48) ((n_a0 : Int).toNat * 2)))) (fun x => laws_toSpotS_k0_0 Try.prog N b_a0 n_a0 a0 x.1 x.2))
    else (none)) := by
  refine Eq.trans (b := (bif (decide (0 ≤ (n_a0 : Int)) && ((n_a0 : Int) == (n_a0 : Int) && decide ((bytesOf Try.prog 48 : Int) * (n_a0 : Int) ≤ 281474976710656))) then (bindX (iterO (stepV Try.prog (mkΓ [(20, con laws_toSpot_con)]) N (cAt (codeOf Try.f25) [1, 1, 0, 1, 0, 0]) (pAt (mkPlan (codeOf Try.f25) [([4], [3])]).1 [1, 1, 0, 1, 0]) [4] [3] (⟨.a (.l 0) :: .a (.u) :: .a (.v (.slice none 0 0)) :: .a (.l 3) :: .a (.i .i64 (0 : Int)) :: .a (.l 0) :: .a (.i .i64 (n_a0 : Int)) :: .a (.l 3) :: us 15 ([]), [.sl (.came b_a0) n_a0 a0 45, .no, .no, .sl .own ((n_a0 : Int).toNat) (madeCells (zc Try.prog 48) ((n_a0 : Int).toNat * 2)) 48, .no], []⟩ : St)) N ([.a (.i .i64 (0 : Int))], [.sl .own ((n_a0 : Int).toNat) (madeCells (zc Try.prog 48) ((n_a0 : Int).toNat * 2)) 48])) (fun e s => (kBlock 0 (kSeq (veC Try.prog (mkΓ [(20, con laws_toSpot_con)]) N (cAt (codeOf Try.f25) [1, 1, 1]) (pAt (mkPlan (codeOf Try.f25) [([4], [3])]).1 [1, 1, 1]) (SV × Eff × Bool)) (finK Try.prog [.sl (.came b_a0) n_a0 a0 45] [.tmp 2]))) e (left (writes (cAt (codeOf Try.f25) [1, 1, 0, 1, 0, 0])) [4] [3] (⟨.a (.l 0) :: .a (.u) :: .a (.v (.slice none 0 0)) :: .a (.l 3) :: .a (.i .i64 (0 : Int)) :: .a (.l 0) :: .a (.i .i64 (n_a0 : Int)) :: .a (.l 3) :: us 15 ([]), [.sl (.came b_a0) n_a0 a0 45, .no, .no, .sl .own ((n_a0 : Int).toNat) (madeCells (zc Try.prog 48) ((n_a0 : Int).toNat * 2)) 48, .no], []⟩ : St) s)))
    else (none))) (by kernel_rfl) ?_
  simp only [laws_toSpotS_n0 N b_a0 n_a0 a0]

theorem laws_toSpotS_main (b_a0 : Option (Option Addr)) (n_a0 : Nat) (a0 : Array Value) (h_a0 : a0.size = n_a0 * (lay Try.prog 45).length ∧ (∀ k, k < n_a0 → WT Try.prog 45 (a0.extract (k * (lay Try.prog 45).length) (k * (lay Try.prog 45).length + (lay Try.prog 45).length))) ∧ n_a0 ≤ 9223372036854775807) (hg : (decide (n_a0 ≤ 1048576)) = true) : ansV Try.prog (mkΓ [(20, con laws_toSpot_con)]) 18446744073709551616 Try.f25 [([4], [3])] [.l 0] [.sl (.came b_a0) n_a0 a0 45] = some (.a .x, .newS none n_a0 a0 48, true) := by
  have hn : n_a0 ≤ 1048576 := of_decide_eq_true hg
  have hm : (lay Try.prog 45).length = 2 := by kernel_rfl
  have hb : bytesOf Try.prog 48 = 2 := by kernel_rfl
  obtain ⟨s1, s2, s3⟩ := h_a0
  rw [hm] at s1 s2
  have hq : (lay Try.prog 45)[0]? = some 0 := by kernel_rfl
  refine (laws_toSpotS_ans 18446744073709551616 b_a0 n_a0 a0).trans ?_
  have hgd : (decide (0 ≤ (n_a0 : Int)) && ((n_a0 : Int) == (n_a0 : Int) && decide ((bytesOf Try.prog 48 : Int) * (n_a0 : Int) ≤ 281474976710656))) = true := by
    rw [hb, decide_eq_true (show (0 : Int) ≤ n_a0 by omega), beq_self_eq_true, decide_eq_true (show (((2 : Nat) : Int)) * (n_a0 : Int) ≤ 281474976710656 by omega)]; rfl
  rw [hgd, cond_true]
  have hs : a0.size = (madeCells (zc Try.prog 48) ((n_a0 : Int).toNat * 2)).size := by rw [size_madeCells, Int.toNat_natCast]; exact s1
  generalize (madeCells (zc Try.prog 48) ((n_a0 : Int).toNat * 2)) = Z at hs ⊢
  have h := iter_all (g := laws_toSpotS_g0 Try.prog b_a0 n_a0 a0) (fun k => ((k : Int), upto a0 Z (k * 2))) (m := n_a0) (x := ((n_a0 : Int), upto a0 Z (n_a0 * 2))) (N := 18446744073709551616) (fun k hk => by
    have h1 : decide ((k : Int) < (n_a0 : Int)) = true := decide_eq_true (by omega)
    have h0 : decide (0 ≤ (k : Int)) = true := decide_eq_true (by omega)
    have h3 : IntKind.i64.wrap ((k : Int) + 1) = ((k + 1 : Nat) : Int) := by rw [IntWalk.i64_in _ (by omega)]; omega
    have h5 : spl (upto a0 Z (k * 2)) (k * 2) (a0.extract (k * 2) (k * 2 + 2)).toList = upto a0 Z ((k + 1) * 2) := by
      rw [Nat.add_mul]; exact upto_spl hs (by have : (k + 1) * 2 ≤ n_a0 * 2 := Nat.mul_le_mul_right _ hk; omega) rfl
    simp only [laws_toSpotS_g0, h1, h0, Bool.and_self, Int.toNat_natCast, cond_true, h3, h5]) (by
    have h1 : decide ((n_a0 : Int) < (n_a0 : Int)) = false := decide_eq_false (by omega)
    simp only [laws_toSpotS_g0, h1, cond_false]) (by omega)
  rw [upto_all hs s1] at h
  simp only [Nat.zero_mul, upto_zero hs] at h
  have h' : iterO (laws_toSpotS_g0 Try.prog b_a0 n_a0 a0) 18446744073709551616 ((0 : Int), Z) = some ((n_a0 : Int), a0) := h
  rw [h']
  show some (_, Eff.newS none ((n_a0 : Int).toNat) a0 48, true) = _
  rw [Int.toNat_natCast]
noncomputable def laws_toSpotS_con : Con := fun args h => match args, h with
  | [.l 0], [.sl (.came b_a0) n_a0 a0 45] => some (.a .x, .newS none n_a0 a0 48, decide (n_a0 ≤ 1048576))
  | _, _ => none
theorem laws_toSpotS_enter : ∀ args w, (callFunc 25 args).run Try.prog w = .ok (.enter 25 args) w := enter_ok (fn := Try.f25) (by kernel_rfl) (by kernel_rfl) (by kernel_rfl)
theorem laws_toSpotS_ok : ConOk Try.prog 25 laws_toSpotS_con := (ans_ok (N := 18446744073709551616) (by kernel_rfl) (mkΓ_cons (con_ok laws_toSpot_ok) laws_toSpot_enter mkΓ_nil) (fn := Try.f25) (by kernel_rfl) (by kernel_rfl) [([4], [3])]).of (by
  intro ρ h w args vals r e hA hH hr
  unfold laws_toSpotS_con at hr
  split at hr
  · rename_i b_a0 n_a0 a0
    obtain ⟨rfl, hg⟩ := Prod.mk.inj (Option.some.inj hr)
    obtain ⟨rfl, hg2⟩ := Prod.mk.inj hg
    exact laws_toSpotS_main b_a0 n_a0 a0 (hH.slw 0 rfl) hg2
  · cases hr)

theorem laws_eqSpot_ans (N : Nat) (a0 : Array Value) (a1 : Array Value) : ansV Try.prog (mkΓ []) N Try.f50 [] [.g a0 48, .g a1 48] [] = (bif ((num a0 0) != (num a1 0)) then (some (.a (.b (false)), .none, true))
    else (bif ((num a0 1) != (num a1 1)) then (some (.a (.b (false)), .none, true))
      else (some (.a (.b (true)), .none, true)))) := by kernel_rfl

theorem laws_eqSpot_main (a0 : Array Value) (a1 : Array Value) (h_a0 : WT Try.prog 48 a0) (h_a1 : WT Try.prog 48 a1) (hg : (true) = true) : ansV Try.prog (mkΓ []) 1000 Try.f50 [] [.g a0 48, .g a1 48] [] = some (.a (.b (sameB a0 a1)), .none, true) := by
  have hz : a0.size = 2 := by rw [h_a0.layLen]; kernel_rfl
  have hy : a1.size = 2 := by rw [h_a1.layLen]; kernel_rfl
  refine (laws_eqSpot_ans 1000 a0 a1).trans ?_
  cases hb : sameB a0 a1
  · have hne := sameB_false.1 hb
    cases h0 : (num a0 0 != num a1 0)
    · skip
      cases h1 : (num a0 1 != num a1 1)
      · skip
        exfalso
        refine hne (arr_ext fun i => ?_)
        by_cases c0 : i = 0
        · subst c0
          rw [(h_a0.int (k := .i8) (o := 0) (by kernel_rfl)).1, (h_a1.int (k := .i8) (o := 0) (by kernel_rfl)).1, num_eq h0]
        by_cases c1 : i = 1
        · subst c1
          rw [(h_a0.int (k := .i8) (o := 1) (by kernel_rfl)).1, (h_a1.int (k := .i8) (o := 1) (by kernel_rfl)).1, num_eq h1]
        rw [Array.getElem?_eq_none (by omega), Array.getElem?_eq_none (by omega)]
      · rfl
    · rfl
  · rw [sameB_iff.1 hb]
    simp only [bne_self_eq_false, cond_false, sameB_self, Bool.not_true]
noncomputable def laws_eqSpot_con : Con := fun args h => match args, h with
  | [.g a0 48, .g a1 48], [] => some (.a (.b (sameB a0 a1)), .none, true)
  | _, _ => none
theorem laws_eqSpot_enter : ∀ args w, (callFunc 50 args).run Try.prog w = .ok (.enter 50 args) w := enter_ok (fn := Try.f50) (by kernel_rfl) (by kernel_rfl) (by kernel_rfl)
theorem laws_eqSpot_ok : ConOk Try.prog 50 laws_eqSpot_con := (ans_ok (N := 1000) (by kernel_rfl) mkΓ_nil (fn := Try.f50) (by kernel_rfl) (by kernel_rfl) []).of (by
  intro ρ h w args vals r e hA hH hr
  unfold laws_eqSpot_con at hr
  split at hr
  · rename_i a0 a1
    obtain ⟨rfl, hg⟩ := Prod.mk.inj (Option.some.inj hr)
    obtain ⟨rfl, hg2⟩ := Prod.mk.inj hg
    exact laws_eqSpot_main a0 a1 (hA.wt 0 rfl) (hA.wt 1 rfl) hg2
  · cases hr)

noncomputable def laws_eqSpotS_e0 : Bool × Int → LS
  | (y0_4, y0_5) => ([.a (.b (y0_4)), .a (.i .i64 (y0_5))], [])

noncomputable def laws_eqSpotS_x0 : (Stp (Bool × Int) (Bool × Int)) → Exit × LS
  | .more t => (.ret, laws_eqSpotS_e0 t)
  | .done t => ((.exit 0), laws_eqSpotS_e0 t)

noncomputable def laws_eqSpotS_g0 (P : Program) (b_a0 : Option (Option Addr)) (n_a0 : Nat) (a0 : Array Value) (b_a1 : Option (Option Addr)) (n_a1 : Nat) (a1 : Array Value) : Bool × Int → Option (Stp (Bool × Int) (Stp (Bool × Int) (Bool × Int)))
  | (y0_4, y0_5) => bif decide (y0_5 < (n_a0 : Int)) then (bif (decide (0 ≤ y0_5) && decide (y0_5 < (n_a0 : Int))) then (bif (decide (0 ≤ y0_5) && decide (y0_5 < (n_a1 : Int))) then (bif (!(sameB (a0.extract ((y0_5).toNat * 2) (((y0_5).toNat * 2) + 2)) (a1.extract ((y0_5).toNat * 2) (((y0_5).toNat * 2) + 2)))) then (some (.done (.more (false, y0_5))))
          else (some (.more (y0_4, (IntKind.i64.wrap (y0_5 + (1 : Int)))))))
        else (none))
      else (none))
    else (some (.done (.done (y0_4, y0_5))))

theorem laws_eqSpotS_s0 (N : Nat) (b_a0 : Option (Option Addr)) (n_a0 : Nat) (a0 : Array Value) (b_a1 : Option (Option Addr)) (n_a1 : Nat) (a1 : Array Value) : ∀ t : Bool × Int, stepV Try.prog (mkΓ [(50, con laws_eqSpot_con)]) N (cAt (codeOf Try.f16) [1, 1, 0, 1, 0, 0]) (pAt (mkPlan (codeOf Try.f16) [([4, 5], [])]).1 [1, 1, 0, 1, 0]) [4, 5] [] (⟨.a (.l 0) :: .a (.l 1) :: .a (.u) :: .a (.u) :: .a (.b (false)) :: .a (.i .i64 (0 : Int)) :: .a (.l 0) :: .a (.i .i64 (n_a0 : Int)) :: .a (.l 1) :: .a (.i .i64 (n_a1 : Int)) :: .a (.b (((n_a0 : Int) != (n_a1 : Int)))) :: us 16 ([]), [.sl (.came b_a0) n_a0 a0 48, .sl (.came b_a1) n_a1 a1 48], []⟩ : St) (laws_eqSpotS_e0 t) = mapS laws_eqSpotS_e0 laws_eqSpotS_x0 (laws_eqSpotS_g0 Try.prog b_a0 n_a0 a0 b_a1 n_a1 a1 t) := by
  rintro ⟨y0_4, y0_5⟩
  refine Eq.trans (b := (bif decide (y0_5 < (n_a0 : Int)) then (bif (decide (0 ≤ y0_5) && decide (y0_5 < (n_a0 : Int))) then (bif (decide (0 ≤ y0_5) && decide (y0_5 < (n_a1 : Int))) then (bif (!(sameB (a0.extract ((y0_5).toNat * 2) (((y0_5).toNat * 2) + 2)) (a1.extract ((y0_5).toNat * 2) (((y0_5).toNat * 2) + 2)))) then (some (.done (.ret, ([.a (.b (false)), .a (.i .i64 (y0_5))], []))))
          else (some (.more ([.a (.b (y0_4)), .a (.i .i64 (IntKind.i64.wrap (y0_5 + (1 : Int))))], []))))
        else (none))
      else (none))
    else (some (.done ((.exit 0), ([.a (.b (y0_4)), .a (.i .i64 (y0_5))], [])))))) (by kernel_rfl) ?_
  simp only [laws_eqSpotS_g0, mapS_cond, mapS_more, mapS_done, mapS_none, laws_eqSpotS_e0, laws_eqSpotS_x0]

noncomputable def laws_eqSpotS_k0_0 (P : Program) (N : Nat) (b_a0 : Option (Option Addr)) (n_a0 : Nat) (a0 : Array Value) (b_a1 : Option (Option Addr)) (n_a1 : Nat) (a1 : Array Value) (z0_4 : Bool) (z0_5 : Int) : Option (SV × Eff × Bool) := some (.a (.b (z0_4)), .none, true)

theorem laws_eqSpotS_k0_0_eq (N : Nat) (b_a0 : Option (Option Addr)) (n_a0 : Nat) (a0 : Array Value) (b_a1 : Option (Option Addr)) (n_a1 : Nat) (a1 : Array Value) (z0_4 : Bool) (z0_5 : Int) : (kBlock 0 (kSeq (veC Try.prog (mkΓ [(50, con laws_eqSpot_con)]) N (cAt (codeOf Try.f16) [1, 1, 1]) (pAt (mkPlan (codeOf Try.f16) [([4, 5], [])]).1 [1, 1, 1]) (SV × Eff × Bool)) (finK Try.prog [.sl (.came b_a0) n_a0 a0 48, .sl (.came b_a1) n_a1 a1 48] [.tmp 4]))) .ret (left (writes (cAt (codeOf Try.f16) [1, 1, 0, 1, 0, 0])) [4, 5] [] (⟨.a (.l 0) :: .a (.l 1) :: .a (.u) :: .a (.u) :: .a (.b (false)) :: .a (.i .i64 (0 : Int)) :: .a (.l 0) :: .a (.i .i64 (n_a0 : Int)) :: .a (.l 1) :: .a (.i .i64 (n_a1 : Int)) :: .a (.b (((n_a0 : Int) != (n_a1 : Int)))) :: us 16 ([]), [.sl (.came b_a0) n_a0 a0 48, .sl (.came b_a1) n_a1 a1 48], []⟩ : St) ([.a (.b (z0_4)), .a (.i .i64 (z0_5))], [])) = laws_eqSpotS_k0_0 Try.prog N b_a0 n_a0 a0 b_a1 n_a1 a1 z0_4 z0_5 := by
  refine Eq.trans (b := (some (.a (.b (z0_4)), .none, true))) (by kernel_rfl) ?_
  rfl

noncomputable def laws_eqSpotS_k0_1 (P : Program) (N : Nat) (b_a0 : Option (Option Addr)) (n_a0 : Nat) (a0 : Array Value) (b_a1 : Option (Option Addr)) (n_a1 : Nat) (a1 : Array Value) (z0_4 : Bool) (z0_5 : Int) : Option (SV × Eff × Bool) := some (.a (.b (true)), .none, true)

theorem laws_eqSpotS_k0_1_eq (N : Nat) (b_a0 : Option (Option Addr)) (n_a0 : Nat) (a0 : Array Value) (b_a1 : Option (Option Addr)) (n_a1 : Nat) (a1 : Array Value) (z0_4 : Bool) (z0_5 : Int) : (kBlock 0 (kSeq (veC Try.prog (mkΓ [(50, con laws_eqSpot_con)]) N (cAt (codeOf Try.f16) [1, 1, 1]) (pAt (mkPlan (codeOf Try.f16) [([4, 5], [])]).1 [1, 1, 1]) (SV × Eff × Bool)) (finK Try.prog [.sl (.came b_a0) n_a0 a0 48, .sl (.came b_a1) n_a1 a1 48] [.tmp 4]))) (.exit 0) (left (writes (cAt (codeOf Try.f16) [1, 1, 0, 1, 0, 0])) [4, 5] [] (⟨.a (.l 0) :: .a (.l 1) :: .a (.u) :: .a (.u) :: .a (.b (false)) :: .a (.i .i64 (0 : Int)) :: .a (.l 0) :: .a (.i .i64 (n_a0 : Int)) :: .a (.l 1) :: .a (.i .i64 (n_a1 : Int)) :: .a (.b (((n_a0 : Int) != (n_a1 : Int)))) :: us 16 ([]), [.sl (.came b_a0) n_a0 a0 48, .sl (.came b_a1) n_a1 a1 48], []⟩ : St) ([.a (.b (z0_4)), .a (.i .i64 (z0_5))], [])) = laws_eqSpotS_k0_1 Try.prog N b_a0 n_a0 a0 b_a1 n_a1 a1 z0_4 z0_5 := by
  refine Eq.trans (b := (some (.a (.b (true)), .none, true))) (by kernel_rfl) ?_
  rfl

theorem laws_eqSpotS_n0 (N : Nat) (b_a0 : Option (Option Addr)) (n_a0 : Nat) (a0 : Array Value) (b_a1 : Option (Option Addr)) (n_a1 : Nat) (a1 : Array Value) : bindX (iterO (stepV Try.prog (mkΓ [(50, con laws_eqSpot_con)]) N (cAt (codeOf Try.f16) [1, 1, 0, 1, 0, 0]) (pAt (mkPlan (codeOf Try.f16) [([4, 5], [])]).1 [1, 1, 0, 1, 0]) [4, 5] [] (⟨.a (.l 0) :: .a (.l 1) :: .a (.u) :: .a (.u) :: .a (.b (false)) :: .a (.i .i64 (0 : Int)) :: .a (.l 0) :: .a (.i .i64 (n_a0 : Int)) :: .a (.l 1) :: .a (.i .i64 (n_a1 : Int)) :: .a (.b (((n_a0 : Int) != (n_a1 : Int)))) :: us 16 ([]), [.sl (.came b_a0) n_a0 a0 48, .sl (.came b_a1) n_a1 a1 48], []⟩ : St)) N ([.a (.b (false)), .a (.i .i64 (0 : Int))], [])) (fun e s => (kBlock 0 (kSeq (veC Try.prog (mkΓ [(50, con laws_eqSpot_con)]) N (cAt (codeOf Try.f16) [1, 1, 1]) (pAt (mkPlan (codeOf Try.f16) [([4, 5], [])]).1 [1, 1, 1]) (SV × Eff × Bool)) (finK Try.prog [.sl (.came b_a0) n_a0 a0 48, .sl (.came b_a1) n_a1 a1 48] [.tmp 4]))) e (left (writes (cAt (codeOf Try.f16) [1, 1, 0, 1, 0, 0])) [4, 5] [] (⟨.a (.l 0) :: .a (.l 1) :: .a (.u) :: .a (.u) :: .a (.b (false)) :: .a (.i .i64 (0 : Int)) :: .a (.l 0) :: .a (.i .i64 (n_a0 : Int)) :: .a (.l 1) :: .a (.i .i64 (n_a1 : Int)) :: .a (.b (((n_a0 : Int) != (n_a1 : Int)))) :: us 16 ([]), [.sl (.came b_a0) n_a0 a0 48, .sl (.came b_a1) n_a1 a1 48], []⟩ : St) s)) = nodeX (iterO (laws_eqSpotS_g0 Try.prog b_a0 n_a0 a0 b_a1 n_a1 a1) N (false, (0 : Int))) (st2 (fun x => laws_eqSpotS_k0_0 Try.prog N b_a0 n_a0 a0 b_a1 n_a1 a1 x.1 x.2) (fun x => laws_eqSpotS_k0_1 Try.prog N b_a0 n_a0 a0 b_a1 n_a1 a1 x.1 x.2)) := by
  refine loop_node laws_eqSpotS_e0 laws_eqSpotS_x0 _ _ (laws_eqSpotS_s0 N b_a0 n_a0 a0 b_a1 n_a1 a1) N (false, (0 : Int)) _ _ ?_
  intro x
  cases x with
  | more x => exact laws_eqSpotS_k0_0_eq N b_a0 n_a0 a0 b_a1 n_a1 a1 x.1 x.2
  | done x => exact laws_eqSpotS_k0_1_eq N b_a0 n_a0 a0 b_a1 n_a1 a1 x.1 x.2

theorem laws_eqSpotS_ans (N : Nat) (b_a0 : Option (Option Addr)) (n_a0 : Nat) (a0 : Array Value) (b_a1 : Option (Option Addr)) (n_a1 : Nat) (a1 : Array Value) : ansV Try.prog (mkΓ [(50, con laws_eqSpot_con)]) N Try.f16 [([4, 5], [])] [.l 0, .l 1] [.sl (.came b_a0) n_a0 a0 48, .sl (.came b_a1) n_a1 a1 48] = (bif ((n_a0 : Int) != (n_a1 : Int)) then (some (.a (.b (false)), .none, true))
    else (nodeX (iterO (laws_eqSpotS_g0 Try.prog b_a0 n_a0 a0 b_a1 n_a1 a1) N (false, (0 : Int))) (st2 (fun x => laws_eqSpotS_k0_0 Try.prog N b_a0 n_a0 a0 b_a1 n_a1 a1 x.1 x.2) (fun x => laws_eqSpotS_k0_1 Try.prog N b_a0 n_a0 a0 b_a1 n_a1 a1 x.1 x.2)))) := by
  refine Eq.trans (b := (bif ((n_a0 : Int) != (n_a1 : Int)) then (some (.a (.b (false)), .none, true))
    else (bindX (iterO (stepV Try.prog (mkΓ [(50, con laws_eqSpot_con)]) N (cAt (codeOf Try.f16) [1, 1, 0, 1, 0, 0]) (pAt (mkPlan (codeOf Try.f16) [([4, 5], [])]).1 [1, 1, 0, 1, 0]) [4, 5] [] (⟨.a (.l 0) :: .a (.l 1) :: .a (.u) :: .a (.u) :: .a (.b (false)) :: .a (.i .i64 (0 : Int)) :: .a (.l 0) :: .a (.i .i64 (n_a0 : Int)) :: .a (.l 1) :: .a (.i .i64 (n_a1 : Int)) :: .a (.b (((n_a0 : Int) != (n_a1 : Int)))) :: us 16 ([]), [.sl (.came b_a0) n_a0 a0 48, .sl (.came b_a1) n_a1 a1 48], []⟩ : St)) N ([.a (.b (false)), .a (.i .i64 (0 : Int))], [])) (fun e s => (kBlock 0 (kSeq (veC Try.prog (mkΓ [(50, con laws_eqSpot_con)]) N (cAt (codeOf Try.f16) [1, 1, 1]) (pAt (mkPlan (codeOf Try.f16) [([4, 5], [])]).1 [1, 1, 1]) (SV × Eff × Bool)) (finK Try.prog [.sl (.came b_a0) n_a0 a0 48, .sl (.came b_a1) n_a1 a1 48] [.tmp 4]))) e (left (writes (cAt (codeOf Try.f16) [1, 1, 0, 1, 0, 0])) [4, 5] [] (⟨.a (.l 0) :: .a (.l 1) :: .a (.u) :: .a (.u) :: .a (.b (false)) :: .a (.i .i64 (0 : Int)) :: .a (.l 0) :: .a (.i .i64 (n_a0 : Int)) :: .a (.l 1) :: .a (.i .i64 (n_a1 : Int)) :: .a (.b (((n_a0 : Int) != (n_a1 : Int)))) :: us 16 ([]), [.sl (.came b_a0) n_a0 a0 48, .sl (.came b_a1) n_a1 a1 48], []⟩ : St) s))))) (by kernel_rfl) ?_
  simp only [laws_eqSpotS_n0 N b_a0 n_a0 a0 b_a1 n_a1 a1]

theorem laws_eqSpotS_main (b_a0 : Option (Option Addr)) (n_a0 : Nat) (a0 : Array Value) (b_a1 : Option (Option Addr)) (n_a1 : Nat) (a1 : Array Value) (h_a0 : a0.size = n_a0 * (lay Try.prog 48).length ∧ (∀ k, k < n_a0 → WT Try.prog 48 (a0.extract (k * (lay Try.prog 48).length) (k * (lay Try.prog 48).length + (lay Try.prog 48).length))) ∧ n_a0 ≤ 9223372036854775807) (h_a1 : a1.size = n_a1 * (lay Try.prog 48).length ∧ (∀ k, k < n_a1 → WT Try.prog 48 (a1.extract (k * (lay Try.prog 48).length) (k * (lay Try.prog 48).length + (lay Try.prog 48).length))) ∧ n_a1 ≤ 9223372036854775807) (hg : (true) = true) : ansV Try.prog (mkΓ [(50, con laws_eqSpot_con)]) 18446744073709551616 Try.f16 [([4, 5], [])] [.l 0, .l 1] [.sl (.came b_a0) n_a0 a0 48, .sl (.came b_a1) n_a1 a1 48] = some (.a (.b ((decide (n_a0 = n_a1) && sameB a0 a1))), .none, true) := by
  have hm : (lay Try.prog 48).length = 2 := by kernel_rfl
  obtain ⟨s1, s2, s3⟩ := h_a0
  obtain ⟨t1, t2, t3⟩ := h_a1
  rw [hm] at s1 s2 t1 t2
  have hq : (lay Try.prog 48)[0]? = some 0 := by kernel_rfl
  refine (laws_eqSpotS_ans 18446744073709551616 b_a0 n_a0 a0 b_a1 n_a1 a1).trans ?_
  by_cases hl : n_a0 = n_a1
  case neg =>
    rw [decide_eq_false hl, show ((n_a0 : Int) != (n_a1 : Int)) = true from bne_iff_ne.2 (by omega)]
    rfl
  subst hl
  rw [decide_eq_true rfl, show ((n_a0 : Int) != (n_a0 : Int)) = false from bne_self_eq_false _]
  simp only [cond_false, Bool.true_and]
  have hb : sameB a0 a1 = true ↔ ∀ k, k < n_a0 → (fun k => sameB (a0.extract (k * 2) (k * 2 + 2)) (a1.extract (k * 2) (k * 2 + 2))) k = true := by
    constructor
    · intro h k hk
      rw [sameB_iff.1 h]
      exact sameB_self _
    · intro h
      refine sameB_iff.2 ?_
      exact ext_parts (n := n_a0) (m := 2) (by omega) s1 t1 (fun k hk => sameB_iff.1 (h k hk))
  refine (iter_first (g := laws_eqSpotS_g0 Try.prog b_a0 n_a0 a0 b_a1 n_a0 a1) (fun k => (false, (k : Int))) (fun k => sameB (a0.extract (k * 2) (k * 2 + 2)) (a1.extract (k * 2) (k * 2 + 2))) n_a0 (N := 18446744073709551616) (xd := .done (false, (n_a0 : Int))) (by omega) (fun k hk hp => by
    have h1 : decide ((k : Int) < (n_a0 : Int)) = true := decide_eq_true (by omega)
    have h0 : decide (0 ≤ (k : Int)) = true := decide_eq_true (by omega)
    have h3 : IntKind.i64.wrap ((k : Int) + 1) = ((k + 1 : Nat) : Int) := by rw [IntWalk.i64_in _ (by omega)]; omega
    have hp' : sameB (a0.extract (k * 2) (k * 2 + 2)) (a1.extract (k * 2) (k * 2 + 2)) = true := hp
    simp only [laws_eqSpotS_g0, h1, h0, Bool.and_self, Int.toNat_natCast, cond_true, h3, hp', Bool.not_true, cond_false]) (by
    have h1 : decide ((n_a0 : Int) < (n_a0 : Int)) = false := decide_eq_false (by omega)
    simp only [laws_eqSpotS_g0, h1, cond_false]) (sameB a0 a1) hb (some (.a (.b true), .none, true)) (some (.a (.b false), .none, true)) rfl (fun k hk hp => by
    refine ⟨.more (false, (k : Int)), ?_, rfl⟩
    have h1 : decide ((k : Int) < (n_a0 : Int)) = true := decide_eq_true (by omega)
    have h0 : decide (0 ≤ (k : Int)) = true := decide_eq_true (by omega)
    have hp' : sameB (a0.extract (k * 2) (k * 2 + 2)) (a1.extract (k * 2) (k * 2 + 2)) = false := hp
    simp only [laws_eqSpotS_g0, h1, h0, Bool.and_self, Int.toNat_natCast, cond_true, hp', Bool.not_false])).trans ?_
  cases sameB a0 a1 <;> rfl
noncomputable def laws_eqSpotS_con : Con := fun args h => match args, h with
  | [.l 0, .l 1], [.sl (.came b_a0) n_a0 a0 48, .sl (.came b_a1) n_a1 a1 48] => some (.a (.b ((decide (n_a0 = n_a1) && sameB a0 a1))), .none, true)
  | _, _ => none
theorem laws_eqSpotS_enter : ∀ args w, (callFunc 16 args).run Try.prog w = .ok (.enter 16 args) w := enter_ok (fn := Try.f16) (by kernel_rfl) (by kernel_rfl) (by kernel_rfl)
theorem laws_eqSpotS_ok : ConOk Try.prog 16 laws_eqSpotS_con := (ans_ok (N := 18446744073709551616) (by kernel_rfl) (mkΓ_cons (con_ok laws_eqSpot_ok) laws_eqSpot_enter mkΓ_nil) (fn := Try.f16) (by kernel_rfl) (by kernel_rfl) [([4, 5], [])]).of (by
  intro ρ h w args vals r e hA hH hr
  unfold laws_eqSpotS_con at hr
  split at hr
  · rename_i b_a0 n_a0 a0 b_a1 n_a1 a1
    obtain ⟨rfl, hg⟩ := Prod.mk.inj (Option.some.inj hr)
    obtain ⟨rfl, hg2⟩ := Prod.mk.inj hg
    exact laws_eqSpotS_main b_a0 n_a0 a0 b_a1 n_a1 a1 (hH.slw 0 rfl) (hH.slw 1 rfl) hg2
  · cases hr)

noncomputable def spec_SameSpots_e0 : Bool × Int → LS
  | (y0_4, y0_5) => ([.a (.b (y0_4)), .a (.i .i64 (y0_5))], [])

noncomputable def spec_SameSpots_x0 : (Stp (Bool × Int) (Bool × Int)) → Exit × LS
  | .more t => (.ret, spec_SameSpots_e0 t)
  | .done t => ((.exit 0), spec_SameSpots_e0 t)

noncomputable def spec_SameSpots_g0 (P : Program) (b_a0 : Option (Option Addr)) (n_a0 : Nat) (a0 : Array Value) (b_a1 : Option (Option Addr)) (n_a1 : Nat) (a1 : Array Value) : Bool × Int → Option (Stp (Bool × Int) (Stp (Bool × Int) (Bool × Int)))
  | (y0_4, y0_5) => bif decide (y0_5 < (n_a0 : Int)) then (bif (decide (0 ≤ y0_5) && decide (y0_5 < (n_a0 : Int))) then (bif (decide (0 ≤ y0_5) && decide (y0_5 < (n_a1 : Int))) then (bif (!(sameB (a0.extract ((y0_5).toNat * 2) (((y0_5).toNat * 2) + 2)) (a1.extract ((y0_5).toNat * 2) (((y0_5).toNat * 2) + 2)))) then (some (.done (.more (false, y0_5))))
          else (some (.more (y0_4, (IntKind.i64.wrap (y0_5 + (1 : Int)))))))
        else (none))
      else (none))
    else (some (.done (.done (y0_4, y0_5))))

theorem spec_SameSpots_s0 (N : Nat) (b_a0 : Option (Option Addr)) (n_a0 : Nat) (a0 : Array Value) (b_a1 : Option (Option Addr)) (n_a1 : Nat) (a1 : Array Value) : ∀ t : Bool × Int, stepV Try.prog (mkΓ []) N (cAt (codeOf Try.f24) [1, 1, 0, 1, 0, 0]) (pAt (mkPlan (codeOf Try.f24) [([4, 5], [])]).1 [1, 1, 0, 1, 0]) [4, 5] [] (⟨.a (.l 0) :: .a (.l 1) :: .a (.u) :: .a (.u) :: .a (.b (false)) :: .a (.i .i64 (0 : Int)) :: .a (.l 0) :: .a (.i .i64 (n_a0 : Int)) :: .a (.l 1) :: .a (.i .i64 (n_a1 : Int)) :: .a (.b (((n_a0 : Int) != (n_a1 : Int)))) :: us 15 ([]), [.sl (.came b_a0) n_a0 a0 48, .sl (.came b_a1) n_a1 a1 48], []⟩ : St) (spec_SameSpots_e0 t) = mapS spec_SameSpots_e0 spec_SameSpots_x0 (spec_SameSpots_g0 Try.prog b_a0 n_a0 a0 b_a1 n_a1 a1 t) := by
  rintro ⟨y0_4, y0_5⟩
  refine Eq.trans (b := (bif decide (y0_5 < (n_a0 : Int)) then (bif (decide (0 ≤ y0_5) && decide (y0_5 < (n_a0 : Int))) then (bif (decide (0 ≤ y0_5) && decide (y0_5 < (n_a1 : Int))) then (bif (!(sameB (a0.extract ((y0_5).toNat * 2) (((y0_5).toNat * 2) + 2)) (a1.extract ((y0_5).toNat * 2) (((y0_5).toNat * 2) + 2)))) then (some (.done (.ret, ([.a (.b (false)), .a (.i .i64 (y0_5))], []))))
          else (some (.more ([.a (.b (y0_4)), .a (.i .i64 (IntKind.i64.wrap (y0_5 + (1 : Int))))], []))))
        else (none))
      else (none))
    else (some (.done ((.exit 0), ([.a (.b (y0_4)), .a (.i .i64 (y0_5))], [])))))) (by kernel_rfl) ?_
  simp only [spec_SameSpots_g0, mapS_cond, mapS_more, mapS_done, mapS_none, spec_SameSpots_e0, spec_SameSpots_x0]

noncomputable def spec_SameSpots_k0_0 (P : Program) (N : Nat) (b_a0 : Option (Option Addr)) (n_a0 : Nat) (a0 : Array Value) (b_a1 : Option (Option Addr)) (n_a1 : Nat) (a1 : Array Value) (z0_4 : Bool) (z0_5 : Int) : Option (SV × Eff × Bool) := some (.a (.b (z0_4)), .none, true)

theorem spec_SameSpots_k0_0_eq (N : Nat) (b_a0 : Option (Option Addr)) (n_a0 : Nat) (a0 : Array Value) (b_a1 : Option (Option Addr)) (n_a1 : Nat) (a1 : Array Value) (z0_4 : Bool) (z0_5 : Int) : (kBlock 0 (kSeq (veC Try.prog (mkΓ []) N (cAt (codeOf Try.f24) [1, 1, 1]) (pAt (mkPlan (codeOf Try.f24) [([4, 5], [])]).1 [1, 1, 1]) (SV × Eff × Bool)) (finK Try.prog [.sl (.came b_a0) n_a0 a0 48, .sl (.came b_a1) n_a1 a1 48] [.tmp 4]))) .ret (left (writes (cAt (codeOf Try.f24) [1, 1, 0, 1, 0, 0])) [4, 5] [] (⟨.a (.l 0) :: .a (.l 1) :: .a (.u) :: .a (.u) :: .a (.b (false)) :: .a (.i .i64 (0 : Int)) :: .a (.l 0) :: .a (.i .i64 (n_a0 : Int)) :: .a (.l 1) :: .a (.i .i64 (n_a1 : Int)) :: .a (.b (((n_a0 : Int) != (n_a1 : Int)))) :: us 15 ([]), [.sl (.came b_a0) n_a0 a0 48, .sl (.came b_a1) n_a1 a1 48], []⟩ : St) ([.a (.b (z0_4)), .a (.i .i64 (z0_5))], [])) = spec_SameSpots_k0_0 Try.prog N b_a0 n_a0 a0 b_a1 n_a1 a1 z0_4 z0_5 := by
  refine Eq.trans (b := (some (.a (.b (z0_4)), .none, true))) (by kernel_rfl) ?_
  rfl

noncomputable def spec_SameSpots_k0_1 (P : Program) (N : Nat) (b_a0 : Option (Option Addr)) (n_a0 : Nat) (a0 : Array Value) (b_a1 : Option (Option Addr)) (n_a1 : Nat) (a1 : Array Value) (z0_4 : Bool) (z0_5 : Int) : Option (SV × Eff × Bool) := some (.a (.b (true)), .none, true)

theorem spec_SameSpots_k0_1_eq (N : Nat) (b_a0 : Option (Option Addr)) (n_a0 : Nat) (a0 : Array Value) (b_a1 : Option (Option Addr)) (n_a1 : Nat) (a1 : Array Value) (z0_4 : Bool) (z0_5 : Int) : (kBlock 0 (kSeq (veC Try.prog (mkΓ []) N (cAt (codeOf Try.f24) [1, 1, 1]) (pAt (mkPlan (codeOf Try.f24) [([4, 5], [])]).1 [1, 1, 1]) (SV × Eff × Bool)) (finK Try.prog [.sl (.came b_a0) n_a0 a0 48, .sl (.came b_a1) n_a1 a1 48] [.tmp 4]))) (.exit 0) (left (writes (cAt (codeOf Try.f24) [1, 1, 0, 1, 0, 0])) [4, 5] [] (⟨.a (.l 0) :: .a (.l 1) :: .a (.u) :: .a (.u) :: .a (.b (false)) :: .a (.i .i64 (0 : Int)) :: .a (.l 0) :: .a (.i .i64 (n_a0 : Int)) :: .a (.l 1) :: .a (.i .i64 (n_a1 : Int)) :: .a (.b (((n_a0 : Int) != (n_a1 : Int)))) :: us 15 ([]), [.sl (.came b_a0) n_a0 a0 48, .sl (.came b_a1) n_a1 a1 48], []⟩ : St) ([.a (.b (z0_4)), .a (.i .i64 (z0_5))], [])) = spec_SameSpots_k0_1 Try.prog N b_a0 n_a0 a0 b_a1 n_a1 a1 z0_4 z0_5 := by
  refine Eq.trans (b := (some (.a (.b (true)), .none, true))) (by kernel_rfl) ?_
  rfl

theorem spec_SameSpots_n0 (N : Nat) (b_a0 : Option (Option Addr)) (n_a0 : Nat) (a0 : Array Value) (b_a1 : Option (Option Addr)) (n_a1 : Nat) (a1 : Array Value) : bindX (iterO (stepV Try.prog (mkΓ []) N (cAt (codeOf Try.f24) [1, 1, 0, 1, 0, 0]) (pAt (mkPlan (codeOf Try.f24) [([4, 5], [])]).1 [1, 1, 0, 1, 0]) [4, 5] [] (⟨.a (.l 0) :: .a (.l 1) :: .a (.u) :: .a (.u) :: .a (.b (false)) :: .a (.i .i64 (0 : Int)) :: .a (.l 0) :: .a (.i .i64 (n_a0 : Int)) :: .a (.l 1) :: .a (.i .i64 (n_a1 : Int)) :: .a (.b (((n_a0 : Int) != (n_a1 : Int)))) :: us 15 ([]), [.sl (.came b_a0) n_a0 a0 48, .sl (.came b_a1) n_a1 a1 48], []⟩ : St)) N ([.a (.b (false)), .a (.i .i64 (0 : Int))], [])) (fun e s => (kBlock 0 (kSeq (veC Try.prog (mkΓ []) N (cAt (codeOf Try.f24) [1, 1, 1]) (pAt (mkPlan (codeOf Try.f24) [([4, 5], [])]).1 [1, 1, 1]) (SV × Eff × Bool)) (finK Try.prog [.sl (.came b_a0) n_a0 a0 48, .sl (.came b_a1) n_a1 a1 48] [.tmp 4]))) e (left (writes (cAt (codeOf Try.f24) [1, 1, 0, 1, 0, 0])) [4, 5] [] (⟨.a (.l 0) :: .a (.l 1) :: .a (.u) :: .a (.u) :: .a (.b (false)) :: .a (.i .i64 (0 : Int)) :: .a (.l 0) :: .a (.i .i64 (n_a0 : Int)) :: .a (.l 1) :: .a (.i .i64 (n_a1 : Int)) :: .a (.b (((n_a0 : Int) != (n_a1 : Int)))) :: us 15 ([]), [.sl (.came b_a0) n_a0 a0 48, .sl (.came b_a1) n_a1 a1 48], []⟩ : St) s)) = nodeX (iterO (spec_SameSpots_g0 Try.prog b_a0 n_a0 a0 b_a1 n_a1 a1) N (false, (0 : Int))) (st2 (fun x => spec_SameSpots_k0_0 Try.prog N b_a0 n_a0 a0 b_a1 n_a1 a1 x.1 x.2) (fun x => spec_SameSpots_k0_1 Try.prog N b_a0 n_a0 a0 b_a1 n_a1 a1 x.1 x.2)) := by
  refine loop_node spec_SameSpots_e0 spec_SameSpots_x0 _ _ (spec_SameSpots_s0 N b_a0 n_a0 a0 b_a1 n_a1 a1) N (false, (0 : Int)) _ _ ?_
  intro x
  cases x with
  | more x => exact spec_SameSpots_k0_0_eq N b_a0 n_a0 a0 b_a1 n_a1 a1 x.1 x.2
  | done x => exact spec_SameSpots_k0_1_eq N b_a0 n_a0 a0 b_a1 n_a1 a1 x.1 x.2

theorem spec_SameSpots_ans (N : Nat) (b_a0 : Option (Option Addr)) (n_a0 : Nat) (a0 : Array Value) (b_a1 : Option (Option Addr)) (n_a1 : Nat) (a1 : Array Value) : ansV Try.prog (mkΓ []) N Try.f24 [([4, 5], [])] [.l 0, .l 1] [.sl (.came b_a0) n_a0 a0 48, .sl (.came b_a1) n_a1 a1 48] = (bif ((n_a0 : Int) != (n_a1 : Int)) then (some (.a (.b (false)), .none, true))
    else (nodeX (iterO (spec_SameSpots_g0 Try.prog b_a0 n_a0 a0 b_a1 n_a1 a1) N (false, (0 : Int))) (st2 (fun x => spec_SameSpots_k0_0 Try.prog N b_a0 n_a0 a0 b_a1 n_a1 a1 x.1 x.2) (fun x => spec_SameSpots_k0_1 Try.prog N b_a0 n_a0 a0 b_a1 n_a1 a1 x.1 x.2)))) := by
  refine Eq.trans (b := (bif ((n_a0 : Int) != (n_a1 : Int)) then (some (.a (.b (false)), .none, true))
    else (bindX (iterO (stepV Try.prog (mkΓ []) N (cAt (codeOf Try.f24) [1, 1, 0, 1, 0, 0]) (pAt (mkPlan (codeOf Try.f24) [([4, 5], [])]).1 [1, 1, 0, 1, 0]) [4, 5] [] (⟨.a (.l 0) :: .a (.l 1) :: .a (.u) :: .a (.u) :: .a (.b (false)) :: .a (.i .i64 (0 : Int)) :: .a (.l 0) :: .a (.i .i64 (n_a0 : Int)) :: .a (.l 1) :: .a (.i .i64 (n_a1 : Int)) :: .a (.b (((n_a0 : Int) != (n_a1 : Int)))) :: us 15 ([]), [.sl (.came b_a0) n_a0 a0 48, .sl (.came b_a1) n_a1 a1 48], []⟩ : St)) N ([.a (.b (false)), .a (.i .i64 (0 : Int))], [])) (fun e s => (kBlock 0 (kSeq (veC Try.prog (mkΓ []) N (cAt (codeOf Try.f24) [1, 1, 1]) (pAt (mkPlan (codeOf Try.f24) [([4, 5], [])]).1 [1, 1, 1]) (SV × Eff × Bool)) (finK Try.prog [.sl (.came b_a0) n_a0 a0 48, .sl (.came b_a1) n_a1 a1 48] [.tmp 4]))) e (left (writes (cAt (codeOf Try.f24) [1, 1, 0, 1, 0, 0])) [4, 5] [] (⟨.a (.l 0) :: .a (.l 1) :: .a (.u) :: .a (.u) :: .a (.b (false)) :: .a (.i .i64 (0 : Int)) :: .a (.l 0) :: .a (.i .i64 (n_a0 : Int)) :: .a (.l 1) :: .a (.i .i64 (n_a1 : Int)) :: .a (.b (((n_a0 : Int) != (n_a1 : Int)))) :: us 15 ([]), [.sl (.came b_a0) n_a0 a0 48, .sl (.came b_a1) n_a1 a1 48], []⟩ : St) s))))) (by kernel_rfl) ?_
  simp only [spec_SameSpots_n0 N b_a0 n_a0 a0 b_a1 n_a1 a1]

theorem spec_SameSpots_main (b_a0 : Option (Option Addr)) (n_a0 : Nat) (a0 : Array Value) (b_a1 : Option (Option Addr)) (n_a1 : Nat) (a1 : Array Value) (h_a0 : a0.size = n_a0 * (lay Try.prog 48).length ∧ (∀ k, k < n_a0 → WT Try.prog 48 (a0.extract (k * (lay Try.prog 48).length) (k * (lay Try.prog 48).length + (lay Try.prog 48).length))) ∧ n_a0 ≤ 9223372036854775807) (h_a1 : a1.size = n_a1 * (lay Try.prog 48).length ∧ (∀ k, k < n_a1 → WT Try.prog 48 (a1.extract (k * (lay Try.prog 48).length) (k * (lay Try.prog 48).length + (lay Try.prog 48).length))) ∧ n_a1 ≤ 9223372036854775807) (hg : (true) = true) : ansV Try.prog (mkΓ []) 18446744073709551616 Try.f24 [([4, 5], [])] [.l 0, .l 1] [.sl (.came b_a0) n_a0 a0 48, .sl (.came b_a1) n_a1 a1 48] = some (.a (.b ((decide (n_a0 = n_a1) && sameB a0 a1))), .none, true) := by
  have hm : (lay Try.prog 48).length = 2 := by kernel_rfl
  obtain ⟨s1, s2, s3⟩ := h_a0
  obtain ⟨t1, t2, t3⟩ := h_a1
  rw [hm] at s1 s2 t1 t2
  have hq : (lay Try.prog 48)[0]? = some 0 := by kernel_rfl
  refine (spec_SameSpots_ans 18446744073709551616 b_a0 n_a0 a0 b_a1 n_a1 a1).trans ?_
  by_cases hl : n_a0 = n_a1
  case neg =>
    rw [decide_eq_false hl, show ((n_a0 : Int) != (n_a1 : Int)) = true from bne_iff_ne.2 (by omega)]
    rfl
  subst hl
  rw [decide_eq_true rfl, show ((n_a0 : Int) != (n_a0 : Int)) = false from bne_self_eq_false _]
  simp only [cond_false, Bool.true_and]
  have hb : sameB a0 a1 = true ↔ ∀ k, k < n_a0 → (fun k => sameB (a0.extract (k * 2) (k * 2 + 2)) (a1.extract (k * 2) (k * 2 + 2))) k = true := by
    constructor
    · intro h k hk
      rw [sameB_iff.1 h]
      exact sameB_self _
    · intro h
      refine sameB_iff.2 ?_
      exact ext_parts (n := n_a0) (m := 2) (by omega) s1 t1 (fun k hk => sameB_iff.1 (h k hk))
  refine (iter_first (g := spec_SameSpots_g0 Try.prog b_a0 n_a0 a0 b_a1 n_a0 a1) (fun k => (false, (k : Int))) (fun k => sameB (a0.extract (k * 2) (k * 2 + 2)) (a1.extract (k * 2) (k * 2 + 2))) n_a0 (N := 18446744073709551616) (xd := .done (false, (n_a0 : Int))) (by omega) (fun k hk hp => by
    have h1 : decide ((k : Int) < (n_a0 : Int)) = true := decide_eq_true (by omega)
    have h0 : decide (0 ≤ (k : Int)) = true := decide_eq_true (by omega)
    have h3 : IntKind.i64.wrap ((k : Int) + 1) = ((k + 1 : Nat) : Int) := by rw [IntWalk.i64_in _ (by omega)]; omega
    have hp' : sameB (a0.extract (k * 2) (k * 2 + 2)) (a1.extract (k * 2) (k * 2 + 2)) = true := hp
    simp only [spec_SameSpots_g0, h1, h0, Bool.and_self, Int.toNat_natCast, cond_true, h3, hp', Bool.not_true, cond_false]) (by
    have h1 : decide ((n_a0 : Int) < (n_a0 : Int)) = false := decide_eq_false (by omega)
    simp only [spec_SameSpots_g0, h1, cond_false]) (sameB a0 a1) hb (some (.a (.b true), .none, true)) (some (.a (.b false), .none, true)) rfl (fun k hk hp => by
    refine ⟨.more (false, (k : Int)), ?_, rfl⟩
    have h1 : decide ((k : Int) < (n_a0 : Int)) = true := decide_eq_true (by omega)
    have h0 : decide (0 ≤ (k : Int)) = true := decide_eq_true (by omega)
    have hp' : sameB (a0.extract (k * 2) (k * 2 + 2)) (a1.extract (k * 2) (k * 2 + 2)) = false := hp
    simp only [spec_SameSpots_g0, h1, h0, Bool.and_self, Int.toNat_natCast, cond_true, hp', Bool.not_false])).trans ?_
  cases sameB a0 a1 <;> rfl
noncomputable def spec_SameSpots_con : Con := fun args h => match args, h with
  | [.l 0, .l 1], [.sl (.came b_a0) n_a0 a0 48, .sl (.came b_a1) n_a1 a1 48] => some (.a (.b ((decide (n_a0 = n_a1) && sameB a0 a1))), .none, true)
  | _, _ => none
theorem spec_SameSpots_enter : ∀ args w, (callFunc 24 args).run Try.prog w = .ok (.enter 24 args) w := enter_ok (fn := Try.f24) (by kernel_rfl) (by kernel_rfl) (by kernel_rfl)
theorem spec_SameSpots_ok : ConOk Try.prog 24 spec_SameSpots_con := (ans_ok (N := 18446744073709551616) (by kernel_rfl) mkΓ_nil (fn := Try.f24) (by kernel_rfl) (by kernel_rfl) [([4, 5], [])]).of (by
  intro ρ h w args vals r e hA hH hr
  unfold spec_SameSpots_con at hr
  split at hr
  · rename_i b_a0 n_a0 a0 b_a1 n_a1 a1
    obtain ⟨rfl, hg⟩ := Prod.mk.inj (Option.some.inj hr)
    obtain ⟨rfl, hg2⟩ := Prod.mk.inj hg
    exact spec_SameSpots_main b_a0 n_a0 a0 b_a1 n_a1 a1 (hH.slw 0 rfl) (hH.slw 1 rfl) hg2
  · cases hr)

noncomputable def slices_Equal__impl_Spot_impl_Spot_e0 : Bool × Int → LS
  | (y0_4, y0_13) => ([.a (.b (y0_4)), .a (.i .i64 (y0_13))], [])

noncomputable def slices_Equal__impl_Spot_impl_Spot_x0 : (Stp (Bool × Int) (Bool × Int)) → Exit × LS
  | .more t => (.ret, slices_Equal__impl_Spot_impl_Spot_e0 t)
  | .done t => ((.exit 0), slices_Equal__impl_Spot_impl_Spot_e0 t)

noncomputable def slices_Equal__impl_Spot_impl_Spot_g0 (P : Program) (b_a0 : Option (Option Addr)) (n_a0 : Nat) (a0 : Array Value) (b_a1 : Option (Option Addr)) (n_a1 : Nat) (a1 : Array Value) : Bool × Int → Option (Stp (Bool × Int) (Stp (Bool × Int) (Bool × Int)))
  | (y0_4, y0_13) => bif decide (y0_13 < (n_a0 : Int)) then (bif (decide (0 ≤ y0_13) && decide (y0_13 < (n_a0 : Int))) then (bif (decide (0 ≤ y0_13) && decide (y0_13 < (n_a1 : Int))) then (bif (!(sameB (a0.extract ((y0_13).toNat * 2) (((y0_13).toNat * 2) + 2)) (a1.extract ((y0_13).toNat * 2) (((y0_13).toNat * 2) + 2)))) then (some (.done (.more (false, y0_13))))
          else (some (.more (y0_4, (IntKind.i64.wrap (y0_13 + (1 : Int)))))))
        else (none))
      else (none))
    else (some (.done (.done (y0_4, y0_13))))

theorem slices_Equal__impl_Spot_impl_Spot_s0 (N : Nat) (b_a0 : Option (Option Addr)) (n_a0 : Nat) (a0 : Array Value) (b_a1 : Option (Option Addr)) (n_a1 : Nat) (a1 : Array Value) : ∀ t : Bool × Int, stepV Try.prog (mkΓ []) N (cAt (codeOf Try.f59) [1, 1, 0, 1, 0, 0]) (pAt (mkPlan (codeOf Try.f59) [([4, 13], [])]).1 [1, 1, 0, 1, 0]) [4, 13] [] (⟨.a (.l 0) :: .a (.l 1) :: .a (.u) :: .a (.u) :: .a (.b (false)) :: .a (.u) :: .a (.l 0) :: .a (.i .i64 (n_a0 : Int)) :: .a (.l 1) :: .a (.i .i64 (n_a1 : Int)) :: .a (.b (((n_a0 : Int) != (n_a1 : Int)))) :: .a (.l 0) :: .a (.i .i64 (n_a0 : Int)) :: .a (.i .i64 (0 : Int)) :: us 12 ([]), [.sl (.came b_a0) n_a0 a0 48, .sl (.came b_a1) n_a1 a1 48], []⟩ : St) (slices_Equal__impl_Spot_impl_Spot_e0 t) = mapS slices_Equal__impl_Spot_impl_Spot_e0 slices_Equal__impl_Spot_impl_Spot_x0 (slices_Equal__impl_Spot_impl_Spot_g0 Try.prog b_a0 n_a0 a0 b_a1 n_a1 a1 t) := by
  rintro ⟨y0_4, y0_13⟩
  refine Eq.trans (b := (bif decide (y0_13 < (n_a0 : Int)) then (bif (decide (0 ≤ y0_13) && decide (y0_13 < (n_a0 : Int))) then (bif (decide (0 ≤ y0_13) && decide (y0_13 < (n_a1 : Int))) then (bif (!(sameB (a0.extract ((y0_13).toNat * 2) (((y0_13).toNat * 2) + 2)) (a1.extract ((y0_13).toNat * 2) (((y0_13).toNat * 2) + 2)))) then (some (.done (.ret, ([.a (.b (false)), .a (.i .i64 (y0_13))], []))))
          else (some (.more ([.a (.b (y0_4)), .a (.i .i64 (IntKind.i64.wrap (y0_13 + (1 : Int))))], []))))
        else (none))
      else (none))
    else (some (.done ((.exit 0), ([.a (.b (y0_4)), .a (.i .i64 (y0_13))], [])))))) (by kernel_rfl) ?_
  simp only [slices_Equal__impl_Spot_impl_Spot_g0, mapS_cond, mapS_more, mapS_done, mapS_none, slices_Equal__impl_Spot_impl_Spot_e0, slices_Equal__impl_Spot_impl_Spot_x0]

noncomputable def slices_Equal__impl_Spot_impl_Spot_k0_0 (P : Program) (N : Nat) (b_a0 : Option (Option Addr)) (n_a0 : Nat) (a0 : Array Value) (b_a1 : Option (Option Addr)) (n_a1 : Nat) (a1 : Array Value) (z0_4 : Bool) (z0_13 : Int) : Option (SV × Eff × Bool) := some (.a (.b (z0_4)), .none, true)

theorem slices_Equal__impl_Spot_impl_Spot_k0_0_eq (N : Nat) (b_a0 : Option (Option Addr)) (n_a0 : Nat) (a0 : Array Value) (b_a1 : Option (Option Addr)) (n_a1 : Nat) (a1 : Array Value) (z0_4 : Bool) (z0_13 : Int) : (kBlock 0 (kSeq (veC Try.prog (mkΓ []) N (cAt (codeOf Try.f59) [1, 1, 1]) (pAt (mkPlan (codeOf Try.f59) [([4, 13], [])]).1 [1, 1, 1]) (SV × Eff × Bool)) (finK Try.prog [.sl (.came b_a0) n_a0 a0 48, .sl (.came b_a1) n_a1 a1 48] [.tmp 4]))) .ret (left (writes (cAt (codeOf Try.f59) [1, 1, 0, 1, 0, 0])) [4, 13] [] (⟨.a (.l 0) :: .a (.l 1) :: .a (.u) :: .a (.u) :: .a (.b (false)) :: .a (.u) :: .a (.l 0) :: .a (.i .i64 (n_a0 : Int)) :: .a (.l 1) :: .a (.i .i64 (n_a1 : Int)) :: .a (.b (((n_a0 : Int) != (n_a1 : Int)))) :: .a (.l 0) :: .a (.i .i64 (n_a0 : Int)) :: .a (.i .i64 (0 : Int)) :: us 12 ([]), [.sl (.came b_a0) n_a0 a0 48, .sl (.came b_a1) n_a1 a1 48], []⟩ : St) ([.a (.b (z0_4)), .a (.i .i64 (z0_13))], [])) = slices_Equal__impl_Spot_impl_Spot_k0_0 Try.prog N b_a0 n_a0 a0 b_a1 n_a1 a1 z0_4 z0_13 := by
  refine Eq.trans (b := (some (.a (.b (z0_4)), .none, true))) (by kernel_rfl) ?_
  rfl

noncomputable def slices_Equal__impl_Spot_impl_Spot_k0_1 (P : Program) (N : Nat) (b_a0 : Option (Option Addr)) (n_a0 : Nat) (a0 : Array Value) (b_a1 : Option (Option Addr)) (n_a1 : Nat) (a1 : Array Value) (z0_4 : Bool) (z0_13 : Int) : Option (SV × Eff × Bool) := some (.a (.b (true)), .none, true)

theorem slices_Equal__impl_Spot_impl_Spot_k0_1_eq (N : Nat) (b_a0 : Option (Option Addr)) (n_a0 : Nat) (a0 : Array Value) (b_a1 : Option (Option Addr)) (n_a1 : Nat) (a1 : Array Value) (z0_4 : Bool) (z0_13 : Int) : (kBlock 0 (kSeq (veC Try.prog (mkΓ []) N (cAt (codeOf Try.f59) [1, 1, 1]) (pAt (mkPlan (codeOf Try.f59) [([4, 13], [])]).1 [1, 1, 1]) (SV × Eff × Bool)) (finK Try.prog [.sl (.came b_a0) n_a0 a0 48, .sl (.came b_a1) n_a1 a1 48] [.tmp 4]))) (.exit 0) (left (writes (cAt (codeOf Try.f59) [1, 1, 0, 1, 0, 0])) [4, 13] [] (⟨.a (.l 0) :: .a (.l 1) :: .a (.u) :: .a (.u) :: .a (.b (false)) :: .a (.u) :: .a (.l 0) :: .a (.i .i64 (n_a0 : Int)) :: .a (.l 1) :: .a (.i .i64 (n_a1 : Int)) :: .a (.b (((n_a0 : Int) != (n_a1 : Int)))) :: .a (.l 0) :: .a (.i .i64 (n_a0 : Int)) :: .a (.i .i64 (0 : Int)) :: us 12 ([]), [.sl (.came b_a0) n_a0 a0 48, .sl (.came b_a1) n_a1 a1 48], []⟩ : St) ([.a (.b (z0_4)), .a (.i .i64 (z0_13))], [])) = slices_Equal__impl_Spot_impl_Spot_k0_1 Try.prog N b_a0 n_a0 a0 b_a1 n_a1 a1 z0_4 z0_13 := by
  refine Eq.trans (b := (some (.a (.b (true)), .none, true))) (by kernel_rfl) ?_
  rfl

theorem slices_Equal__impl_Spot_impl_Spot_n0 (N : Nat) (b_a0 : Option (Option Addr)) (n_a0 : Nat) (a0 : Array Value) (b_a1 : Option (Option Addr)) (n_a1 : Nat) (a1 : Array Value) : bindX (iterO (stepV Try.prog (mkΓ []) N (cAt (codeOf Try.f59) [1, 1, 0, 1, 0, 0]) (pAt (mkPlan (codeOf Try.f59) [([4, 13], [])]).1 [1, 1, 0, 1, 0]) [4, 13] [] (⟨.a (.l 0) :: .a (.l 1) :: .a (.u) :: .a (.u) :: .a (.b (false)) :: .a (.u) :: .a (.l 0) :: .a (.i .i64 (n_a0 : Int)) :: .a (.l 1) :: .a (.i .i64 (n_a1 : Int)) :: .a (.b (((n_a0 : Int) != (n_a1 : Int)))) :: .a (.l 0) :: .a (.i .i64 (n_a0 : Int)) :: .a (.i .i64 (0 : Int)) :: us 12 ([]), [.sl (.came b_a0) n_a0 a0 48, .sl (.came b_a1) n_a1 a1 48], []⟩ : St)) N ([.a (.b (false)), .a (.i .i64 (0 : Int))], [])) (fun e s => (kBlock 0 (kSeq (veC Try.prog (mkΓ []) N (cAt (codeOf Try.f59) [1, 1, 1]) (pAt (mkPlan (codeOf Try.f59) [([4, 13], [])]).1 [1, 1, 1]) (SV × Eff × Bool)) (finK Try.prog [.sl (.came b_a0) n_a0 a0 48, .sl (.came b_a1) n_a1 a1 48] [.tmp 4]))) e (left (writes (cAt (codeOf Try.f59) [1, 1, 0, 1, 0, 0])) [4, 13] [] (⟨.a (.l 0) :: .a (.l 1) :: .a (.u) :: .a (.u) :: .a (.b (false)) :: .a (.u) :: .a (.l 0) :: .a (.i .i64 (n_a0 : Int)) :: .a (.l 1) :: .a (.i .i64 (n_a1 : Int)) :: .a (.b (((n_a0 : Int) != (n_a1 : Int)))) :: .a (.l 0) :: .a (.i .i64 (n_a0 : Int)) :: .a (.i .i64 (0 : Int)) :: us 12 ([]), [.sl (.came b_a0) n_a0 a0 48, .sl (.came b_a1) n_a1 a1 48], []⟩ : St) s)) = nodeX (iterO (slices_Equal__impl_Spot_impl_Spot_g0 Try.prog b_a0 n_a0 a0 b_a1 n_a1 a1) N (false, (0 : Int))) (st2 (fun x => slices_Equal__impl_Spot_impl_Spot_k0_0 Try.prog N b_a0 n_a0 a0 b_a1 n_a1 a1 x.1 x.2) (fun x => slices_Equal__impl_Spot_impl_Spot_k0_1 Try.prog N b_a0 n_a0 a0 b_a1 n_a1 a1 x.1 x.2)) := by
  refine loop_node slices_Equal__impl_Spot_impl_Spot_e0 slices_Equal__impl_Spot_impl_Spot_x0 _ _ (slices_Equal__impl_Spot_impl_Spot_s0 N b_a0 n_a0 a0 b_a1 n_a1 a1) N (false, (0 : Int)) _ _ ?_
  intro x
  cases x with
  | more x => exact slices_Equal__impl_Spot_impl_Spot_k0_0_eq N b_a0 n_a0 a0 b_a1 n_a1 a1 x.1 x.2
  | done x => exact slices_Equal__impl_Spot_impl_Spot_k0_1_eq N b_a0 n_a0 a0 b_a1 n_a1 a1 x.1 x.2

theorem slices_Equal__impl_Spot_impl_Spot_ans (N : Nat) (b_a0 : Option (Option Addr)) (n_a0 : Nat) (a0 : Array Value) (b_a1 : Option (Option Addr)) (n_a1 : Nat) (a1 : Array Value) : ansV Try.prog (mkΓ []) N Try.f59 [([4, 13], [])] [.l 0, .l 1] [.sl (.came b_a0) n_a0 a0 48, .sl (.came b_a1) n_a1 a1 48] = (bif ((n_a0 : Int) != (n_a1 : Int)) then (some (.a (.b (false)), .none, true))
    else (nodeX (iterO (slices_Equal__impl_Spot_impl_Spot_g0 Try.prog b_a0 n_a0 a0 b_a1 n_a1 a1) N (false, (0 : Int))) (st2 (fun x => slices_Equal__impl_Spot_impl_Spot_k0_0 Try.prog N b_a0 n_a0 a0 b_a1 n_a1 a1 x.1 x.2) (fun x => slices_Equal__impl_Spot_impl_Spot_k0_1 Try.prog N b_a0 n_a0 a0 b_a1 n_a1 a1 x.1 x.2)))) := by
  refine Eq.trans (b := (bif ((n_a0 : Int) != (n_a1 : Int)) then (some (.a (.b (false)), .none, true))
    else (bindX (iterO (stepV Try.prog (mkΓ []) N (cAt (codeOf Try.f59) [1, 1, 0, 1, 0, 0]) (pAt (mkPlan (codeOf Try.f59) [([4, 13], [])]).1 [1, 1, 0, 1, 0]) [4, 13] [] (⟨.a (.l 0) :: .a (.l 1) :: .a (.u) :: .a (.u) :: .a (.b (false)) :: .a (.u) :: .a (.l 0) :: .a (.i .i64 (n_a0 : Int)) :: .a (.l 1) :: .a (.i .i64 (n_a1 : Int)) :: .a (.b (((n_a0 : Int) != (n_a1 : Int)))) :: .a (.l 0) :: .a (.i .i64 (n_a0 : Int)) :: .a (.i .i64 (0 : Int)) :: us 12 ([]), [.sl (.came b_a0) n_a0 a0 48, .sl (.came b_a1) n_a1 a1 48], []⟩ : St)) N ([.a (.b (false)), .a (.i .i64 (0 : Int))], [])) (fun e s => (kBlock 0 (kSeq (veC Try.prog (mkΓ []) N (cAt (codeOf Try.f59) [1, 1, 1]) (pAt (mkPlan (codeOf Try.f59) [([4, 13], [])]).1 [1, 1, 1]) (SV × Eff × Bool)) (finK Try.prog [.sl (.came b_a0) n_a0 a0 48, .sl (.came b_a1) n_a1 a1 48] [.tmp 4]))) e (left (writes (cAt (codeOf Try.f59) [1, 1, 0, 1, 0, 0])) [4, 13] [] (⟨.a (.l 0) :: .a (.l 1) :: .a (.u) :: .a (.u) :: .a (.b (false)) :: .a (.u) :: .a (.l 0) :: .a (.i .i64 (n_a0 : Int)) :: .a (.l 1) :: .a (.i .i64 (n_a1 : Int)) :: .a (.b (((n_a0 : Int) != (n_a1 : Int)))) :: .a (.l 0) :: .a (.i .i64 (n_a0 : Int)) :: .a (.i .i64 (0 : Int)) :: us 12 ([]), [.sl (.came b_a0) n_a0 a0 48, .sl (.came b_a1) n_a1 a1 48], []⟩ : St) s))))) (by kernel_rfl) ?_
  simp only [slices_Equal__impl_Spot_impl_Spot_n0 N b_a0 n_a0 a0 b_a1 n_a1 a1]

theorem slices_Equal__impl_Spot_impl_Spot_main (b_a0 : Option (Option Addr)) (n_a0 : Nat) (a0 : Array Value) (b_a1 : Option (Option Addr)) (n_a1 : Nat) (a1 : Array Value) (h_a0 : a0.size = n_a0 * (lay Try.prog 48).length ∧ (∀ k, k < n_a0 → WT Try.prog 48 (a0.extract (k * (lay Try.prog 48).length) (k * (lay Try.prog 48).length + (lay Try.prog 48).length))) ∧ n_a0 ≤ 9223372036854775807) (h_a1 : a1.size = n_a1 * (lay Try.prog 48).length ∧ (∀ k, k < n_a1 → WT Try.prog 48 (a1.extract (k * (lay Try.prog 48).length) (k * (lay Try.prog 48).length + (lay Try.prog 48).length))) ∧ n_a1 ≤ 9223372036854775807) (hg : (true) = true) : ansV Try.prog (mkΓ []) 18446744073709551616 Try.f59 [([4, 13], [])] [.l 0, .l 1] [.sl (.came b_a0) n_a0 a0 48, .sl (.came b_a1) n_a1 a1 48] = some (.a (.b ((decide (n_a0 = n_a1) && sameB a0 a1))), .none, true) := by
  have hm : (lay Try.prog 48).length = 2 := by kernel_rfl
  obtain ⟨s1, s2, s3⟩ := h_a0
  obtain ⟨t1, t2, t3⟩ := h_a1
  rw [hm] at s1 s2 t1 t2
  have hq : (lay Try.prog 48)[0]? = some 0 := by kernel_rfl
  refine (slices_Equal__impl_Spot_impl_Spot_ans 18446744073709551616 b_a0 n_a0 a0 b_a1 n_a1 a1).trans ?_
  by_cases hl : n_a0 = n_a1
  case neg =>
    rw [decide_eq_false hl, show ((n_a0 : Int) != (n_a1 : Int)) = true from bne_iff_ne.2 (by omega)]
    rfl
  subst hl
  rw [decide_eq_true rfl, show ((n_a0 : Int) != (n_a0 : Int)) = false from bne_self_eq_false _]
  simp only [cond_false, Bool.true_and]
  have hb : sameB a0 a1 = true ↔ ∀ k, k < n_a0 → (fun k => sameB (a0.extract (k * 2) (k * 2 + 2)) (a1.extract (k * 2) (k * 2 + 2))) k = true := by
    constructor
    · intro h k hk
      rw [sameB_iff.1 h]
      exact sameB_self _
    · intro h
      refine sameB_iff.2 ?_
      exact ext_parts (n := n_a0) (m := 2) (by omega) s1 t1 (fun k hk => sameB_iff.1 (h k hk))
  refine (iter_first (g := slices_Equal__impl_Spot_impl_Spot_g0 Try.prog b_a0 n_a0 a0 b_a1 n_a0 a1) (fun k => (false, (k : Int))) (fun k => sameB (a0.extract (k * 2) (k * 2 + 2)) (a1.extract (k * 2) (k * 2 + 2))) n_a0 (N := 18446744073709551616) (xd := .done (false, (n_a0 : Int))) (by omega) (fun k hk hp => by
    have h1 : decide ((k : Int) < (n_a0 : Int)) = true := decide_eq_true (by omega)
    have h0 : decide (0 ≤ (k : Int)) = true := decide_eq_true (by omega)
    have h3 : IntKind.i64.wrap ((k : Int) + 1) = ((k + 1 : Nat) : Int) := by rw [IntWalk.i64_in _ (by omega)]; omega
    have hp' : sameB (a0.extract (k * 2) (k * 2 + 2)) (a1.extract (k * 2) (k * 2 + 2)) = true := hp
    simp only [slices_Equal__impl_Spot_impl_Spot_g0, h1, h0, Bool.and_self, Int.toNat_natCast, cond_true, h3, hp', Bool.not_true, cond_false]) (by
    have h1 : decide ((n_a0 : Int) < (n_a0 : Int)) = false := decide_eq_false (by omega)
    simp only [slices_Equal__impl_Spot_impl_Spot_g0, h1, cond_false]) (sameB a0 a1) hb (some (.a (.b true), .none, true)) (some (.a (.b false), .none, true)) rfl (fun k hk hp => by
    refine ⟨.more (false, (k : Int)), ?_, rfl⟩
    have h1 : decide ((k : Int) < (n_a0 : Int)) = true := decide_eq_true (by omega)
    have h0 : decide (0 ≤ (k : Int)) = true := decide_eq_true (by omega)
    have hp' : sameB (a0.extract (k * 2) (k * 2 + 2)) (a1.extract (k * 2) (k * 2 + 2)) = false := hp
    simp only [slices_Equal__impl_Spot_impl_Spot_g0, h1, h0, Bool.and_self, Int.toNat_natCast, cond_true, hp', Bool.not_false])).trans ?_
  cases sameB a0 a1 <;> rfl
noncomputable def slices_Equal__impl_Spot_impl_Spot_con : Con := fun args h => match args, h with
  | [.l 0, .l 1], [.sl (.came b_a0) n_a0 a0 48, .sl (.came b_a1) n_a1 a1 48] => some (.a (.b ((decide (n_a0 = n_a1) && sameB a0 a1))), .none, true)
  | _, _ => none
theorem slices_Equal__impl_Spot_impl_Spot_enter : ∀ args w, (callFunc 59 args).run Try.prog w = .ok (.enter 59 args) w := enter_ok (fn := Try.f59) (by kernel_rfl) (by kernel_rfl) (by kernel_rfl)
theorem slices_Equal__impl_Spot_impl_Spot_ok : ConOk Try.prog 59 slices_Equal__impl_Spot_impl_Spot_con := (ans_ok (N := 18446744073709551616) (by kernel_rfl) mkΓ_nil (fn := Try.f59) (by kernel_rfl) (by kernel_rfl) [([4, 13], [])]).of (by
  intro ρ h w args vals r e hA hH hr
  unfold slices_Equal__impl_Spot_impl_Spot_con at hr
  split at hr
  · rename_i b_a0 n_a0 a0 b_a1 n_a1 a1
    obtain ⟨rfl, hg⟩ := Prod.mk.inj (Option.some.inj hr)
    obtain ⟨rfl, hg2⟩ := Prod.mk.inj hg
    exact slices_Equal__impl_Spot_impl_Spot_main b_a0 n_a0 a0 b_a1 n_a1 a1 (hH.slw 0 rfl) (hH.slw 1 rfl) hg2
  · cases hr)

theorem laws_szSpotS_ans (N : Nat) (a1 : Int) (b_a0 : Option (Option Addr)) (n_a0 : Nat) (a0 : Array Value) : ansV Try.prog (mkΓ []) N Try.f23 [] [.l 0, .i .i64 (a1)] [.sl (.came b_a0) n_a0 a0 45] = (bif decide ((IntKind.i64.wrap (a1 - (n_a0 : Int))) < (0 : Int)) then (some (.a (.i .i64 (-1 : Int)), .none, true))
    else (some (.a (.i .i64 (IntKind.i64.wrap (a1 - (n_a0 : Int)))), .none, true))) := by kernel_rfl

noncomputable def laws_szSpotS_v0 (a1 : Int) (b_a0 : Option (Option Addr)) (n_a0 : Nat) (a0 : Array Value) : Int := (bif decide ((IntKind.i64.wrap (a1 - (n_a0 : Int))) < (0 : Int)) then (-1 : Int) else (IntKind.i64.wrap (a1 - (n_a0 : Int))))

theorem laws_szSpotS_main (a1 : Int) (b_a0 : Option (Option Addr)) (n_a0 : Nat) (a0 : Array Value) (h_a1 : IntKind.i64.min ≤ a1 ∧ a1 ≤ IntKind.i64.max) (h_a0 : a0.size = n_a0 * (lay Try.prog 45).length ∧ (∀ k, k < n_a0 → WT Try.prog 45 (a0.extract (k * (lay Try.prog 45).length) (k * (lay Try.prog 45).length + (lay Try.prog 45).length))) ∧ n_a0 ≤ 9223372036854775807) (hg : (true) = true) : ansV Try.prog (mkΓ []) 1000 Try.f23 [] [.l 0, .i .i64 (a1)] [.sl (.came b_a0) n_a0 a0 45] = some (.a (.i .i64 (laws_szSpotS_v0 a1 b_a0 n_a0 a0)), .none, true) := by
  refine (laws_szSpotS_ans 1000 a1 b_a0 n_a0 a0).trans ?_
  unfold laws_szSpotS_v0
  revert hg
  generalize (decide ((IntKind.i64.wrap (a1 - (n_a0 : Int))) < (0 : Int))) = b2
  intro hg
  cases b2
  · skip
    first | (simp only [cond_true, cond_false, Bool.and_true, Bool.true_and, Bool.and_false, Bool.false_and]; done) | rfl | exact (nomatch (hg : false = true))
  · skip
    first | (simp only [cond_true, cond_false, Bool.and_true, Bool.true_and, Bool.and_false, Bool.false_and]; done) | rfl | exact (nomatch (hg : false = true))
noncomputable def laws_szSpotS_con : Con := fun args h => match args, h with
  | [.l 0, .i .i64 a1], [.sl (.came b_a0) n_a0 a0 45] => some (.a (.i .i64 (laws_szSpotS_v0 a1 b_a0 n_a0 a0)), .none, true)
  | _, _ => none
theorem laws_szSpotS_enter : ∀ args w, (callFunc 23 args).run Try.prog w = .ok (.enter 23 args) w := enter_ok (fn := Try.f23) (by kernel_rfl) (by kernel_rfl) (by kernel_rfl)
theorem laws_szSpotS_ok : ConOk Try.prog 23 laws_szSpotS_con := (ans_ok (N := 1000) (by kernel_rfl) mkΓ_nil (fn := Try.f23) (by kernel_rfl) (by kernel_rfl) []).of (by
  intro ρ h w args vals r e hA hH hr
  unfold laws_szSpotS_con at hr
  split at hr
  · rename_i a1 b_a0 n_a0 a0
    obtain ⟨rfl, hg⟩ := Prod.mk.inj (Option.some.inj hr)
    obtain ⟨rfl, hg2⟩ := Prod.mk.inj hg
    exact laws_szSpotS_main a1 b_a0 n_a0 a0 (hA.rng 1 rfl) (hH.slw 0 rfl) hg2
  · cases hr)

theorem impl_SameSpots_ans (N : Nat) (b_a0 : Option (Option Addr)) (n_a0 : Nat) (a0 : Array Value) (b_a1 : Option (Option Addr)) (n_a1 : Nat) (a1 : Array Value) : ansV Try.prog (mkΓ [(59, con slices_Equal__impl_Spot_impl_Spot_con)]) N Try.f26 [] [.l 0, .l 1] [.sl (.came b_a0) n_a0 a0 48, .sl (.came b_a1) n_a1 a1 48] = (some (.a (.b ((decide (n_a0 = n_a1) && sameB a0 a1))), .none, true)) := by kernel_rfl



theorem impl_SameSpots_main (b_a0 : Option (Option Addr)) (n_a0 : Nat) (a0 : Array Value) (b_a1 : Option (Option Addr)) (n_a1 : Nat) (a1 : Array Value) (h_a0 : a0.size = n_a0 * (lay Try.prog 48).length ∧ (∀ k, k < n_a0 → WT Try.prog 48 (a0.extract (k * (lay Try.prog 48).length) (k * (lay Try.prog 48).length + (lay Try.prog 48).length))) ∧ n_a0 ≤ 9223372036854775807) (h_a1 : a1.size = n_a1 * (lay Try.prog 48).length ∧ (∀ k, k < n_a1 → WT Try.prog 48 (a1.extract (k * (lay Try.prog 48).length) (k * (lay Try.prog 48).length + (lay Try.prog 48).length))) ∧ n_a1 ≤ 9223372036854775807) (hg : (true) = true) : ansV Try.prog (mkΓ [(59, con slices_Equal__impl_Spot_impl_Spot_con)]) 1000 Try.f26 [] [.l 0, .l 1] [.sl (.came b_a0) n_a0 a0 48, .sl (.came b_a1) n_a1 a1 48] = some (.a (.b ((decide (n_a0 = n_a1) && sameB a0 a1))), .none, true) := by
  refine (impl_SameSpots_ans 1000 b_a0 n_a0 a0 b_a1 n_a1 a1).trans ?_
  rfl
noncomputable def impl_SameSpots_con : Con := fun args h => match args, h with
  | [.l 0, .l 1], [.sl (.came b_a0) n_a0 a0 48, .sl (.came b_a1) n_a1 a1 48] => some (.a (.b ((decide (n_a0 = n_a1) && sameB a0 a1))), .none, true)
  | _, _ => none
theorem impl_SameSpots_enter : ∀ args w, (callFunc 26 args).run Try.prog w = .ok (.enter 26 args) w := enter_ok (fn := Try.f26) (by kernel_rfl) (by kernel_rfl) (by kernel_rfl)
theorem impl_SameSpots_ok : ConOk Try.prog 26 impl_SameSpots_con := (ans_ok (N := 1000) (by kernel_rfl) (mkΓ_cons (con_ok slices_Equal__impl_Spot_impl_Spot_ok) slices_Equal__impl_Spot_impl_Spot_enter mkΓ_nil) (fn := Try.f26) (by kernel_rfl) (by kernel_rfl) []).of (by
  intro ρ h w args vals r e hA hH hr
  unfold impl_SameSpots_con at hr
  split at hr
  · rename_i b_a0 n_a0 a0 b_a1 n_a1 a1
    obtain ⟨rfl, hg⟩ := Prod.mk.inj (Option.some.inj hr)
    obtain ⟨rfl, hg2⟩ := Prod.mk.inj hg
    exact impl_SameSpots_main b_a0 n_a0 a0 b_a1 n_a1 a1 (hH.slw 0 rfl) (hH.slw 1 rfl) hg2
  · cases hr)

end
end Go.Proofs.Ythkpnfoapjhleaa
