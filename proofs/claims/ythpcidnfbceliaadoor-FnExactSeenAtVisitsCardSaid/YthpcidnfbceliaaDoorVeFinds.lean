/- Valid finds. -/
import Derived.Test.YthpcidnfbceliaaDoorProg
import Derived.Test.YthpcidnfbceliaaDoorVeSl
namespace Go.Proofs.YthpcidnfbceliaaDoor
open Go.ChangeShapes Go.WideShapes Go.ChangeAt Go.RowKit Ve
set_option linter.unusedVariables false
set_option linter.unusedSimpArgs false
set_option maxRecDepth 100000
noncomputable section
theorem laws_toFind_ans (N : Nat) (a0 : Array Value) : ansV Tryd.prog (mkΓ []) N Tryd.f29 [] [.g a0 67] [] = (some (.a (.g #[.int .i8 (num a0 0), .int .i8 (num a0 1)] 64), .none, true)) := by kernel_rfl

theorem laws_toFind_main (a0 : Array Value) (h_a0 : WT Tryd.prog 67 a0) (hg : (true) = true) : ansV Tryd.prog (mkΓ []) 1000 Tryd.f29 [] [.g a0 67] [] = some (.a (.g a0 64), .none, true) := by
  have hz : a0.size = 2 := by rw [h_a0.layLen]; kernel_rfl
  have e0 := (h_a0.int (o := 0) (k := .i8) (by kernel_rfl)).1
  have e1 := (h_a0.int (o := 1) (k := .i8) (by kernel_rfl)).1
  have he : (#[.int .i8 (num a0 0), .int .i8 (num a0 1)] : Array Value) = a0 := arr_ext fun i => by
    match i with
    | 0 => exact e0.symm
    | 1 => exact e1.symm
    | i + 2 => rw [Array.getElem?_eq_none (by simp), Array.getElem?_eq_none (by omega)]
  refine (laws_toFind_ans 1000 a0).trans ?_
  rw [he]
noncomputable def laws_toFind_con : Con := fun args h => match args, h with
  | [.g a0 67], [] => some (.a (.g a0 64), .none, true)
  | _, _ => none
theorem laws_toFind_enter : ∀ args w, (callFunc 29 args).run Tryd.prog w = .ok (.enter 29 args) w := enter_ok (fn := Tryd.f29) (by kernel_rfl) (by kernel_rfl) (by kernel_rfl)
theorem laws_toFind_ok : ConOk Tryd.prog 29 laws_toFind_con := (ans_ok (N := 1000) (by kernel_rfl) mkΓ_nil (fn := Tryd.f29) (by kernel_rfl) (by kernel_rfl) []).of (by
  intro ρ h w args vals r e hA hH hr
  unfold laws_toFind_con at hr
  split at hr
  · rename_i a0
    obtain ⟨rfl, hg⟩ := Prod.mk.inj (Option.some.inj hr)
    obtain ⟨rfl, hg2⟩ := Prod.mk.inj hg
    exact laws_toFind_main a0 (hA.wt 0 rfl) hg2
  · cases hr)

noncomputable def laws_toFindS_t0 (b_a0 : Option (Option Addr)) (n_a0 : Nat) (a0 : Array Value) : St := (⟨.a (.l 0) :: .a (.u) :: .a (.v (.slice none 0 0)) :: .a (.l 3) :: .a (.i .i64 (0 : Int)) :: .a (.l 0) :: .a (.i .i64 (n_a0 : Int)) :: .a (.l 3) :: us 15 ([]), [.sl (.came b_a0) n_a0 a0 67, .no, .no, .sl .own ((n_a0 : Int).toNat) (madeCells (zc Tryd.prog 64) ((n_a0 : Int).toNat * 2)) 64, .no], []⟩ : St)

noncomputable def laws_toFindS_e0 (n_a0 : Nat) : Int × Array Value → LS
  | (y0_4, r0_3) => ([.a (.i .i64 (y0_4))], [.sl .own ((n_a0 : Int).toNat) r0_3 64])

noncomputable def laws_toFindS_x0 (n_a0 : Nat) : Int × Array Value → Exit × LS
  | t => ((.exit 0), (laws_toFindS_e0 n_a0) t)

noncomputable def laws_toFindS_g0 (P : Program) (b_a0 : Option (Option Addr)) (n_a0 : Nat) (a0 : Array Value) : Int × Array Value → Option (Stp (Int × Array Value) (Int × Array Value))
  | (y0_4, r0_3) => bif decide (y0_4 < (n_a0 : Int)) then (bif (decide (0 ≤ y0_4) && decide (y0_4 < (n_a0 : Int))) then (bif (decide (0 ≤ y0_4) && decide (y0_4 < (((n_a0 : Int).toNat) : Int))) then (some (.more ((IntKind.i64.wrap (y0_4 + (1 : Int))), (spl r0_3 ((y0_4).toNat * 2) (a0.extract ((y0_4).toNat * 2) (((y0_4).toNat * 2) + 2)).toList))))
        else (none))
      else (none))
    else (some (.done (y0_4, r0_3)))

theorem laws_toFindS_s0 (N : Nat) (b_a0 : Option (Option Addr)) (n_a0 : Nat) (a0 : Array Value) : ∀ t : Int × Array Value, stepV Tryd.prog (mkΓ [(29, con laws_toFind_con)]) N (cAt (codeOf Tryd.f10) [1, 1, 0, 1, 0, 0]) (pAt (mkPlan (codeOf Tryd.f10) [([4], [3])]).1 [1, 1, 0, 1, 0]) [4] [3] (laws_toFindS_t0 b_a0 n_a0 a0) ((laws_toFindS_e0 n_a0) t) = mapS (laws_toFindS_e0 n_a0) (laws_toFindS_x0 n_a0) (laws_toFindS_g0 Tryd.prog b_a0 n_a0 a0 t) := by
  rintro ⟨y0_4, r0_3⟩
  refine Eq.trans (b := (bif decide (y0_4 < (n_a0 : Int)) then (bif (decide (0 ≤ y0_4) && decide (y0_4 < (n_a0 : Int))) then (bif (decide (0 ≤ y0_4) && decide (y0_4 < (((n_a0 : Int).toNat) : Int))) then (some (.more ([.a (.i .i64 (IntKind.i64.wrap (y0_4 + (1 : Int))))], [.sl .own ((n_a0 : Int).toNat) (spl r0_3 ((y0_4).toNat * 2) (a0.extract ((y0_4).toNat * 2) (((y0_4).toNat * 2) + 2)).toList) 64])))
        else (none))
      else (none))
    else (some (.done ((.exit 0), ([.a (.i .i64 (y0_4))], [.sl .own ((n_a0 : Int).toNat) r0_3 64])))))) (by kernel_rfl) ?_
  simp only [laws_toFindS_g0, mapS_cond, mapS_more, mapS_done, mapS_none, laws_toFindS_e0, laws_toFindS_x0]

noncomputable def laws_toFindS_k0_0 (P : Program) (N : Nat) (b_a0 : Option (Option Addr)) (n_a0 : Nat) (a0 : Array Value) (z0_4 : Int) (q0_3 : Array Value) : Option (SV × Eff × Bool) := some (.a .x, .newS none ((n_a0 : Int).toNat) q0_3 64, true)

theorem laws_toFindS_k0_0_eq (N : Nat) (b_a0 : Option (Option Addr)) (n_a0 : Nat) (a0 : Array Value) (z0_4 : Int) (q0_3 : Array Value) : (kBlock 0 (kSeq (veC Tryd.prog (mkΓ [(29, con laws_toFind_con)]) N (cAt (codeOf Tryd.f10) [1, 1, 1]) (pAt (mkPlan (codeOf Tryd.f10) [([4], [3])]).1 [1, 1, 1]) (SV × Eff × Bool)) (finK Tryd.prog [.sl (.came b_a0) n_a0 a0 67] [.tmp 2]))) (.exit 0) (left (writes (cAt (codeOf Tryd.f10) [1, 1, 0, 1, 0, 0])) [4] [3] (laws_toFindS_t0 b_a0 n_a0 a0) ([.a (.i .i64 (z0_4))], [.sl .own ((n_a0 : Int).toNat) q0_3 64])) = laws_toFindS_k0_0 Tryd.prog N b_a0 n_a0 a0 z0_4 q0_3 := by
  refine Eq.trans (b := (some (.a .x, .newS none ((n_a0 : Int).toNat) q0_3 64, true))) (by kernel_rfl) ?_
  rfl

theorem laws_toFindS_n0 (N : Nat) (b_a0 : Option (Option Addr)) (n_a0 : Nat) (a0 : Array Value) : bindX (iterO (stepV Tryd.prog (mkΓ [(29, con laws_toFind_con)]) N (cAt (codeOf Tryd.f10) [1, 1, 0, 1, 0, 0]) (pAt (mkPlan (codeOf Tryd.f10) [([4], [3])]).1 [1, 1, 0, 1, 0]) [4] [3] (laws_toFindS_t0 b_a0 n_a0 a0)) N ([.a (.i .i64 (0 : Int))], [.sl .own ((n_a0 : Int).toNat) (madeCells (zc Tryd.prog 64) ((n_a0 : Int).toNat * 2)) 64])) (fun e s => (kBlock 0 (kSeq (veC Tryd.prog (mkΓ [(29, con laws_toFind_con)]) N (cAt (codeOf Tryd.f10) [1, 1, 1]) (pAt (mkPlan (codeOf Tryd.f10) [([4], [3])]).1 [1, 1, 1]) (SV × Eff × Bool)) (finK Tryd.prog [.sl (.came b_a0) n_a0 a0 67] [.tmp 2]))) e (left (writes (cAt (codeOf Tryd.f10) [1, 1, 0, 1, 0, 0])) [4] [3] (laws_toFindS_t0 b_a0 n_a0 a0) s)) = nodeX (iterO (laws_toFindS_g0 Tryd.prog b_a0 n_a0 a0) N ((0 : Int), (madeCells (zc Tryd.prog 64) ((n_a0 : Int).toNat * 2)))) (fun x => laws_toFindS_k0_0 Tryd.prog N b_a0 n_a0 a0 x.1 x.2) := by
  refine loop_node (laws_toFindS_e0 n_a0) (laws_toFindS_x0 n_a0) _ _ (laws_toFindS_s0 N b_a0 n_a0 a0) N ((0 : Int), (madeCells (zc Tryd.prog 64) ((n_a0 : Int).toNat * 2))) _ _ ?_
  intro x; exact laws_toFindS_k0_0_eq N b_a0 n_a0 a0 x.1 x.2

theorem laws_toFindS_ans (N : Nat) (b_a0 : Option (Option Addr)) (n_a0 : Nat) (a0 : Array Value) : ansV Tryd.prog (mkΓ [(29, con laws_toFind_con)]) N Tryd.f10 [([4], [3])] [.l 0] [.sl (.came b_a0) n_a0 a0 67] = (bif (decide (0 ≤ (n_a0 : Int)) && ((n_a0 : Int) == (n_a0 : Int) && decide ((bytesOf Tryd.prog 64 : Int) * (n_a0 : Int) ≤ 281474976710656))) then (nodeX (iterO (laws_toFindS_g0 Tryd.prog b_a0 n_a0 a0) N ((0 : Int), (madeCells (zc Tryd.prog 64) ((n_a0 : Int).toNat * 2)))) (fun x => laws_toFindS_k0_0 Tryd.prog N b_a0 n_a0 a0 x.1 x.2))
    else (none)) := by
  refine Eq.trans (b := (bif (decide (0 ≤ (n_a0 : Int)) && ((n_a0 : Int) == (n_a0 : Int) && decide ((bytesOf Tryd.prog 64 : Int) * (n_a0 : Int) ≤ 281474976710656))) then (bindX (iterO (stepV Tryd.prog (mkΓ [(29, con laws_toFind_con)]) N (cAt (codeOf Tryd.f10) [1, 1, 0, 1, 0, 0]) (pAt (mkPlan (codeOf Tryd.f10) [([4], [3])]).1 [1, 1, 0, 1, 0]) [4] [3] (laws_toFindS_t0 b_a0 n_a0 a0)) N ([.a (.i .i64 (0 : Int))], [.sl .own ((n_a0 : Int).toNat) (madeCells (zc Tryd.prog 64) ((n_a0 : Int).toNat * 2)) 64])) (fun e s => (kBlock 0 (kSeq (veC Tryd.prog (mkΓ [(29, con laws_toFind_con)]) N (cAt (codeOf Tryd.f10) [1, 1, 1]) (pAt (mkPlan (codeOf Tryd.f10) [([4], [3])]).1 [1, 1, 1]) (SV × Eff × Bool)) (finK Tryd.prog [.sl (.came b_a0) n_a0 a0 67] [.tmp 2]))) e (left (writes (cAt (codeOf Tryd.f10) [1, 1, 0, 1, 0, 0])) [4] [3] (laws_toFindS_t0 b_a0 n_a0 a0) s)))
    else (none))) (by kernel_rfl) ?_
  simp only [laws_toFindS_n0 N b_a0 n_a0 a0]

theorem laws_toFindS_main (b_a0 : Option (Option Addr)) (n_a0 : Nat) (a0 : Array Value) (h_a0 : a0.size = n_a0 * (lay Tryd.prog 67).length ∧ (∀ k, k < n_a0 → WT Tryd.prog 67 (a0.extract (k * (lay Tryd.prog 67).length) (k * (lay Tryd.prog 67).length + (lay Tryd.prog 67).length))) ∧ n_a0 ≤ 9223372036854775807) (hg : (decide (n_a0 ≤ 1048576)) = true) : ansV Tryd.prog (mkΓ [(29, con laws_toFind_con)]) 18446744073709551616 Tryd.f10 [([4], [3])] [.l 0] [.sl (.came b_a0) n_a0 a0 67] = some (.a .x, .newS none n_a0 a0 64, true) := by
  have hn : n_a0 ≤ 1048576 := of_decide_eq_true hg
  have hm : (lay Tryd.prog 67).length = 2 := by kernel_rfl
  have hb : bytesOf Tryd.prog 64 = 2 := by kernel_rfl
  obtain ⟨s1, s2, s3⟩ := h_a0
  rw [hm] at s1 s2
  have hq : (lay Tryd.prog 67)[0]? = some 0 := by kernel_rfl
  refine (laws_toFindS_ans 18446744073709551616 b_a0 n_a0 a0).trans ?_
  have hgd : (decide (0 ≤ (n_a0 : Int)) && ((n_a0 : Int) == (n_a0 : Int) && decide ((bytesOf Tryd.prog 64 : Int) * (n_a0 : Int) ≤ 281474976710656))) = true := by
    rw [hb, decide_eq_true (show (0 : Int) ≤ n_a0 by omega), beq_self_eq_true, decide_eq_true (show (((2 : Nat) : Int)) * (n_a0 : Int) ≤ 281474976710656 by omega)]; rfl
  rw [hgd, cond_true]
  have hs : a0.size = (madeCells (zc Tryd.prog 64) ((n_a0 : Int).toNat * 2)).size := by rw [size_madeCells, Int.toNat_natCast]; exact s1
  generalize (madeCells (zc Tryd.prog 64) ((n_a0 : Int).toNat * 2)) = Z at hs ⊢
  have h := iter_all (g := laws_toFindS_g0 Tryd.prog b_a0 n_a0 a0) (fun k => ((k : Int), upto a0 Z (k * 2))) (m := n_a0) (x := ((n_a0 : Int), upto a0 Z (n_a0 * 2))) (N := 18446744073709551616) (fun k hk => by
    have h1 : decide ((k : Int) < (n_a0 : Int)) = true := decide_eq_true (by omega)
    have h0 : decide (0 ≤ (k : Int)) = true := decide_eq_true (by omega)
    have h3 : IntKind.i64.wrap ((k : Int) + 1) = ((k + 1 : Nat) : Int) := by rw [IntWalk.i64_in _ (by omega)]; omega
    have h5 : spl (upto a0 Z (k * 2)) (k * 2) (a0.extract (k * 2) (k * 2 + 2)).toList = upto a0 Z ((k + 1) * 2) := by
      rw [Nat.add_mul]; exact upto_spl hs (by have : (k + 1) * 2 ≤ n_a0 * 2 := Nat.mul_le_mul_right _ hk; omega) rfl
    simp only [laws_toFindS_g0, h1, h0, Bool.and_self, Int.toNat_natCast, cond_true, h3, h5]) (by
    have h1 : decide ((n_a0 : Int) < (n_a0 : Int)) = false := decide_eq_false (by omega)
    simp only [laws_toFindS_g0, h1, cond_false]) (by omega)
  rw [upto_all hs s1] at h
  simp only [Nat.zero_mul, upto_zero hs] at h
  have h' : iterO (laws_toFindS_g0 Tryd.prog b_a0 n_a0 a0) 18446744073709551616 ((0 : Int), Z) = some ((n_a0 : Int), a0) := h
  rw [h']
  show some (_, Eff.newS none ((n_a0 : Int).toNat) a0 64, true) = _
  rw [Int.toNat_natCast]
noncomputable def laws_toFindS_con : Con := fun args h => match args, h with
  | [.l 0], [.sl (.came b_a0) n_a0 a0 67] => some (.a .x, .newS none n_a0 a0 64, decide (n_a0 ≤ 1048576))
  | _, _ => none
theorem laws_toFindS_enter : ∀ args w, (callFunc 10 args).run Tryd.prog w = .ok (.enter 10 args) w := enter_ok (fn := Tryd.f10) (by kernel_rfl) (by kernel_rfl) (by kernel_rfl)
theorem laws_toFindS_ok : ConOk Tryd.prog 10 laws_toFindS_con := (ans_ok (N := 18446744073709551616) (by kernel_rfl) (mkΓ_cons (con_ok laws_toFind_ok) laws_toFind_enter mkΓ_nil) (fn := Tryd.f10) (by kernel_rfl) (by kernel_rfl) [([4], [3])]).of (by
  intro ρ h w args vals r e hA hH hr
  unfold laws_toFindS_con at hr
  split at hr
  · rename_i b_a0 n_a0 a0
    obtain ⟨rfl, hg⟩ := Prod.mk.inj (Option.some.inj hr)
    obtain ⟨rfl, hg2⟩ := Prod.mk.inj hg
    exact laws_toFindS_main b_a0 n_a0 a0 (hH.slw 0 rfl) hg2
  · cases hr)

theorem laws_eqFind_ans (N : Nat) (a0 : Array Value) (a1 : Array Value) : ansV Tryd.prog (mkΓ []) N Tryd.f33 [] [.g a0 64, .g a1 64] [] = (bif ((num a0 0) != (num a1 0)) then (some (.a (.b (false)), .none, true))
    else (bif ((num a0 1) != (num a1 1)) then (some (.a (.b (false)), .none, true))
      else (some (.a (.b (true)), .none, true)))) := by kernel_rfl

theorem laws_eqFind_main (a0 : Array Value) (a1 : Array Value) (h_a0 : WT Tryd.prog 64 a0) (h_a1 : WT Tryd.prog 64 a1) (hg : (true) = true) : ansV Tryd.prog (mkΓ []) 1000 Tryd.f33 [] [.g a0 64, .g a1 64] [] = some (.a (.b (sameB a0 a1)), .none, true) := by
  have hz : a0.size = 2 := by rw [h_a0.layLen]; kernel_rfl
  have hy : a1.size = 2 := by rw [h_a1.layLen]; kernel_rfl
  refine (laws_eqFind_ans 1000 a0 a1).trans ?_
  cases hb : sameB a0 a1
  · have hne := sameB_false.1 hb
    cases h0 : (num a0 0 != num a1 0)
    · skip
      cases h1 : (num a0 1 != num a1 1)
      · skip
        exfalso
        refine hne (arr_ext fun i => ?_)
        by_cases c0 : i = 0
        · subst c0
          rw [(h_a0.int (k := .i8) (o := 0) (by kernel_rfl)).1, (h_a1.int (k := .i8) (o := 0) (by kernel_rfl)).1, num_eq h0]
        by_cases c1 : i = 1
        · subst c1
          rw [(h_a0.int (k := .i8) (o := 1) (by kernel_rfl)).1, (h_a1.int (k := .i8) (o := 1) (by kernel_rfl)).1, num_eq h1]
        rw [Array.getElem?_eq_none (by omega), Array.getElem?_eq_none (by omega)]
      · rfl
    · rfl
  · rw [sameB_iff.1 hb]
    simp only [bne_self_eq_false, cond_false, sameB_self, Bool.not_true]
noncomputable def laws_eqFind_con : Con := fun args h => match args, h with
  | [.g a0 64, .g a1 64], [] => some (.a (.b (sameB a0 a1)), .none, true)
  | _, _ => none
theorem laws_eqFind_enter : ∀ args w, (callFunc 33 args).run Tryd.prog w = .ok (.enter 33 args) w := enter_ok (fn := Tryd.f33) (by kernel_rfl) (by kernel_rfl) (by kernel_rfl)
theorem laws_eqFind_ok : ConOk Tryd.prog 33 laws_eqFind_con := (ans_ok (N := 1000) (by kernel_rfl) mkΓ_nil (fn := Tryd.f33) (by kernel_rfl) (by kernel_rfl) []).of (by
  intro ρ h w args vals r e hA hH hr
  unfold laws_eqFind_con at hr
  split at hr
  · rename_i a0 a1
    obtain ⟨rfl, hg⟩ := Prod.mk.inj (Option.some.inj hr)
    obtain ⟨rfl, hg2⟩ := Prod.mk.inj hg
    exact laws_eqFind_main a0 a1 (hA.wt 0 rfl) (hA.wt 1 rfl) hg2
  · cases hr)

noncomputable def laws_eqFindS_t0 (b_a0 : Option (Option Addr)) (n_a0 : Nat) (a0 : Array Value) (b_a1 : Option (Option Addr)) (n_a1 : Nat) (a1 : Array Value) : St := (⟨.a (.l 0) :: .a (.l 1) :: .a (.u) :: .a (.u) :: .a (.b (false)) :: .a (.i .i64 (0 : Int)) :: .a (.l 0) :: .a (.i .i64 (n_a0 : Int)) :: .a (.l 1) :: .a (.i .i64 (n_a1 : Int)) :: .a (.b (((n_a0 : Int) != (n_a1 : Int)))) :: us 16 ([]), [.sl (.came b_a0) n_a0 a0 64, .sl (.came b_a1) n_a1 a1 64], []⟩ : St)

noncomputable def laws_eqFindS_e0 : Bool × Int → LS
  | (y0_4, y0_5) => ([.a (.b (y0_4)), .a (.i .i64 (y0_5))], [])

noncomputable def laws_eqFindS_x0 : (Stp (Bool × Int) (Bool × Int)) → Exit × LS
  | .more t => (.ret, laws_eqFindS_e0 t)
  | .done t => ((.exit 0), laws_eqFindS_e0 t)

noncomputable def laws_eqFindS_g0 (P : Program) (b_a0 : Option (Option Addr)) (n_a0 : Nat) (a0 : Array Value) (b_a1 : Option (Option Addr)) (n_a1 : Nat) (a1 : Array Value) : Bool × Int → Option (Stp (Bool × Int) (Stp (Bool × Int) (Bool × Int)))
  | (y0_4, y0_5) => bif decide (y0_5 < (n_a0 : Int)) then (bif (decide (0 ≤ y0_5) && decide (y0_5 < (n_a0 : Int))) then (bif (decide (0 ≤ y0_5) && decide (y0_5 < (n_a1 : Int))) then (bif (!(sameB (a0.extract ((y0_5).toNat * 2) (((y0_5).toNat * 2) + 2)) (a1.extract ((y0_5).toNat * 2) (((y0_5).toNat * 2) + 2)))) then (some (.done (.more (false, y0_5))))
          else (some (.more (y0_4, (IntKind.i64.wrap (y0_5 + (1 : Int)))))))
        else (none))
      else (none))
    else (some (.done (.done (y0_4, y0_5))))

theorem laws_eqFindS_s0 (N : Nat) (b_a0 : Option (Option Addr)) (n_a0 : Nat) (a0 : Array Value) (b_a1 : Option (Option Addr)) (n_a1 : Nat) (a1 : Array Value) : ∀ t : Bool × Int, stepV Tryd.prog (mkΓ [(33, con laws_eqFind_con)]) N (cAt (codeOf Tryd.f12) [1, 1, 0, 1, 0, 0]) (pAt (mkPlan (codeOf Tryd.f12) [([4, 5], [])]).1 [1, 1, 0, 1, 0]) [4, 5] [] (laws_eqFindS_t0 b_a0 n_a0 a0 b_a1 n_a1 a1) (laws_eqFindS_e0 t) = mapS laws_eqFindS_e0 laws_eqFindS_x0 (laws_eqFindS_g0 Tryd.prog b_a0 n_a0 a0 b_a1 n_a1 a1 t) := by
  rintro ⟨y0_4, y0_5⟩
  refine Eq.trans (b := (bif decide (y0_5 < (n_a0 : Int)) then (bif (decide (0 ≤ y0_5) && decide (y0_5 < (n_a0 : Int))) then (bif (decide (0 ≤ y0_5) && decide (y0_5 < (n_a1 : Int))) then (bif (!(sameB (a0.extract ((y0_5).toNat * 2) (((y0_5).toNat * 2) + 2)) (a1.extract ((y0_5).toNat * 2) (((y0_5).toNat * 2) + 2)))) then (some (.done (.ret, ([.a (.b (false)), .a (.i .i64 (y0_5))], []))))
          else (some (.more ([.a (.b (y0_4)), .a (.i .i64 (IntKind.i64.wrap (y0_5 + (1 : Int))))], []))))
        else (none))
      else (none))
    else (some (.done ((.exit 0), ([.a (.b (y0_4)), .a (.i .i64 (y0_5))], [])))))) (by kernel_rfl) ?_
  simp only [laws_eqFindS_g0, mapS_cond, mapS_more, mapS_done, mapS_none, laws_eqFindS_e0, laws_eqFindS_x0]

noncomputable def laws_eqFindS_k0_0 (P : Program) (N : Nat) (b_a0 : Option (Option Addr)) (n_a0 : Nat) (a0 : Array Value) (b_a1 : Option (Option Addr)) (n_a1 : Nat) (a1 : Array Value) (z0_4 : Bool) (z0_5 : Int) : Option (SV × Eff × Bool) := some (.a (.b (z0_4)), .none, true)

theorem laws_eqFindS_k0_0_eq (N : Nat) (b_a0 : Option (Option Addr)) (n_a0 : Nat) (a0 : Array Value) (b_a1 : Option (Option Addr)) (n_a1 : Nat) (a1 : Array Value) (z0_4 : Bool) (z0_5 : Int) : (kBlock 0 (kSeq (veC Tryd.prog (mkΓ [(33, con laws_eqFind_con)]) N (cAt (codeOf Tryd.f12) [1, 1, 1]) (pAt (mkPlan (codeOf Tryd.f12) [([4, 5], [])]).1 [1, 1, 1]) (SV × Eff × Bool)) (finK Tryd.prog [.sl (.came b_a0) n_a0 a0 64, .sl (.came b_a1) n_a1 a1 64] [.tmp 4]))) .ret (left (writes (cAt (codeOf Tryd.f12) [1, 1, 0, 1, 0, 0])) [4, 5] [] (laws_eqFindS_t0 b_a0 n_a0 a0 b_a1 n_a1 a1) ([.a (.b (z0_4)), .a (.i .i64 (z0_5))], [])) = laws_eqFindS_k0_0 Tryd.prog N b_a0 n_a0 a0 b_a1 n_a1 a1 z0_4 z0_5 := by
  refine Eq.trans (b := (some (.a (.b (z0_4)), .none, true))) (by kernel_rfl) ?_
  rfl

noncomputable def laws_eqFindS_k0_1 (P : Program) (N : Nat) (b_a0 : Option (Option Addr)) (n_a0 : Nat) (a0 : Array Value) (b_a1 : Option (Option Addr)) (n_a1 : Nat) (a1 : Array Value) (z0_4 : Bool) (z0_5 : Int) : Option (SV × Eff × Bool) := some (.a (.b (true)), .none, true)

theorem laws_eqFindS_k0_1_eq (N : Nat) (b_a0 : Option (Option Addr)) (n_a0 : Nat) (a0 : Array Value) (b_a1 : Option (Option Addr)) (n_a1 : Nat) (a1 : Array Value) (z0_4 : Bool) (z0_5 : Int) : (kBlock 0 (kSeq (veC Tryd.prog (mkΓ [(33, con laws_eqFind_con)]) N (cAt (codeOf Tryd.f12) [1, 1, 1]) (pAt (mkPlan (codeOf Tryd.f12) [([4, 5], [])]).1 [1, 1, 1]) (SV × Eff × Bool)) (finK Tryd.prog [.sl (.came b_a0) n_a0 a0 64, .sl (.came b_a1) n_a1 a1 64] [.tmp 4]))) (.exit 0) (left (writes (cAt (codeOf Tryd.f12) [1, 1, 0, 1, 0, 0])) [4, 5] [] (laws_eqFindS_t0 b_a0 n_a0 a0 b_a1 n_a1 a1) ([.a (.b (z0_4)), .a (.i .i64 (z0_5))], [])) = laws_eqFindS_k0_1 Tryd.prog N b_a0 n_a0 a0 b_a1 n_a1 a1 z0_4 z0_5 := by
  refine Eq.trans (b := (some (.a (.b (true)), .none, true))) (by kernel_rfl) ?_
  rfl

theorem laws_eqFindS_n0 (N : Nat) (b_a0 : Option (Option Addr)) (n_a0 : Nat) (a0 : Array Value) (b_a1 : Option (Option Addr)) (n_a1 : Nat) (a1 : Array Value) : bindX (iterO (stepV Tryd.prog (mkΓ [(33, con laws_eqFind_con)]) N (cAt (codeOf Tryd.f12) [1, 1, 0, 1, 0, 0]) (pAt (mkPlan (codeOf Tryd.f12) [([4, 5], [])]).1 [1, 1, 0, 1, 0]) [4, 5] [] (laws_eqFindS_t0 b_a0 n_a0 a0 b_a1 n_a1 a1)) N ([.a (.b (false)), .a (.i .i64 (0 : Int))], [])) (fun e s => (kBlock 0 (kSeq (veC Tryd.prog (mkΓ [(33, con laws_eqFind_con)]) N (cAt (codeOf Tryd.f12) [1, 1, 1]) (pAt (mkPlan (codeOf Tryd.f12) [([4, 5], [])]).1 [1, 1, 1]) (SV × Eff × Bool)) (finK Tryd.prog [.sl (.came b_a0) n_a0 a0 64, .sl (.came b_a1) n_a1 a1 64] [.tmp 4]))) e (left (writes (cAt (codeOf Tryd.f12) [1, 1, 0, 1, 0, 0])) [4, 5] [] (laws_eqFindS_t0 b_a0 n_a0 a0 b_a1 n_a1 a1) s)) = nodeX (iterO (laws_eqFindS_g0 Tryd.prog b_a0 n_a0 a0 b_a1 n_a1 a1) N (false, (0 : Int))) (st2 (fun x => laws_eqFindS_k0_0 Tryd.prog N b_a0 n_a0 a0 b_a1 n_a1 a1 x.1 x.2) (fun x => laws_eqFindS_k0_1 Tryd.prog N b_a0 n_a0 a0 b_a1 n_a1 a1 x.1 x.2)) := by
  refine loop_node laws_eqFindS_e0 laws_eqFindS_x0 _ _ (laws_eqFindS_s0 N b_a0 n_a0 a0 b_a1 n_a1 a1) N (false, (0 : Int)) _ _ ?_
  intro x
  cases x with
  | more x => exact laws_eqFindS_k0_0_eq N b_a0 n_a0 a0 b_a1 n_a1 a1 x.1 x.2
  | done x => exact laws_eqFindS_k0_1_eq N b_a0 n_a0 a0 b_a1 n_a1 a1 x.1 x.2

theorem laws_eqFindS_ans (N : Nat) (b_a0 : Option (Option Addr)) (n_a0 : Nat) (a0 : Array Value) (b_a1 : Option (Option Addr)) (n_a1 : Nat) (a1 : Array Value) : ansV Tryd.prog (mkΓ [(33, con laws_eqFind_con)]) N Tryd.f12 [([4, 5], [])] [.l 0, .l 1] [.sl (.came b_a0) n_a0 a0 64, .sl (.came b_a1) n_a1 a1 64] = (bif ((n_a0 : Int) != (n_a1 : Int)) then (some (.a (.b (false)), .none, true))
    else (nodeX (iterO (laws_eqFindS_g0 Tryd.prog b_a0 n_a0 a0 b_a1 n_a1 a1) N (false, (0 : Int))) (st2 (fun x => laws_eqFindS_k0_0 Tryd.prog N b_a0 n_a0 a0 b_a1 n_a1 a1 x.1 x.2) (fun x => laws_eqFindS_k0_1 Tryd.prog N b_a0 n_a0 a0 b_a1 n_a1 a1 x.1 x.2)))) := by
  refine Eq.trans (b := (bif ((n_a0 : Int) != (n_a1 : Int)) then (some (.a (.b (false)), .none, true))
    else (bindX (iterO (stepV Tryd.prog (mkΓ [(33, con laws_eqFind_con)]) N (cAt (codeOf Tryd.f12) [1, 1, 0, 1, 0, 0]) (pAt (mkPlan (codeOf Tryd.f12) [([4, 5], [])]).1 [1, 1, 0, 1, 0]) [4, 5] [] (laws_eqFindS_t0 b_a0 n_a0 a0 b_a1 n_a1 a1)) N ([.a (.b (false)), .a (.i .i64 (0 : Int))], [])) (fun e s => (kBlock 0 (kSeq (veC Tryd.prog (mkΓ [(33, con laws_eqFind_con)]) N (cAt (codeOf Tryd.f12) [1, 1, 1]) (pAt (mkPlan (codeOf Tryd.f12) [([4, 5], [])]).1 [1, 1, 1]) (SV × Eff × Bool)) (finK Tryd.prog [.sl (.came b_a0) n_a0 a0 64, .sl (.came b_a1) n_a1 a1 64] [.tmp 4]))) e (left (writes (cAt (codeOf Tryd.f12) [1, 1, 0, 1, 0, 0])) [4, 5] [] (laws_eqFindS_t0 b_a0 n_a0 a0 b_a1 n_a1 a1) s))))) (by kernel_rfl) ?_
  simp only [laws_eqFindS_n0 N b_a0 n_a0 a0 b_a1 n_a1 a1]

theorem laws_eqFindS_main (b_a0 : Option (Option Addr)) (n_a0 : Nat) (a0 : Array Value) (b_a1 : Option (Option Addr)) (n_a1 : Nat) (a1 : Array Value) (h_a0 : a0.size = n_a0 * (lay Tryd.prog 64).length ∧ (∀ k, k < n_a0 → WT Tryd.prog 64 (a0.extract (k * (lay Tryd.prog 64).length) (k * (lay Tryd.prog 64).length + (lay Tryd.prog 64).length))) ∧ n_a0 ≤ 9223372036854775807) (h_a1 : a1.size = n_a1 * (lay Tryd.prog 64).length ∧ (∀ k, k < n_a1 → WT Tryd.prog 64 (a1.extract (k * (lay Tryd.prog 64).length) (k * (lay Tryd.prog 64).length + (lay Tryd.prog 64).length))) ∧ n_a1 ≤ 9223372036854775807) (hg : (true) = true) : ansV Tryd.prog (mkΓ [(33, con laws_eqFind_con)]) 18446744073709551616 Tryd.f12 [([4, 5], [])] [.l 0, .l 1] [.sl (.came b_a0) n_a0 a0 64, .sl (.came b_a1) n_a1 a1 64] = some (.a (.b ((decide (n_a0 = n_a1) && sameB a0 a1))), .none, true) := by
  have hm : (lay Tryd.prog 64).length = 2 := by kernel_rfl
  obtain ⟨s1, s2, s3⟩ := h_a0
  obtain ⟨t1, t2, t3⟩ := h_a1
  rw [hm] at s1 s2 t1 t2
  have hq : (lay Tryd.prog 64)[0]? = some 0 := by kernel_rfl
  refine (laws_eqFindS_ans 18446744073709551616 b_a0 n_a0 a0 b_a1 n_a1 a1).trans ?_
  by_cases hl : n_a0 = n_a1
  case neg =>
    rw [decide_eq_false hl, show ((n_a0 : Int) != (n_a1 : Int)) = true from bne_iff_ne.2 (by omega)]
    rfl
  subst hl
  rw [decide_eq_true rfl, show ((n_a0 : Int) != (n_a0 : Int)) = false from bne_self_eq_false _]
  simp only [cond_false, Bool.true_and]
  have hb : sameB a0 a1 = true ↔ ∀ k, k < n_a0 → (fun k => sameB (a0.extract (k * 2) (k * 2 + 2)) (a1.extract (k * 2) (k * 2 + 2))) k = true := by
    constructor
    · intro h k hk
      rw [sameB_iff.1 h]
      exact sameB_self _
    · intro h
      refine sameB_iff.2 ?_
      exact ext_parts (n := n_a0) (m := 2) (by omega) s1 t1 (fun k hk => sameB_iff.1 (h k hk))
  refine (iter_first (g := laws_eqFindS_g0 Tryd.prog b_a0 n_a0 a0 b_a1 n_a0 a1) (fun k => (false, (k : Int))) (fun k => sameB (a0.extract (k * 2) (k * 2 + 2)) (a1.extract (k * 2) (k * 2 + 2))) n_a0 (N := 18446744073709551616) (xd := .done (false, (n_a0 : Int))) (by omega) (fun k hk hp => by
    have h1 : decide ((k : Int) < (n_a0 : Int)) = true := decide_eq_true (by omega)
    have h0 : decide (0 ≤ (k : Int)) = true := decide_eq_true (by omega)
    have h3 : IntKind.i64.wrap ((k : Int) + 1) = ((k + 1 : Nat) : Int) := by rw [IntWalk.i64_in _ (by omega)]; omega
    have hp' : sameB (a0.extract (k * 2) (k * 2 + 2)) (a1.extract (k * 2) (k * 2 + 2)) = true := hp
    simp only [laws_eqFindS_g0, h1, h0, Bool.and_self, Int.toNat_natCast, cond_true, h3, hp', Bool.not_true, cond_false]) (by
    have h1 : decide ((n_a0 : Int) < (n_a0 : Int)) = false := decide_eq_false (by omega)
    simp only [laws_eqFindS_g0, h1, cond_false]) (sameB a0 a1) hb (some (.a (.b true), .none, true)) (some (.a (.b false), .none, true)) rfl (fun k hk hp => by
    refine ⟨.more (false, (k : Int)), ?_, rfl⟩
    have h1 : decide ((k : Int) < (n_a0 : Int)) = true := decide_eq_true (by omega)
    have h0 : decide (0 ≤ (k : Int)) = true := decide_eq_true (by omega)
    have hp' : sameB (a0.extract (k * 2) (k * 2 + 2)) (a1.extract (k * 2) (k * 2 + 2)) = false := hp
    simp only [laws_eqFindS_g0, h1, h0, Bool.and_self, Int.toNat_natCast, cond_true, hp', Bool.not_false])).trans ?_
  cases sameB a0 a1 <;> rfl
noncomputable def laws_eqFindS_con : Con := fun args h => match args, h with
  | [.l 0, .l 1], [.sl (.came b_a0) n_a0 a0 64, .sl (.came b_a1) n_a1 a1 64] => some (.a (.b ((decide (n_a0 = n_a1) && sameB a0 a1))), .none, true)
  | _, _ => none
theorem laws_eqFindS_enter : ∀ args w, (callFunc 12 args).run Tryd.prog w = .ok (.enter 12 args) w := enter_ok (fn := Tryd.f12) (by kernel_rfl) (by kernel_rfl) (by kernel_rfl)
theorem laws_eqFindS_ok : ConOk Tryd.prog 12 laws_eqFindS_con := (ans_ok (N := 18446744073709551616) (by kernel_rfl) (mkΓ_cons (con_ok laws_eqFind_ok) laws_eqFind_enter mkΓ_nil) (fn := Tryd.f12) (by kernel_rfl) (by kernel_rfl) [([4, 5], [])]).of (by
  intro ρ h w args vals r e hA hH hr
  unfold laws_eqFindS_con at hr
  split at hr
  · rename_i b_a0 n_a0 a0 b_a1 n_a1 a1
    obtain ⟨rfl, hg⟩ := Prod.mk.inj (Option.some.inj hr)
    obtain ⟨rfl, hg2⟩ := Prod.mk.inj hg
    exact laws_eqFindS_main b_a0 n_a0 a0 b_a1 n_a1 a1 (hH.slw 0 rfl) (hH.slw 1 rfl) hg2
  · cases hr)

theorem laws_szFindS_ans (N : Nat) (a1 : Int) (b_a0 : Option (Option Addr)) (n_a0 : Nat) (a0 : Array Value) : ansV Tryd.prog (mkΓ []) N Tryd.f7 [] [.l 0, .i .i64 (a1)] [.sl (.came b_a0) n_a0 a0 67] = (bif decide ((IntKind.i64.wrap (a1 - (n_a0 : Int))) < (0 : Int)) then (some (.a (.i .i64 (-1 : Int)), .none, true))
    else (some (.a (.i .i64 (IntKind.i64.wrap (a1 - (n_a0 : Int)))), .none, true))) := by kernel_rfl

noncomputable def laws_szFindS_v0 (a1 : Int) (b_a0 : Option (Option Addr)) (n_a0 : Nat) (a0 : Array Value) : Int := (bif decide ((IntKind.i64.wrap (a1 - (n_a0 : Int))) < (0 : Int)) then (-1 : Int) else (IntKind.i64.wrap (a1 - (n_a0 : Int))))

theorem laws_szFindS_main (a1 : Int) (b_a0 : Option (Option Addr)) (n_a0 : Nat) (a0 : Array Value) (h_a1 : IntKind.i64.min ≤ a1 ∧ a1 ≤ IntKind.i64.max) (h_a0 : a0.size = n_a0 * (lay Tryd.prog 67).length ∧ (∀ k, k < n_a0 → WT Tryd.prog 67 (a0.extract (k * (lay Tryd.prog 67).length) (k * (lay Tryd.prog 67).length + (lay Tryd.prog 67).length))) ∧ n_a0 ≤ 9223372036854775807) (hg : (true) = true) : ansV Tryd.prog (mkΓ []) 1000 Tryd.f7 [] [.l 0, .i .i64 (a1)] [.sl (.came b_a0) n_a0 a0 67] = some (.a (.i .i64 (laws_szFindS_v0 a1 b_a0 n_a0 a0)), .none, true) := by
  refine (laws_szFindS_ans 1000 a1 b_a0 n_a0 a0).trans ?_
  unfold laws_szFindS_v0
  revert hg
  generalize (decide ((IntKind.i64.wrap (a1 - (n_a0 : Int))) < (0 : Int))) = b2
  intro hg
  cases b2
  · skip
    first | (simp only [cond_true, cond_false, Bool.and_true, Bool.true_and, Bool.and_false, Bool.false_and]; done) | rfl | exact (nomatch (hg : false = true))
  · skip
    first | (simp only [cond_true, cond_false, Bool.and_true, Bool.true_and, Bool.and_false, Bool.false_and]; done) | rfl | exact (nomatch (hg : false = true))
noncomputable def laws_szFindS_con : Con := fun args h => match args, h with
  | [.l 0, .i .i64 a1], [.sl (.came b_a0) n_a0 a0 67] => some (.a (.i .i64 (laws_szFindS_v0 a1 b_a0 n_a0 a0)), .none, true)
  | _, _ => none
theorem laws_szFindS_enter : ∀ args w, (callFunc 7 args).run Tryd.prog w = .ok (.enter 7 args) w := enter_ok (fn := Tryd.f7) (by kernel_rfl) (by kernel_rfl) (by kernel_rfl)
theorem laws_szFindS_ok : ConOk Tryd.prog 7 laws_szFindS_con := (ans_ok (N := 1000) (by kernel_rfl) mkΓ_nil (fn := Tryd.f7) (by kernel_rfl) (by kernel_rfl) []).of (by
  intro ρ h w args vals r e hA hH hr
  unfold laws_szFindS_con at hr
  split at hr
  · rename_i a1 b_a0 n_a0 a0
    obtain ⟨rfl, hg⟩ := Prod.mk.inj (Option.some.inj hr)
    obtain ⟨rfl, hg2⟩ := Prod.mk.inj hg
    exact laws_szFindS_main a1 b_a0 n_a0 a0 (hA.rng 1 rfl) (hH.slw 0 rfl) hg2
  · cases hr)

theorem spec_l03Hour_ans (N : Nat) (a0 : Int) : ansV Tryd.prog (mkΓ [(27, con spec_l00In_con)]) N Tryd.f82 [] [.i .i64 (a0)] [] = (some (.a (.b ((spec_l00In_v0 a0 (1 : Int) (14 : Int)))), .none, true)) := by kernel_rfl



theorem spec_l03Hour_main (a0 : Int) (h_a0 : IntKind.i64.min ≤ a0 ∧ a0 ≤ IntKind.i64.max) (hg : (true) = true) : ansV Tryd.prog (mkΓ [(27, con spec_l00In_con)]) 1000 Tryd.f82 [] [.i .i64 (a0)] [] = some (.a (.b ((spec_l00In_v0 a0 (1 : Int) (14 : Int)))), .none, true) := by
  refine (spec_l03Hour_ans 1000 a0).trans ?_
  rfl
noncomputable def spec_l03Hour_con : Con := fun args h => match args, h with
  | [.i .i64 a0], [] => some (.a (.b ((spec_l00In_v0 a0 (1 : Int) (14 : Int)))), .none, true)
  | _, _ => none
theorem spec_l03Hour_enter : ∀ args w, (callFunc 82 args).run Tryd.prog w = .ok (.enter 82 args) w := enter_ok (fn := Tryd.f82) (by kernel_rfl) (by kernel_rfl) (by kernel_rfl)
theorem spec_l03Hour_ok : ConOk Tryd.prog 82 spec_l03Hour_con := (ans_ok (N := 1000) (by kernel_rfl) (mkΓ_cons (con_ok spec_l00In_ok) spec_l00In_enter mkΓ_nil) (fn := Tryd.f82) (by kernel_rfl) (by kernel_rfl) []).of (by
  intro ρ h w args vals r e hA hH hr
  unfold spec_l03Hour_con at hr
  split at hr
  · rename_i a0
    obtain ⟨rfl, hg⟩ := Prod.mk.inj (Option.some.inj hr)
    obtain ⟨rfl, hg2⟩ := Prod.mk.inj hg
    exact spec_l03Hour_main a0 (hA.rng 0 rfl) hg2
  · cases hr)

theorem impl_hasHour_ans (N : Nat) (a0 : Int) : ansV Tryd.prog (mkΓ []) N Tryd.f86 [] [.i .i64 (a0)] [] = (bif decide (a0 ≥ (1 : Int)) then (some (.a (.b (decide (a0 ≤ (14 : Int)))), .none, true))
    else (some (.a (.b (false)), .none, true))) := by kernel_rfl

noncomputable def impl_hasHour_v0 (a0 : Int) : Bool := (bif decide (a0 ≥ (1 : Int)) then decide (a0 ≤ (14 : Int)) else false)

theorem impl_hasHour_main (a0 : Int) (h_a0 : IntKind.i64.min ≤ a0 ∧ a0 ≤ IntKind.i64.max) (hg : (true) = true) : ansV Tryd.prog (mkΓ []) 1000 Tryd.f86 [] [.i .i64 (a0)] [] = some (.a (.b ((impl_hasHour_v0 a0))), .none, true) := by
  refine (impl_hasHour_ans 1000 a0).trans ?_
  unfold impl_hasHour_v0
  revert hg
  generalize (decide (a0 ≥ (1 : Int))) = b2
  intro hg
  cases b2
  · skip
    first | (simp only [cond_true, cond_false, Bool.and_true, Bool.true_and, Bool.and_false, Bool.false_and]; done) | rfl | exact (nomatch (hg : false = true))
  · skip
    first | (simp only [cond_true, cond_false, Bool.and_true, Bool.true_and, Bool.and_false, Bool.false_and]; done) | rfl | exact (nomatch (hg : false = true))
noncomputable def impl_hasHour_con : Con := fun args h => match args, h with
  | [.i .i64 a0], [] => some (.a (.b ((impl_hasHour_v0 a0))), .none, true)
  | _, _ => none
theorem impl_hasHour_enter : ∀ args w, (callFunc 86 args).run Tryd.prog w = .ok (.enter 86 args) w := enter_ok (fn := Tryd.f86) (by kernel_rfl) (by kernel_rfl) (by kernel_rfl)
theorem impl_hasHour_ok : ConOk Tryd.prog 86 impl_hasHour_con := (ans_ok (N := 1000) (by kernel_rfl) mkΓ_nil (fn := Tryd.f86) (by kernel_rfl) (by kernel_rfl) []).of (by
  intro ρ h w args vals r e hA hH hr
  unfold impl_hasHour_con at hr
  split at hr
  · rename_i a0
    obtain ⟨rfl, hg⟩ := Prod.mk.inj (Option.some.inj hr)
    obtain ⟨rfl, hg2⟩ := Prod.mk.inj hg
    exact impl_hasHour_main a0 (hA.rng 0 rfl) hg2
  · cases hr)


noncomputable def bcF (a1 : Array Value) (k : Nat) : Int := IntKind.i64.wrap (num a1 (k * 2 + 0))
noncomputable def hcF (a1 : Array Value) (k : Nat) : Int := IntKind.i64.wrap (num a1 (k * 2 + 1))
noncomputable def fndB (S a1 : Array Value) (k : Nat) : Bool := spec_l01Is_v0 (bcF a1 k) S && (spec_l01Dry_v0 (bcF a1 k) S && spec_l00In_v0 (hcF a1 k) 1 14)
noncomputable def fndAll (S : Array Value) (n : Nat) (a1 : Array Value) : Bool := (List.range n).all (fndB S a1)
theorem fndAll_iff (S : Array Value) (n : Nat) (a1 : Array Value) : fndAll S n a1 = true ↔ ∀ k, k < n → fndB S a1 k = true := by
  unfold fndAll
  rw [List.all_eq_true]
  exact ⟨fun h k hk => h k (List.mem_range.2 hk), fun h k hk => h k (List.mem_range.1 hk)⟩
theorem fnd_ext (a1 : Array Value) (k : Nat) : IntKind.i64.wrap (num (a1.extract (k * 2) (k * 2 + 2)) 0) = bcF a1 k ∧ IntKind.i64.wrap (num (a1.extract (k * 2) (k * 2 + 2)) 1) = hcF a1 k := by
  rw [ext_num (by omega), ext_num (by omega)]; exact ⟨rfl, rfl⟩
theorem hour_eq (n : Int) : impl_hasHour_v0 n = spec_l00In_v0 n 1 14 := rfl

noncomputable def spec_l03Finds_G : Cons := (mkΓ [(60, con spec_l01Is_con), (61, con spec_l01Dry_con), (82, con spec_l03Hour_con)])
noncomputable def spec_l03Finds_t0 (a0 : Array Value) (b_a1 : Option (Option Addr)) (n_a1 : Nat) (a1 : Array Value) : St := (⟨.a (.w 0) :: .a (.l 1) :: .a (.u) :: .a (.u) :: .a (.b (false)) :: .a (.i .i64 (0 : Int)) :: us 36 ([]), [.row a0 38, .sl (.came b_a1) n_a1 a1 64], []⟩ : St)

noncomputable def spec_l03Finds_e0 : Bool × Int → LS
  | (y0_4, y0_5) => ([.a (.b (y0_4)), .a (.i .i64 (y0_5))], [])

noncomputable def spec_l03Finds_x0 : (Stp (Bool × Int) (Bool × Int)) → Exit × LS
  | .more t => (.ret, spec_l03Finds_e0 t)
  | .done t => ((.exit 0), spec_l03Finds_e0 t)

noncomputable def spec_l03Finds_g0 (P : Program) (a0 : Array Value) (b_a1 : Option (Option Addr)) (n_a1 : Nat) (a1 : Array Value) : Bool × Int → Option (Stp (Bool × Int) (Stp (Bool × Int) (Bool × Int)))
  | (y0_4, y0_5) => bif decide (y0_5 < (n_a1 : Int)) then (bif (decide (0 ≤ y0_5) && decide (y0_5 < (n_a1 : Int))) then (bif (!((spec_l01Is_v0 (IntKind.i64.wrap (num a1 (((y0_5).toNat * 2) + 0))) a0))) then (some (.done (.more (false, y0_5))))
        else (bif decide (0 ≤ (IntKind.u64.wrap (IntKind.i64.wrap (num a1 (((y0_5).toNat * 2) + 0))))) then (bif (!((spec_l01Dry_v0 (IntKind.i64.wrap (num a1 (((y0_5).toNat * 2) + 0))) a0))) then (some (.done (.more (false, y0_5))))
            else (bif (decide (0 ≤ y0_5) && decide (y0_5 < (n_a1 : Int))) then (bif (!((spec_l00In_v0 (IntKind.i64.wrap (num a1 (((y0_5).toNat * 2) + 1))) (1 : Int) (14 : Int)))) then (some (.done (.more (false, y0_5))))
                else (some (.more (y0_4, (IntKind.i64.wrap (y0_5 + (1 : Int)))))))
              else (none)))
          else (none)))
      else (none))
    else (some (.done (.done (y0_4, y0_5))))

theorem spec_l03Finds_s0 (N : Nat) (a0 : Array Value) (b_a1 : Option (Option Addr)) (n_a1 : Nat) (a1 : Array Value) : ∀ t : Bool × Int, stepV Tryd.prog spec_l03Finds_G N (cAt (codeOf Tryd.f53) [1, 0, 1, 0, 0]) (pAt (mkPlan (codeOf Tryd.f53) [([4, 5], [])]).1 [1, 0, 1, 0]) [4, 5] [] (spec_l03Finds_t0 a0 b_a1 n_a1 a1) (spec_l03Finds_e0 t) = mapS spec_l03Finds_e0 spec_l03Finds_x0 (spec_l03Finds_g0 Tryd.prog a0 b_a1 n_a1 a1 t) := by
  rintro ⟨y0_4, y0_5⟩
  refine Eq.trans (b := (bif decide (y0_5 < (n_a1 : Int)) then (bif (decide (0 ≤ y0_5) && decide (y0_5 < (n_a1 : Int))) then (bif (!((spec_l01Is_v0 (IntKind.i64.wrap (num a1 (((y0_5).toNat * 2) + 0))) a0))) then (some (.done (.ret, ([.a (.b (false)), .a (.i .i64 (y0_5))], []))))
        else (bif decide (0 ≤ (IntKind.u64.wrap (IntKind.i64.wrap (num a1 (((y0_5).toNat * 2) + 0))))) then (bif (!((spec_l01Dry_v0 (IntKind.i64.wrap (num a1 (((y0_5).toNat * 2) + 0))) a0))) then (some (.done (.ret, ([.a (.b (false)), .a (.i .i64 (y0_5))], []))))
            else (bif (decide (0 ≤ y0_5) && decide (y0_5 < (n_a1 : Int))) then (bif (!((spec_l00In_v0 (IntKind.i64.wrap (num a1 (((y0_5).toNat * 2) + 1))) (1 : Int) (14 : Int)))) then (some (.done (.ret, ([.a (.b (false)), .a (.i .i64 (y0_5))], []))))
                else (some (.more ([.a (.b (y0_4)), .a (.i .i64 (IntKind.i64.wrap (y0_5 + (1 : Int))))], []))))
              else (none)))
          else (none)))
      else (none))
    else (some (.done ((.exit 0), ([.a (.b (y0_4)), .a (.i .i64 (y0_5))], [])))))) (by kernel_rfl) ?_
  simp only [spec_l03Finds_g0, mapS_cond, mapS_more, mapS_done, mapS_none, spec_l03Finds_e0, spec_l03Finds_x0]

noncomputable def spec_l03Finds_k0_0 (P : Program) (N : Nat) (a0 : Array Value) (b_a1 : Option (Option Addr)) (n_a1 : Nat) (a1 : Array Value) (z0_4 : Bool) (z0_5 : Int) : Option (SV × Eff × Bool) := some (.a (.b (z0_4)), .none, true)

theorem spec_l03Finds_k0_0_eq (N : Nat) (a0 : Array Value) (b_a1 : Option (Option Addr)) (n_a1 : Nat) (a1 : Array Value) (z0_4 : Bool) (z0_5 : Int) : (kBlock 0 (kSeq (veC Tryd.prog spec_l03Finds_G N (cAt (codeOf Tryd.f53) [1, 1]) (pAt (mkPlan (codeOf Tryd.f53) [([4, 5], [])]).1 [1, 1]) (SV × Eff × Bool)) (finK Tryd.prog [.row a0 38, .sl (.came b_a1) n_a1 a1 64] [.tmp 4]))) .ret (left (writes (cAt (codeOf Tryd.f53) [1, 0, 1, 0, 0])) [4, 5] [] (spec_l03Finds_t0 a0 b_a1 n_a1 a1) ([.a (.b (z0_4)), .a (.i .i64 (z0_5))], [])) = spec_l03Finds_k0_0 Tryd.prog N a0 b_a1 n_a1 a1 z0_4 z0_5 := by
  refine Eq.trans (b := (some (.a (.b (z0_4)), .none, true))) (by kernel_rfl) ?_
  rfl

noncomputable def spec_l03Finds_k0_1 (P : Program) (N : Nat) (a0 : Array Value) (b_a1 : Option (Option Addr)) (n_a1 : Nat) (a1 : Array Value) (z0_4 : Bool) (z0_5 : Int) : Option (SV × Eff × Bool) := some (.a (.b (decide ((n_a1 : Int) ≤ (60 : Int)))), .none, true)

theorem spec_l03Finds_k0_1_eq (N : Nat) (a0 : Array Value) (b_a1 : Option (Option Addr)) (n_a1 : Nat) (a1 : Array Value) (z0_4 : Bool) (z0_5 : Int) : (kBlock 0 (kSeq (veC Tryd.prog spec_l03Finds_G N (cAt (codeOf Tryd.f53) [1, 1]) (pAt (mkPlan (codeOf Tryd.f53) [([4, 5], [])]).1 [1, 1]) (SV × Eff × Bool)) (finK Tryd.prog [.row a0 38, .sl (.came b_a1) n_a1 a1 64] [.tmp 4]))) (.exit 0) (left (writes (cAt (codeOf Tryd.f53) [1, 0, 1, 0, 0])) [4, 5] [] (spec_l03Finds_t0 a0 b_a1 n_a1 a1) ([.a (.b (z0_4)), .a (.i .i64 (z0_5))], [])) = spec_l03Finds_k0_1 Tryd.prog N a0 b_a1 n_a1 a1 z0_4 z0_5 := by
  refine Eq.trans (b := (some (.a (.b (decide ((n_a1 : Int) ≤ (60 : Int)))), .none, true))) (by kernel_rfl) ?_
  rfl

theorem spec_l03Finds_n0 (N : Nat) (a0 : Array Value) (b_a1 : Option (Option Addr)) (n_a1 : Nat) (a1 : Array Value) : bindX (iterO (stepV Tryd.prog spec_l03Finds_G N (cAt (codeOf Tryd.f53) [1, 0, 1, 0, 0]) (pAt (mkPlan (codeOf Tryd.f53) [([4, 5], [])]).1 [1, 0, 1, 0]) [4, 5] [] (spec_l03Finds_t0 a0 b_a1 n_a1 a1)) N ([.a (.b (false)), .a (.i .i64 (0 : Int))], [])) (fun e s => (kBlock 0 (kSeq (veC Tryd.prog spec_l03Finds_G N (cAt (codeOf Tryd.f53) [1, 1]) (pAt (mkPlan (codeOf Tryd.f53) [([4, 5], [])]).1 [1, 1]) (SV × Eff × Bool)) (finK Tryd.prog [.row a0 38, .sl (.came b_a1) n_a1 a1 64] [.tmp 4]))) e (left (writes (cAt (codeOf Tryd.f53) [1, 0, 1, 0, 0])) [4, 5] [] (spec_l03Finds_t0 a0 b_a1 n_a1 a1) s)) = nodeX (iterO (spec_l03Finds_g0 Tryd.prog a0 b_a1 n_a1 a1) N (false, (0 : Int))) (st2 (fun x => spec_l03Finds_k0_0 Tryd.prog N a0 b_a1 n_a1 a1 x.1 x.2) (fun x => spec_l03Finds_k0_1 Tryd.prog N a0 b_a1 n_a1 a1 x.1 x.2)) := by
  refine loop_node spec_l03Finds_e0 spec_l03Finds_x0 _ _ (spec_l03Finds_s0 N a0 b_a1 n_a1 a1) N (false, (0 : Int)) _ _ ?_
  intro x
  cases x with
  | more x => exact spec_l03Finds_k0_0_eq N a0 b_a1 n_a1 a1 x.1 x.2
  | done x => exact spec_l03Finds_k0_1_eq N a0 b_a1 n_a1 a1 x.1 x.2

theorem spec_l03Finds_ans (N : Nat) (a0 : Array Value) (b_a1 : Option (Option Addr)) (n_a1 : Nat) (a1 : Array Value) : ansV Tryd.prog spec_l03Finds_G N Tryd.f53 [([4, 5], [])] [.w 0, .l 1] [.row a0 38, .sl (.came b_a1) n_a1 a1 64] = (nodeX (iterO (spec_l03Finds_g0 Tryd.prog a0 b_a1 n_a1 a1) N (false, (0 : Int))) (st2 (fun x => spec_l03Finds_k0_0 Tryd.prog N a0 b_a1 n_a1 a1 x.1 x.2) (fun x => spec_l03Finds_k0_1 Tryd.prog N a0 b_a1 n_a1 a1 x.1 x.2))) := by
  refine Eq.trans (b := (bindX (iterO (stepV Tryd.prog spec_l03Finds_G N (cAt (codeOf Tryd.f53) [1, 0, 1, 0, 0]) (pAt (mkPlan (codeOf Tryd.f53) [([4, 5], [])]).1 [1, 0, 1, 0]) [4, 5] [] (spec_l03Finds_t0 a0 b_a1 n_a1 a1)) N ([.a (.b (false)), .a (.i .i64 (0 : Int))], [])) (fun e s => (kBlock 0 (kSeq (veC Tryd.prog spec_l03Finds_G N (cAt (codeOf Tryd.f53) [1, 1]) (pAt (mkPlan (codeOf Tryd.f53) [([4, 5], [])]).1 [1, 1]) (SV × Eff × Bool)) (finK Tryd.prog [.row a0 38, .sl (.came b_a1) n_a1 a1 64] [.tmp 4]))) e (left (writes (cAt (codeOf Tryd.f53) [1, 0, 1, 0, 0])) [4, 5] [] (spec_l03Finds_t0 a0 b_a1 n_a1 a1) s)))) (by kernel_rfl) ?_
  simp only [spec_l03Finds_n0 N a0 b_a1 n_a1 a1]

theorem spec_l03Finds_main (a0 : Array Value) (b_a1 : Option (Option Addr)) (n_a1 : Nat) (a1 : Array Value) (h_a0 : WT Tryd.prog 38 a0) (h_a1 : a1.size = n_a1 * (lay Tryd.prog 64).length ∧ (∀ k, k < n_a1 → WT Tryd.prog 64 (a1.extract (k * (lay Tryd.prog 64).length) (k * (lay Tryd.prog 64).length + (lay Tryd.prog 64).length))) ∧ n_a1 ≤ 9223372036854775807) (hg : (true) = true) : ansV Tryd.prog spec_l03Finds_G 18446744073709551616 Tryd.f53 [([4, 5], [])] [.w 0, .l 1] [.row a0 38, .sl (.came b_a1) n_a1 a1 64] = some (.a (.b ((fndAll a0 n_a1 a1 && decide ((n_a1 : Int) ≤ 60)))), .none, true) := by
  have hn := h_a1.2.2
  refine (spec_l03Finds_ans 18446744073709551616 a0 b_a1 n_a1 a1).trans ?_
  refine (iter_first (g := spec_l03Finds_g0 Tryd.prog a0 b_a1 n_a1 a1) (fun k => (false, (k : Int))) (fndB a0 a1) n_a1 (N := 18446744073709551616) (xd := .done (false, (n_a1 : Int))) (by omega) (fun k hk hp => by
    have h1 : decide ((k : Int) < (n_a1 : Int)) = true := decide_eq_true (by omega)
    have h0 : decide (0 ≤ (k : Int)) = true := decide_eq_true (by omega)
    have h3 : IntKind.i64.wrap ((k : Int) + 1) = ((k + 1 : Nat) : Int) := by rw [IntWalk.i64_in _ (by omega)]; omega
    have h4 : decide (0 ≤ IntKind.u64.wrap (bcF a1 k)) = true := decide_eq_true (wrap_in .u64 _).1
    have hb : IntKind.i64.wrap (num a1 (k * 2 + 0)) = bcF a1 k := rfl
    have hc : IntKind.i64.wrap (num a1 (k * 2 + 1)) = hcF a1 k := rfl
    have hp' : fndB a0 a1 k = true := hp
    unfold fndB at hp'
    simp only [Bool.and_eq_true] at hp'
    simp only [spec_l03Finds_g0, h1, h0, h3, Bool.and_self, Int.toNat_natCast, cond_true, cond_false, hb, hc, h4, hp'.1, hp'.2.1, hp'.2.2, Bool.not_true]) (by
    have h1 : decide ((n_a1 : Int) < (n_a1 : Int)) = false := decide_eq_false (by omega)
    simp only [spec_l03Finds_g0, h1, cond_false]) (fndAll a0 n_a1 a1) (fndAll_iff a0 n_a1 a1) (some (.a (.b (decide ((n_a1 : Int) ≤ 60))), .none, true)) (some (.a (.b false), .none, true)) rfl (fun k hk hp => by
    refine ⟨.more (false, (k : Int)), ?_, rfl⟩
    have h1 : decide ((k : Int) < (n_a1 : Int)) = true := decide_eq_true (by omega)
    have h0 : decide (0 ≤ (k : Int)) = true := decide_eq_true (by omega)
    have h3 : IntKind.i64.wrap ((k : Int) + 1) = ((k + 1 : Nat) : Int) := by rw [IntWalk.i64_in _ (by omega)]; omega
    have h4 : decide (0 ≤ IntKind.u64.wrap (bcF a1 k)) = true := decide_eq_true (wrap_in .u64 _).1
    have hb : IntKind.i64.wrap (num a1 (k * 2 + 0)) = bcF a1 k := rfl
    have hc : IntKind.i64.wrap (num a1 (k * 2 + 1)) = hcF a1 k := rfl
    have hp' : fndB a0 a1 k = false := hp
    unfold fndB at hp'
    cases x1 : spec_l01Is_v0 (bcF a1 k) a0
    · simp only [spec_l03Finds_g0, h1, h0, h3, Bool.and_self, Int.toNat_natCast, cond_true, hb, x1, Bool.not_false]
    · cases x2 : spec_l01Dry_v0 (bcF a1 k) a0
      · simp only [spec_l03Finds_g0, h1, h0, h3, Bool.and_self, Int.toNat_natCast, cond_true, cond_false, hb, h4, x1, x2, Bool.not_true, Bool.not_false]
      · rw [x1, x2] at hp'
        simp only [Bool.true_and] at hp'
        simp only [spec_l03Finds_g0, h1, h0, h3, Bool.and_self, Int.toNat_natCast, cond_true, cond_false, hb, hc, h4, x1, x2, hp', Bool.not_true, Bool.not_false])).trans ?_
  cases fndAll a0 n_a1 a1 <;> rfl
noncomputable def spec_l03Finds_con : Con := fun args h => match args, h with
  | [.w 0, .l 1], [.row a0 38, .sl (.came b_a1) n_a1 a1 64] => some (.a (.b ((fndAll a0 n_a1 a1 && decide ((n_a1 : Int) ≤ 60)))), .none, true)
  | _, _ => none
theorem spec_l03Finds_enter : ∀ args w, (callFunc 53 args).run Tryd.prog w = .ok (.enter 53 args) w := enter_ok (fn := Tryd.f53) (by kernel_rfl) (by kernel_rfl) (by kernel_rfl)
theorem spec_l03Finds_ok : ConOk Tryd.prog 53 spec_l03Finds_con := (ans_ok (N := 18446744073709551616) (by kernel_rfl) (mkΓ_cons (con_ok spec_l01Is_ok) spec_l01Is_enter (mkΓ_cons (con_ok spec_l01Dry_ok) spec_l01Dry_enter (mkΓ_cons (con_ok spec_l03Hour_ok) spec_l03Hour_enter mkΓ_nil))) (fn := Tryd.f53) (by kernel_rfl) (by kernel_rfl) [([4, 5], [])]).of (by
  intro ρ h w args vals r e hA hH hr
  unfold spec_l03Finds_con at hr
  split at hr
  · rename_i a0 b_a1 n_a1 a1
    obtain ⟨rfl, hg⟩ := Prod.mk.inj (Option.some.inj hr)
    obtain ⟨rfl, hg2⟩ := Prod.mk.inj hg
    exact spec_l03Finds_main a0 b_a1 n_a1 a1 (hH.wt 0 rfl) (hH.slw 1 rfl) hg2
  · cases hr)

noncomputable def impl_ValidFinds_G : Cons := (mkΓ [(63, con impl_ValidSea_con), (84, con impl_hasCell_con), (85, con impl_isWater_con), (86, con impl_hasHour_con)])
noncomputable def impl_ValidFinds_t0 (a0 : Array Value) (b_a1 : Option (Option Addr)) (n_a1 : Nat) (a1 : Array Value) : St := (⟨.a (.g a0 38) :: .a (.l 0) :: .a (.w 1) :: .a (.u) :: .a (.b (false)) :: us 3 (.a (.g a0 38) :: .a (.b ((okS a0))) :: .a (.b ((!((okS a0))))) :: .a (.b (false)) :: .a (.l 0) :: .a (.i .i64 (n_a1 : Int)) :: .a (.b (decide ((n_a1 : Int) > (60 : Int)))) :: .a (.b (decide ((n_a1 : Int) > (60 : Int)))) :: .a (.l 0) :: .a (.i .i64 (n_a1 : Int)) :: .a (.i .i64 (0 : Int)) :: us 23 ([])), [.sl (.came b_a1) n_a1 a1 64, .row a0 38, .no], []⟩ : St)

noncomputable def impl_ValidFinds_e0 : Bool × Int → LS
  | (y0_4, y0_18) => ([.a (.b (y0_4)), .a (.i .i64 (y0_18))], [])

noncomputable def impl_ValidFinds_x0 : (Stp (Bool × Int) (Bool × Int)) → Exit × LS
  | .more t => (.ret, impl_ValidFinds_e0 t)
  | .done t => ((.exit 0), impl_ValidFinds_e0 t)

noncomputable def impl_ValidFinds_g0 (P : Program) (a0 : Array Value) (b_a1 : Option (Option Addr)) (n_a1 : Nat) (a1 : Array Value) : Bool × Int → Option (Stp (Bool × Int) (Stp (Bool × Int) (Bool × Int)))
  | (y0_4, y0_18) => bif decide (y0_18 < (n_a1 : Int)) then (bif (decide (0 ≤ y0_18) && decide (y0_18 < (n_a1 : Int))) then (bif (!((impl_hasCell_v0 a0 (IntKind.i64.wrap (num (a1.extract ((y0_18).toNat * 2) (((y0_18).toNat * 2) + 2)) 0))))) then (some (.done (.more (false, y0_18))))
        else (bif decide (0 ≤ (IntKind.i64.wrap (num (a1.extract ((y0_18).toNat * 2) (((y0_18).toNat * 2) + 2)) 0))) then (bif (impl_isWater_v0 a0 (IntKind.i64.wrap (num (a1.extract ((y0_18).toNat * 2) (((y0_18).toNat * 2) + 2)) 0))) then (some (.done (.more (false, y0_18))))
            else (bif (!((impl_hasHour_v0 (IntKind.i64.wrap (num (a1.extract ((y0_18).toNat * 2) (((y0_18).toNat * 2) + 2)) 1))))) then (some (.done (.more (false, y0_18))))
              else (some (.more (y0_4, (IntKind.i64.wrap (y0_18 + (1 : Int))))))))
          else (none)))
      else (none))
    else (some (.done (.done (y0_4, y0_18))))

theorem impl_ValidFinds_s0 (N : Nat) (a0 : Array Value) (b_a1 : Option (Option Addr)) (n_a1 : Nat) (a1 : Array Value) : ∀ t : Bool × Int, stepV Tryd.prog impl_ValidFinds_G N (cAt (codeOf Tryd.f55) [1, 1, 0, 1, 0, 0]) (pAt (mkPlan (codeOf Tryd.f55) [([4, 18], [])]).1 [1, 1, 0, 1, 0]) [4, 18] [] (impl_ValidFinds_t0 a0 b_a1 n_a1 a1) (impl_ValidFinds_e0 t) = mapS impl_ValidFinds_e0 impl_ValidFinds_x0 (impl_ValidFinds_g0 Tryd.prog a0 b_a1 n_a1 a1 t) := by
  rintro ⟨y0_4, y0_18⟩
  refine Eq.trans (b := (bif decide (y0_18 < (n_a1 : Int)) then (bif (decide (0 ≤ y0_18) && decide (y0_18 < (n_a1 : Int))) then (bif (!((impl_hasCell_v0 a0 (IntKind.i64.wrap (num (a1.extract ((y0_18).toNat * 2) (((y0_18).toNat * 2) + 2)) 0))))) then (some (.done (.ret, ([.a (.b (false)), .a (.i .i64 (y0_18))], []))))
        else (bif decide (0 ≤ (IntKind.i64.wrap (num (a1.extract ((y0_18).toNat * 2) (((y0_18).toNat * 2) + 2)) 0))) then (bif (impl_isWater_v0 a0 (IntKind.i64.wrap (num (a1.extract ((y0_18).toNat * 2) (((y0_18).toNat * 2) + 2)) 0))) then (some (.done (.ret, ([.a (.b (false)), .a (.i .i64 (y0_18))], []))))
            else (bif (!((impl_hasHour_v0 (IntKind.i64.wrap (num (a1.extract ((y0_18).toNat * 2) (((y0_18).toNat * 2) + 2)) 1))))) then (some (.done (.ret, ([.a (.b (false)), .a (.i .i64 (y0_18))], []))))
              else (some (.more ([.a (.b (y0_4)), .a (.i .i64 (IntKind.i64.wrap (y0_18 + (1 : Int))))], [])))))
          else (none)))
      else (none))
    else (some (.done ((.exit 0), ([.a (.b (y0_4)), .a (.i .i64 (y0_18))], [])))))) (by kernel_rfl) ?_
  simp only [impl_ValidFinds_g0, mapS_cond, mapS_more, mapS_done, mapS_none, impl_ValidFinds_e0, impl_ValidFinds_x0]

noncomputable def impl_ValidFinds_k0_0 (P : Program) (N : Nat) (a0 : Array Value) (b_a1 : Option (Option Addr)) (n_a1 : Nat) (a1 : Array Value) (z0_4 : Bool) (z0_18 : Int) : Option (SV × Eff × Bool) := some (.a (.b (z0_4)), .none, true)

theorem impl_ValidFinds_k0_0_eq (N : Nat) (a0 : Array Value) (b_a1 : Option (Option Addr)) (n_a1 : Nat) (a1 : Array Value) (z0_4 : Bool) (z0_18 : Int) : (kBlock 0 (kSeq (veC Tryd.prog impl_ValidFinds_G N (cAt (codeOf Tryd.f55) [1, 1, 1]) (pAt (mkPlan (codeOf Tryd.f55) [([4, 18], [])]).1 [1, 1, 1]) (SV × Eff × Bool)) (finK Tryd.prog [.sl (.came b_a1) n_a1 a1 64] [.tmp 4]))) .ret (left (writes (cAt (codeOf Tryd.f55) [1, 1, 0, 1, 0, 0])) [4, 18] [] (impl_ValidFinds_t0 a0 b_a1 n_a1 a1) ([.a (.b (z0_4)), .a (.i .i64 (z0_18))], [])) = impl_ValidFinds_k0_0 Tryd.prog N a0 b_a1 n_a1 a1 z0_4 z0_18 := by
  refine Eq.trans (b := (some (.a (.b (z0_4)), .none, true))) (by kernel_rfl) ?_
  rfl

noncomputable def impl_ValidFinds_k0_1 (P : Program) (N : Nat) (a0 : Array Value) (b_a1 : Option (Option Addr)) (n_a1 : Nat) (a1 : Array Value) (z0_4 : Bool) (z0_18 : Int) : Option (SV × Eff × Bool) := some (.a (.b (true)), .none, true)

theorem impl_ValidFinds_k0_1_eq (N : Nat) (a0 : Array Value) (b_a1 : Option (Option Addr)) (n_a1 : Nat) (a1 : Array Value) (z0_4 : Bool) (z0_18 : Int) : (kBlock 0 (kSeq (veC Tryd.prog impl_ValidFinds_G N (cAt (codeOf Tryd.f55) [1, 1, 1]) (pAt (mkPlan (codeOf Tryd.f55) [([4, 18], [])]).1 [1, 1, 1]) (SV × Eff × Bool)) (finK Tryd.prog [.sl (.came b_a1) n_a1 a1 64] [.tmp 4]))) (.exit 0) (left (writes (cAt (codeOf Tryd.f55) [1, 1, 0, 1, 0, 0])) [4, 18] [] (impl_ValidFinds_t0 a0 b_a1 n_a1 a1) ([.a (.b (z0_4)), .a (.i .i64 (z0_18))], [])) = impl_ValidFinds_k0_1 Tryd.prog N a0 b_a1 n_a1 a1 z0_4 z0_18 := by
  refine Eq.trans (b := (some (.a (.b (true)), .none, true))) (by kernel_rfl) ?_
  rfl

theorem impl_ValidFinds_n0 (N : Nat) (a0 : Array Value) (b_a1 : Option (Option Addr)) (n_a1 : Nat) (a1 : Array Value) : bindX (iterO (stepV Tryd.prog impl_ValidFinds_G N (cAt (codeOf Tryd.f55) [1, 1, 0, 1, 0, 0]) (pAt (mkPlan (codeOf Tryd.f55) [([4, 18], [])]).1 [1, 1, 0, 1, 0]) [4, 18] [] (impl_ValidFinds_t0 a0 b_a1 n_a1 a1)) N ([.a (.b (false)), .a (.i .i64 (0 : Int))], [])) (fun e s => (kBlock 0 (kSeq (veC Tryd.prog impl_ValidFinds_G N (cAt (codeOf Tryd.f55) [1, 1, 1]) (pAt (mkPlan (codeOf Tryd.f55) [([4, 18], [])]).1 [1, 1, 1]) (SV × Eff × Bool)) (finK Tryd.prog [.sl (.came b_a1) n_a1 a1 64] [.tmp 4]))) e (left (writes (cAt (codeOf Tryd.f55) [1, 1, 0, 1, 0, 0])) [4, 18] [] (impl_ValidFinds_t0 a0 b_a1 n_a1 a1) s)) = nodeX (iterO (impl_ValidFinds_g0 Tryd.prog a0 b_a1 n_a1 a1) N (false, (0 : Int))) (st2 (fun x => impl_ValidFinds_k0_0 Tryd.prog N a0 b_a1 n_a1 a1 x.1 x.2) (fun x => impl_ValidFinds_k0_1 Tryd.prog N a0 b_a1 n_a1 a1 x.1 x.2)) := by
  refine loop_node impl_ValidFinds_e0 impl_ValidFinds_x0 _ _ (impl_ValidFinds_s0 N a0 b_a1 n_a1 a1) N (false, (0 : Int)) _ _ ?_
  intro x
  cases x with
  | more x => exact impl_ValidFinds_k0_0_eq N a0 b_a1 n_a1 a1 x.1 x.2
  | done x => exact impl_ValidFinds_k0_1_eq N a0 b_a1 n_a1 a1 x.1 x.2

theorem impl_ValidFinds_ans (N : Nat) (a0 : Array Value) (b_a1 : Option (Option Addr)) (n_a1 : Nat) (a1 : Array Value) : ansV Tryd.prog impl_ValidFinds_G N Tryd.f55 [([4, 18], [])] [.g a0 38, .l 0] [.sl (.came b_a1) n_a1 a1 64] = (bif (!((okS a0))) then (some (.a (.b (false)), .none, true))
    else (bif decide ((n_a1 : Int) > (60 : Int)) then (some (.a (.b (false)), .none, true))
      else (nodeX (iterO (impl_ValidFinds_g0 Tryd.prog a0 b_a1 n_a1 a1) N (false, (0 : Int))) (st2 (fun x => impl_ValidFinds_k0_0 Tryd.prog N a0 b_a1 n_a1 a1 x.1 x.2) (fun x => impl_ValidFinds_k0_1 Tryd.prog N a0 b_a1 n_a1 a1 x.1 x.2))))) := by
  refine Eq.trans (b := (bif (!((okS a0))) then (some (.a (.b (false)), .none, true))
    else (bif decide ((n_a1 : Int) > (60 : Int)) then (some (.a (.b (false)), .none, true))
      else (bindX (iterO (stepV Tryd.prog impl_ValidFinds_G N (cAt (codeOf Tryd.f55) [1, 1, 0, 1, 0, 0]) (pAt (mkPlan (codeOf Tryd.f55) [([4, 18], [])]).1 [1, 1, 0, 1, 0]) [4, 18] [] (impl_ValidFinds_t0 a0 b_a1 n_a1 a1)) N ([.a (.b (false)), .a (.i .i64 (0 : Int))], [])) (fun e s => (kBlock 0 (kSeq (veC Tryd.prog impl_ValidFinds_G N (cAt (codeOf Tryd.f55) [1, 1, 1]) (pAt (mkPlan (codeOf Tryd.f55) [([4, 18], [])]).1 [1, 1, 1]) (SV × Eff × Bool)) (finK Tryd.prog [.sl (.came b_a1) n_a1 a1 64] [.tmp 4]))) e (left (writes (cAt (codeOf Tryd.f55) [1, 1, 0, 1, 0, 0])) [4, 18] [] (impl_ValidFinds_t0 a0 b_a1 n_a1 a1) s)))))) (by kernel_rfl) ?_
  simp only [impl_ValidFinds_n0 N a0 b_a1 n_a1 a1]

theorem impl_ValidFinds_main (a0 : Array Value) (b_a1 : Option (Option Addr)) (n_a1 : Nat) (a1 : Array Value) (h_a0 : WT Tryd.prog 38 a0) (h_a1 : a1.size = n_a1 * (lay Tryd.prog 64).length ∧ (∀ k, k < n_a1 → WT Tryd.prog 64 (a1.extract (k * (lay Tryd.prog 64).length) (k * (lay Tryd.prog 64).length + (lay Tryd.prog 64).length))) ∧ n_a1 ≤ 9223372036854775807) (hg : (true) = true) : ansV Tryd.prog impl_ValidFinds_G 18446744073709551616 Tryd.f55 [([4, 18], [])] [.g a0 38, .l 0] [.sl (.came b_a1) n_a1 a1 64] = some (.a (.b ((okS a0 && (fndAll a0 n_a1 a1 && decide ((n_a1 : Int) ≤ 60))))), .none, true) := by
  have hn := h_a1.2.2
  have hS := land_of h_a0
  refine (impl_ValidFinds_ans 18446744073709551616 a0 b_a1 n_a1 a1).trans ?_
  cases hok : okS a0
  · rfl
  by_cases hl : (n_a1 : Int) > 60
  · rw [decide_eq_true hl, decide_eq_false (show ¬ (n_a1 : Int) ≤ 60 by omega), Bool.and_false]
    rfl
  rw [decide_eq_false hl, decide_eq_true (show (n_a1 : Int) ≤ 60 by omega), Bool.and_true]
  simp only [Bool.not_true, cond_false, Bool.true_and]
  refine (iter_first (g := impl_ValidFinds_g0 Tryd.prog a0 b_a1 n_a1 a1) (fun k => (false, (k : Int))) (fndB a0 a1) n_a1 (N := 18446744073709551616) (xd := .done (false, (n_a1 : Int))) (by omega) (fun k hk hp => by
    have h1 : decide ((k : Int) < (n_a1 : Int)) = true := decide_eq_true (by omega)
    have h0 : decide (0 ≤ (k : Int)) = true := decide_eq_true (by omega)
    have h3 : IntKind.i64.wrap ((k : Int) + 1) = ((k + 1 : Nat) : Int) := by rw [IntWalk.i64_in _ (by omega)]; omega
    have hx := fnd_ext a1 k
    have hp' : fndB a0 a1 k = true := hp
    unfold fndB at hp'
    simp only [Bool.and_eq_true] at hp'
    have hr := is_range hp'.1
    have h4 : decide (0 ≤ bcF a1 k) = true := decide_eq_true hr.1
    have hw : impl_isWater_v0 a0 (bcF a1 k) = false := by
      unfold impl_isWater_v0
      rw [land_dry hS hr, hp'.2.1]; rfl
    simp only [impl_ValidFinds_g0, h1, h0, h3, Bool.and_self, Int.toNat_natCast, cond_true, cond_false, hx.1, hx.2, cell_is, hour_eq, h4, hw, hp'.1, hp'.2.2, Bool.not_true]) (by
    have h1 : decide ((n_a1 : Int) < (n_a1 : Int)) = false := decide_eq_false (by omega)
    simp only [impl_ValidFinds_g0, h1, cond_false]) (fndAll a0 n_a1 a1) (fndAll_iff a0 n_a1 a1) (some (.a (.b true), .none, true)) (some (.a (.b false), .none, true)) rfl (fun k hk hp => by
    refine ⟨.more (false, (k : Int)), ?_, rfl⟩
    have h1 : decide ((k : Int) < (n_a1 : Int)) = true := decide_eq_true (by omega)
    have h0 : decide (0 ≤ (k : Int)) = true := decide_eq_true (by omega)
    have h3 : IntKind.i64.wrap ((k : Int) + 1) = ((k + 1 : Nat) : Int) := by rw [IntWalk.i64_in _ (by omega)]; omega
    have hx := fnd_ext a1 k
    have hp' : fndB a0 a1 k = false := hp
    unfold fndB at hp'
    cases x1 : spec_l01Is_v0 (bcF a1 k) a0
    · simp only [impl_ValidFinds_g0, h1, h0, h3, Bool.and_self, Int.toNat_natCast, cond_true, hx.1, cell_is, x1, Bool.not_false]
    · have hr := is_range x1
      have h4 : decide (0 ≤ bcF a1 k) = true := decide_eq_true hr.1
      cases x2 : spec_l01Dry_v0 (bcF a1 k) a0
      · have hw : impl_isWater_v0 a0 (bcF a1 k) = true := by
          unfold impl_isWater_v0
          rw [land_dry hS hr, x2]; rfl
        simp only [impl_ValidFinds_g0, h1, h0, h3, Bool.and_self, Int.toNat_natCast, cond_true, cond_false, hx.1, cell_is, h4, x1, hw, Bool.not_true]
      · have hw : impl_isWater_v0 a0 (bcF a1 k) = false := by
          unfold impl_isWater_v0
          rw [land_dry hS hr, x2]; rfl
        rw [x1, x2] at hp'
        simp only [Bool.true_and] at hp'
        simp only [impl_ValidFinds_g0, h1, h0, h3, Bool.and_self, Int.toNat_natCast, cond_true, cond_false, hx.1, hx.2, cell_is, hour_eq, h4, x1, hw, hp', Bool.not_true, Bool.not_false])).trans ?_
  cases fndAll a0 n_a1 a1 <;> rfl
noncomputable def impl_ValidFinds_con : Con := fun args h => match args, h with
  | [.g a0 38, .l 0], [.sl (.came b_a1) n_a1 a1 64] => some (.a (.b ((okS a0 && (fndAll a0 n_a1 a1 && decide ((n_a1 : Int) ≤ 60))))), .none, true)
  | _, _ => none
theorem impl_ValidFinds_enter : ∀ args w, (callFunc 55 args).run Tryd.prog w = .ok (.enter 55 args) w := enter_ok (fn := Tryd.f55) (by kernel_rfl) (by kernel_rfl) (by kernel_rfl)
theorem impl_ValidFinds_ok : ConOk Tryd.prog 55 impl_ValidFinds_con := (ans_ok (N := 18446744073709551616) (by kernel_rfl) (mkΓ_cons (con_ok impl_ValidSea_ok) impl_ValidSea_enter (mkΓ_cons (con_ok impl_hasCell_ok) impl_hasCell_enter (mkΓ_cons (con_ok impl_isWater_ok) impl_isWater_enter (mkΓ_cons (con_ok impl_hasHour_ok) impl_hasHour_enter mkΓ_nil)))) (fn := Tryd.f55) (by kernel_rfl) (by kernel_rfl) [([4, 18], [])]).of (by
  intro ρ h w args vals r e hA hH hr
  unfold impl_ValidFinds_con at hr
  split at hr
  · rename_i a0 b_a1 n_a1 a1
    obtain ⟨rfl, hg⟩ := Prod.mk.inj (Option.some.inj hr)
    obtain ⟨rfl, hg2⟩ := Prod.mk.inj hg
    exact impl_ValidFinds_main a0 b_a1 n_a1 a1 (hA.wt 0 rfl) (hH.slw 0 rfl) hg2
  · cases hr)

end
end Go.Proofs.YthpcidnfbceliaaDoor
