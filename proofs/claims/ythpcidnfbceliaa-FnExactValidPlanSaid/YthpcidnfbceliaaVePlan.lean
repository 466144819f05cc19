/- Plans copied, compared, and valid. -/
import Derived.Test.YthpcidnfbceliaaProg
import Derived.Test.YthpcidnfbceliaaVeSeaA
namespace Go.Proofs.Ythpcidnfbceliaa
open Go.ChangeShapes Go.WideShapes Go.ChangeAt Go.RowKit Ve
set_option linter.unusedVariables false
set_option linter.unusedSimpArgs false
set_option maxRecDepth 100000
noncomputable section

theorem tide_in (t : Int) : impl_hasTide_v0 t = spec_l00In_v0 t 0 1 := by
  unfold impl_hasTide_v0 spec_l00In_v0
  by_cases h0 : t = 0
  · subst h0; rfl
  · by_cases h1 : t = 1
    · subst h1; rfl
    · rw [show (t == 0) = false from beq_eq_false_iff_ne.2 h0, show (t == 1) = false from beq_eq_false_iff_ne.2 h1, cond_false]
      by_cases h2 : t ≥ 0
      · rw [decide_eq_true h2, cond_true, decide_eq_false (by omega)]
      · rw [decide_eq_false h2, cond_false]

theorem land_of {S : Array Value} (h : WT Try.prog 38 S) : 0 ≤ num S 2 ∧ num S 2 ≤ 18446744073709551615 := wt_land (by kernel_rfl) h


theorem ext_num {C : Array Value} {b m o : Nat} (ho : o < m) : num (C.extract b (b + m)) o = num C (b + o) := by
  have e2 : (C.extract b (b + m))[o]? = C[b + o]? := by
    simp only [Array.getElem?_extract]
    by_cases h : b + o < C.size
    · rw [if_pos (by omega)]
    · rw [if_neg (by omega), Array.getElem?_eq_none (by omega)]
  unfold num; rw [e2]
theorem sl_int {P : Program} {e : TypeId} {n m : Nat} {C : Array Value} (h : ∀ k, k < n → WT P e (C.extract (k * m) (k * m + m))) {k o : Nat} {kd : IntKind} (hk : k < n) (ho : o < m) (hq : (lay P e)[o]? = some (kN kd)) :
    C[k * m + o]? = some (.int kd (num C (k * m + o))) ∧ kd.min ≤ num C (k * m + o) ∧ num C (k * m + o) ≤ kd.max := by
  have hw := (h k hk).int hq
  rw [ext_num ho] at hw
  refine ⟨?_, hw.2⟩
  have := hw.1
  rw [Array.getElem?_extract] at this
  split at this
  · exact this
  · cases this

theorem laws_toRelease_ans (N : Nat) (a0 : Array Value) : ansV Try.prog (mkΓ []) N Try.f50 [] [.g a0 91] [] = (some (.a (.g #[.int .i8 (num a0 0), .int .i8 (num a0 1), .int .i16 (num a0 2)] 72), .none, true)) := by kernel_rfl

theorem laws_toRelease_main (a0 : Array Value) (h_a0 : WT Try.prog 91 a0) (hg : (true) = true) : ansV Try.prog (mkΓ []) 1000 Try.f50 [] [.g a0 91] [] = some (.a (.g a0 72), .none, true) := by
  have hz : a0.size = 3 := by rw [h_a0.layLen]; kernel_rfl
  have e0 := (h_a0.int (o := 0) (k := .i8) (by kernel_rfl)).1
  have e1 := (h_a0.int (o := 1) (k := .i8) (by kernel_rfl)).1
  have e2 := (h_a0.int (o := 2) (k := .i16) (by kernel_rfl)).1
  have he : (#[.int .i8 (num a0 0), .int .i8 (num a0 1), .int .i16 (num a0 2)] : Array Value) = a0 := arr_ext fun i => by
    match i with
    | 0 => exact e0.symm
    | 1 => exact e1.symm
    | 2 => exact e2.symm
    | i + 3 => rw [Array.getElem?_eq_none (by simp), Array.getElem?_eq_none (by omega)]
  refine (laws_toRelease_ans 1000 a0).trans ?_
  rw [he]
noncomputable def laws_toRelease_con : Con := fun args h => match args, h with
  | [.g a0 91], [] => some (.a (.g a0 72), .none, true)
  | _, _ => none
theorem laws_toRelease_enter : ∀ args w, (callFunc 50 args).run Try.prog w = .ok (.enter 50 args) w := enter_ok (fn := Try.f50) (by kernel_rfl) (by kernel_rfl) (by kernel_rfl)
theorem laws_toRelease_ok : ConOk Try.prog 50 laws_toRelease_con := (ans_ok (N := 1000) (by kernel_rfl) mkΓ_nil (fn := Try.f50) (by kernel_rfl) (by kernel_rfl) []).of (by
  intro ρ h w args vals r e hA hH hr
  unfold laws_toRelease_con at hr
  split at hr
  · rename_i a0
    obtain ⟨rfl, hg⟩ := Prod.mk.inj (Option.some.inj hr)
    obtain ⟨rfl, hg2⟩ := Prod.mk.inj hg
    exact laws_toRelease_main a0 (hA.wt 0 rfl) hg2
  · cases hr)

noncomputable def laws_toReleaseS_t0 (b_a0 : Option (Option Addr)) (n_a0 : Nat) (a0 : Array Value) : St := (⟨.a (.l 0) :: .a (.u) :: .a (.v (.slice none 0 0)) :: .a (.l 3) :: .a (.i .i64 (0 : Int)) :: .a (.l 0) :: .a (.i .i64 (n_a0 : Int)) :: .a (.l 3) :: us 15 ([]), [.sl (.came b_a0) n_a0 a0 91, .no, .no, .sl .own ((n_a0 : Int).toNat) (madeCells (zc Try.prog 72) ((n_a0 : Int).toNat * 3)) 72, .no], []⟩ : St)

noncomputable def laws_toReleaseS_e0 (n_a0 : Nat) : Int × Array Value → LS
  | (y0_4, r0_3) => ([.a (.i .i64 (y0_4))], [.sl .own ((n_a0 : Int).toNat) r0_3 72])

noncomputable def laws_toReleaseS_x0 (n_a0 : Nat) : Int × Array Value → Exit × LS
  | t => ((.exit 0), (laws_toReleaseS_e0 n_a0) t)

noncomputable def laws_toReleaseS_g0 (P : Program) (b_a0 : Option (Option Addr)) (n_a0 : Nat) (a0 : Array Value) : Int × Array Value → Option (Stp (Int × Array Value) (Int × Array Value))
  | (y0_4, r0_3) => bif decide (y0_4 < (n_a0 : Int)) then (bif (decide (0 ≤ y0_4) && decide (y0_4 < (n_a0 : Int))) then (bif (decide (0 ≤ y0_4) && decide (y0_4 < (((n_a0 : Int).toNat) : Int))) then (some (.more ((IntKind.i64.wrap (y0_4 + (1 : Int))), (spl r0_3 ((y0_4).toNat * 3) (a0.extract ((y0_4).toNat * 3) (((y0_4).toNat * 3) + 3)).toList))))
        else (none))
      else (none))
    else (some (.done (y0_4, r0_3)))

theorem laws_toReleaseS_s0 (N : Nat) (b_a0 : Option (Option Addr)) (n_a0 : Nat) (a0 : Array Value) : ∀ t : Int × Array Value, stepV Try.prog (mkΓ [(50, con laws_toRelease_con)]) N (cAt (codeOf Try.f26) [1, 1, 0, 1, 0, 0]) (pAt (mkPlan (codeOf Try.f26) [([4], [3])]).1 [1, 1, 0, 1, 0]) [4] [3] (laws_toReleaseS_t0 b_a0 n_a0 a0) ((laws_toReleaseS_e0 n_a0) t) = mapS (laws_toReleaseS_e0 n_a0) (laws_toReleaseS_x0 n_a0) (laws_toReleaseS_g0 Try.prog b_a0 n_a0 a0 t) := by
  rintro ⟨y0_4, r0_3⟩
  refine Eq.trans (b := (bif decide (y0_4 < (n_a0 : Int)) then (bif (decide (0 ≤ y0_4) && decide (y0_4 < (n_a0 : Int))) then (bif (decide (0 ≤ y0_4) && decide (y0_4 < (((n_a0 : Int).toNat) : Int))) then (some (.more ([.a (.i .i64 (IntKind.i64.wrap (y0_4 + (1 : Int))))], [.sl .own ((n_a0 : Int).toNat) (spl r0_3 ((y0_4).toNat * 3) (a0.extract ((y0_4).toNat * 3) (((y0_4).toNat * 3) + 3)).toList) 72])))
        else (none))
      else (none))
    else (some (.done ((.exit 0), ([.a (.i .i64 (y0_4))], [.sl .own ((n_a0 : Int).toNat) r0_3 72])))))) (by kernel_rfl) ?_
  simp only [laws_toReleaseS_g0, mapS_cond, mapS_more, mapS_done, mapS_none, laws_toReleaseS_e0, laws_toReleaseS_x0]

noncomputable def laws_toReleaseS_k0_0 (P : Program) (N : Nat) (b_a0 : Option (Option Addr)) (n_a0 : Nat) (a0 : Array Value) (z0_4 : Int) (q0_3 : Array Value) : Option (SV × Eff × Bool) := some (.a .x, .newS none ((n_a0 : Int).toNat) q0_3 72, true)

theorem laws_toReleaseS_k0_0_eq (N : Nat) (b_a0 : Option (Option Addr)) (n_a0 : Nat) (a0 : Array Value) (z0_4 : Int) (q0_3 : Array Value) : (kBlock 0 (kSeq (veC Try.prog (mkΓ [(50, con laws_toRelease_con)]) N (cAt (codeOf Try.f26) [1, 1, 1]) (pAt (mkPlan (codeOf Try.f26) [([4], [3])]).1 [1, 1, 1]) (SV × Eff × Bool)) (finK Try.prog [.sl (.came b_a0) n_a0 a0 91] [.tmp 2]))) (.exit 0) (left (writes (cAt (codeOf Try.f26) [1, 1, 0, 1, 0, 0])) [4] [3] (laws_toReleaseS_t0 b_a0 n_a0 a0) ([.a (.i .i64 (z0_4))], [.sl .own ((n_a0 : Int).toNat) q0_3 72])) = laws_toReleaseS_k0_0 Try.prog N b_a0 n_a0 a0 z0_4 q0_3 := by
  refine Eq.trans (b := (some (.a .x, .newS none ((n_a0 : Int).toNat) q0_3 72, true))) (by kernel_rfl) ?_
  rfl

theorem laws_toReleaseS_n0 (N : Nat) (b_a0 : Option (Option Addr)) (n_a0 : Nat) (a0 : Array Value) : bindX (iterO (stepV Try.prog (mkΓ [(50, con laws_toRelease_con)]) N (cAt (codeOf Try.f26) [1, 1, 0, 1, 0, 0]) (pAt (mkPlan (codeOf Try.f26) [([4], [3])]).1 [1, 1, 0, 1, 0]) [4] [3] (laws_toReleaseS_t0 b_a0 n_a0 a0)) N ([.a (.i .i64 (0 : Int))], [.sl .own ((n_a0 : Int).toNat) (madeCells (zc Try.prog 72) ((n_a0 : Int).toNat * 3)) 72])) (fun e s => (kBlock 0 (kSeq (veC Try.prog (mkΓ [(50, con laws_toRelease_con)]) N (cAt (codeOf Try.f26) [1, 1, 1]) (pAt (mkPlan (codeOf Try.f26) [([4], [3])]).1 [1, 1, 1]) (SV × Eff × Bool)) (finK Try.prog [.sl (.came b_a0) n_a0 a0 91] [.tmp 2]))) e (left (writes (cAt (codeOf Try.f26) [1, 1, 0, 1, 0, 0])) [4] [3] (laws_toReleaseS_t0 b_a0 n_a0 a0) s)) = nodeX (iterO (laws_toReleaseS_g0 Try.prog b_a0 n_a0 a0) N ((0 : Int), (madeCells (zc Try.prog 72) ((n_a0 : Int).toNat * 3)))) (fun x => laws_toReleaseS_k0_0 Try.prog N b_a0 n_a0 a0 x.1 x.2) := by
  refine loop_node (laws_toReleaseS_e0 n_a0) (laws_toReleaseS_x0 n_a0) _ _ (laws_toReleaseS_s0 N b_a0 n_a0 a0) N ((0 : Int), (madeCells (zc Try.prog 72) ((n_a0 : Int).toNat * 3))) _ _ ?_
  intro x; exact laws_toReleaseS_k0_0_eq N b_a0 n_a0 a0 x.1 x.2

theorem laws_toReleaseS_ans (N : Nat) (b_a0 : Option (Option Addr)) (n_a0 : Nat) (a0 : Array Value) : ansV Try.prog (mkΓ [(50, con laws_toRelease_con)]) N Try.f26 [([4], [3])] [.l 0] [.sl (.came b_a0) n_a0 a0 91] = (bif (decide (0 ≤ (n_a0 : Int)) && ((n_a0 : Int) == (n_a0 : Int) && decide ((bytesOf Try.prog 72 : Int) * (n_a0 : Int) ≤ 281474976710656))) then (nodeX (iterO (laws_toReleaseS_g0 Try.prog b_a0 n_a0 a0) N ((0 : Int), (madeCells (zc Try.prog 72) ((n_a0 : Int).toNat * 3)))) (fun x => laws_toReleaseS_k0_0 Try.prog N b_a0 n_a0 a0 x.1 x.2))
    else (none)) := by
  refine Eq.trans (b := (bif (decide (0 ≤ (n_a0 : Int)) && ((n_a0 : Int) == (n_a0 : Int) && decide ((bytesOf Try.prog 72 : Int) * (n_a0 : Int) ≤ 281474976710656))) then (bindX (iterO (stepV Try.prog (mkΓ [(50, con laws_toRelease_con)]) N (cAt (codeOf Try.f26) [1, 1, 0, 1, 0, 0]) (pAt (mkPlan (codeOf Try.f26) [([4], [3])]).1 [1, 1, 0, 1, 0]) [4] [3] (laws_toReleaseS_t0 b_a0 n_a0 a0)) N ([.a (.i .i64 (0 : Int))], [.sl .own ((n_a0 : Int).toNat) (madeCells (zc Try.prog 72) ((n_a0 : Int).toNat * 3)) 72])) (fun e s => (kBlock 0 (kSeq (veC Try.prog (mkΓ [(50, con laws_toRelease_con)]) N (cAt (codeOf Try.f26) [1, 1, 1]) (pAt (mkPlan (codeOf Try.f26) [([4], [3])]).1 [1, 1, 1]) (SV × Eff × Bool)) (finK Try.prog [.sl (.came b_a0) n_a0 a0 91] [.tmp 2]))) e (left (writes (cAt (codeOf Try.f26) [1, 1, 0, 1, 0, 0])) [4] [3] (laws_toReleaseS_t0 b_a0 n_a0 a0) s)))
    else (none))) (by kernel_rfl) ?_
  simp only [laws_toReleaseS_n0 N b_a0 n_a0 a0]

theorem laws_toReleaseS_main (b_a0 : Option (Option Addr)) (n_a0 : Nat) (a0 : Array Value) (h_a0 : a0.size = n_a0 * (lay Try.prog 91).length ∧ (∀ k, k < n_a0 → WT Try.prog 91 (a0.extract (k * (lay Try.prog 91).length) (k * (lay Try.prog 91).length + (lay Try.prog 91).length))) ∧ n_a0 ≤ 9223372036854775807) (hg : (decide (n_a0 ≤ 1048576)) = true) : ansV Try.prog (mkΓ [(50, con laws_toRelease_con)]) 18446744073709551616 Try.f26 [([4], [3])] [.l 0] [.sl (.came b_a0) n_a0 a0 91] = some (.a .x, .newS none n_a0 a0 72, true) := by
  have hn : n_a0 ≤ 1048576 := of_decide_eq_true hg
  have hm : (lay Try.prog 91).length = 3 := by kernel_rfl
  have hb : bytesOf Try.prog 72 = 4 := by kernel_rfl
  obtain ⟨s1, s2, s3⟩ := h_a0
  rw [hm] at s1 s2
  have hq : (lay Try.prog 91)[0]? = some 0 := by kernel_rfl
  refine (laws_toReleaseS_ans 18446744073709551616 b_a0 n_a0 a0).trans ?_
  have hgd : (decide (0 ≤ (n_a0 : Int)) && ((n_a0 : Int) == (n_a0 : Int) && decide ((bytesOf Try.prog 72 : Int) * (n_a0 : Int) ≤ 281474976710656))) = true := by
    rw [hb, decide_eq_true (show (0 : Int) ≤ n_a0 by omega), beq_self_eq_true, decide_eq_true (show (((4 : Nat) : Int)) * (n_a0 : Int) ≤ 281474976710656 by omega)]; rfl
  rw [hgd, cond_true]
  have hs : a0.size = (madeCells (zc Try.prog 72) ((n_a0 : Int).toNat * 3)).size := by rw [size_madeCells, Int.toNat_natCast]; exact s1
  generalize (madeCells (zc Try.prog 72) ((n_a0 : Int).toNat * 3)) = Z at hs ⊢
  have h := iter_all (g := laws_toReleaseS_g0 Try.prog b_a0 n_a0 a0) (fun k => ((k : Int), upto a0 Z (k * 3))) (m := n_a0) (x := ((n_a0 : Int), upto a0 Z (n_a0 * 3))) (N := 18446744073709551616) (fun k hk => by
    have h1 : decide ((k : Int) < (n_a0 : Int)) = true := decide_eq_true (by omega)
    have h0 : decide (0 ≤ (k : Int)) = true := decide_eq_true (by omega)
    have h3 : IntKind.i64.wrap ((k : Int) + 1) = ((k + 1 : Nat) : Int) := by rw [IntWalk.i64_in _ (by omega)]; omega
    have h5 : spl (upto a0 Z (k * 3)) (k * 3) (a0.extract (k * 3) (k * 3 + 3)).toList = upto a0 Z ((k + 1) * 3) := by
      rw [Nat.add_mul]; exact upto_spl hs (by have : (k + 1) * 3 ≤ n_a0 * 3 := Nat.mul_le_mul_right _ hk; omega) rfl
    simp only [laws_toReleaseS_g0, h1, h0, Bool.and_self, Int.toNat_natCast, cond_true, h3, h5]) (by
    have h1 : decide ((n_a0 : Int) < (n_a0 : Int)) = false := decide_eq_false (by omega)
    simp only [laws_toReleaseS_g0, h1, cond_false]) (by omega)
  rw [upto_all hs s1] at h
  simp only [Nat.zero_mul, upto_zero hs] at h
  have h' : iterO (laws_toReleaseS_g0 Try.prog b_a0 n_a0 a0) 18446744073709551616 ((0 : Int), Z) = some ((n_a0 : Int), a0) := h
  rw [h']
  show some (_, Eff.newS none ((n_a0 : Int).toNat) a0 72, true) = _
  rw [Int.toNat_natCast]
noncomputable def laws_toReleaseS_con : Con := fun args h => match args, h with
  | [.l 0], [.sl (.came b_a0) n_a0 a0 91] => some (.a .x, .newS none n_a0 a0 72, decide (n_a0 ≤ 1048576))
  | _, _ => none
theorem laws_toReleaseS_enter : ∀ args w, (callFunc 26 args).run Try.prog w = .ok (.enter 26 args) w := enter_ok (fn := Try.f26) (by kernel_rfl) (by kernel_rfl) (by kernel_rfl)
theorem laws_toReleaseS_ok : ConOk Try.prog 26 laws_toReleaseS_con := (ans_ok (N := 18446744073709551616) (by kernel_rfl) (mkΓ_cons (con_ok laws_toRelease_ok) laws_toRelease_enter mkΓ_nil) (fn := Try.f26) (by kernel_rfl) (by kernel_rfl) [([4], [3])]).of (by
  intro ρ h w args vals r e hA hH hr
  unfold laws_toReleaseS_con at hr
  split at hr
  · rename_i b_a0 n_a0 a0
    obtain ⟨rfl, hg⟩ := Prod.mk.inj (Option.some.inj hr)
    obtain ⟨rfl, hg2⟩ := Prod.mk.inj hg
    exact laws_toReleaseS_main b_a0 n_a0 a0 (hH.slw 0 rfl) hg2
  · cases hr)

theorem laws_eqRelease_ans (N : Nat) (a0 : Array Value) (a1 : Array Value) : ansV Try.prog (mkΓ []) N Try.f57 [] [.g a0 72, .g a1 72] [] = (bif ((num a0 0) != (num a1 0)) then (some (.a (.b (false)), .none, true))
    else (bif ((num a0 1) != (num a1 1)) then (some (.a (.b (false)), .none, true))
      else (bif ((num a0 2) != (num a1 2)) then (some (.a (.b (false)), .none, true))
        else (some (.a (.b (true)), .none, true))))) := by kernel_rfl

theorem laws_eqRelease_main (a0 : Array Value) (a1 : Array Value) (h_a0 : WT Try.prog 72 a0) (h_a1 : WT Try.prog 72 a1) (hg : (true) = true) : ansV Try.prog (mkΓ []) 1000 Try.f57 [] [.g a0 72, .g a1 72] [] = some (.a (.b (sameB a0 a1)), .none, true) := by
  have hz : a0.size = 3 := by rw [h_a0.layLen]; kernel_rfl
  have hy : a1.size = 3 := by rw [h_a1.layLen]; kernel_rfl
  refine (laws_eqRelease_ans 1000 a0 a1).trans ?_
  cases hb : sameB a0 a1
  · have hne := sameB_false.1 hb
    cases h0 : (num a0 0 != num a1 0)
    · skip
      cases h1 : (num a0 1 != num a1 1)
      · skip
        cases h2 : (num a0 2 != num a1 2)
        · skip
          exfalso
          refine hne (arr_ext fun i => ?_)
          by_cases c0 : i = 0
          · subst c0
            rw [(h_a0.int (k := .i8) (o := 0) (by kernel_rfl)).1, (h_a1.int (k := .i8) (o := 0) (by kernel_rfl)).1, num_eq h0]
          by_cases c1 : i = 1
          · subst c1
            rw [(h_a0.int (k := .i8) (o := 1) (by kernel_rfl)).1, (h_a1.int (k := .i8) (o := 1) (by kernel_rfl)).1, num_eq h1]
          by_cases c2 : i = 2
          · subst c2
            rw [(h_a0.int (k := .i16) (o := 2) (by kernel_rfl)).1, (h_a1.int (k := .i16) (o := 2) (by kernel_rfl)).1, num_eq h2]
          rw [Array.getElem?_eq_none (by omega), Array.getElem?_eq_none (by omega)]
        · rfl
      · rfl
    · rfl
  · rw [sameB_iff.1 hb]
    simp only [bne_self_eq_false, cond_false, sameB_self, Bool.not_true]
noncomputable def laws_eqRelease_con : Con := fun args h => match args, h with
  | [.g a0 72, .g a1 72], [] => some (.a (.b (sameB a0 a1)), .none, true)
  | _, _ => none
theorem laws_eqRelease_enter : ∀ args w, (callFunc 57 args).run Try.prog w = .ok (.enter 57 args) w := enter_ok (fn := Try.f57) (by kernel_rfl) (by kernel_rfl) (by kernel_rfl)
theorem laws_eqRelease_ok : ConOk Try.prog 57 laws_eqRelease_con := (ans_ok (N := 1000) (by kernel_rfl) mkΓ_nil (fn := Try.f57) (by kernel_rfl) (by kernel_rfl) []).of (by
  intro ρ h w args vals r e hA hH hr
  unfold laws_eqRelease_con at hr
  split at hr
  · rename_i a0 a1
    obtain ⟨rfl, hg⟩ := Prod.mk.inj (Option.some.inj hr)
    obtain ⟨rfl, hg2⟩ := Prod.mk.inj hg
    exact laws_eqRelease_main a0 a1 (hA.wt 0 rfl) (hA.wt 1 rfl) hg2
  · cases hr)

noncomputable def laws_eqReleaseS_t0 (b_a0 : Option (Option Addr)) (n_a0 : Nat) (a0 : Array Value) (b_a1 : Option (Option Addr)) (n_a1 : Nat) (a1 : Array Value) : St := (⟨.a (.l 0) :: .a (.l 1) :: .a (.u) :: .a (.u) :: .a (.b (false)) :: .a (.i .i64 (0 : Int)) :: .a (.l 0) :: .a (.i .i64 (n_a0 : Int)) :: .a (.l 1) :: .a (.i .i64 (n_a1 : Int)) :: .a (.b (((n_a0 : Int) != (n_a1 : Int)))) :: us 16 ([]), [.sl (.came b_a0) n_a0 a0 72, .sl (.came b_a1) n_a1 a1 72], []⟩ : St)

noncomputable def laws_eqReleaseS_e0 : Bool × Int → LS
  | (y0_4, y0_5) => ([.a (.b (y0_4)), .a (.i .i64 (y0_5))], [])

noncomputable def laws_eqReleaseS_x0 : (Stp (Bool × Int) (Bool × Int)) → Exit × LS
  | .more t => (.ret, laws_eqReleaseS_e0 t)
  | .done t => ((.exit 0), laws_eqReleaseS_e0 t)

noncomputable def laws_eqReleaseS_g0 (P : Program) (b_a0 : Option (Option Addr)) (n_a0 : Nat) (a0 : Array Value) (b_a1 : Option (Option Addr)) (n_a1 : Nat) (a1 : Array Value) : Bool × Int → Option (Stp (Bool × Int) (Stp (Bool × Int) (Bool × Int)))
  | (y0_4, y0_5) => bif decide (y0_5 < (n_a0 : Int)) then (bif (decide (0 ≤ y0_5) && decide (y0_5 < (n_a0 : Int))) then (bif (decide (0 ≤ y0_5) && decide (y0_5 < (n_a1 : Int))) then (bif (!(sameB (a0.extract ((y0_5).toNat * 3) (((y0_5).toNat * 3) + 3)) (a1.extract ((y0_5).toNat * 3) (((y0_5).toNat * 3) + 3)))) then (some (.done (.more (false, y0_5))))
          else (some (.more (y0_4, (IntKind.i64.wrap (y0_5 + (1 : Int)))))))
        else (none))
      else (none))
    else (some (.done (.done (y0_4, y0_5))))

theorem laws_eqReleaseS_s0 (N : Nat) (b_a0 : Option (Option Addr)) (n_a0 : Nat) (a0 : Array Value) (b_a1 : Option (Option Addr)) (n_a1 : Nat) (a1 : Array Value) : ∀ t : Bool × Int, stepV Try.prog (mkΓ [(57, con laws_eqRelease_con)]) N (cAt (codeOf Try.f32) [1, 1, 0, 1, 0, 0]) (pAt (mkPlan (codeOf Try.f32) [([4, 5], [])]).1 [1, 1, 0, 1, 0]) [4, 5] [] (laws_eqReleaseS_t0 b_a0 n_a0 a0 b_a1 n_a1 a1) (laws_eqReleaseS_e0 t) = mapS laws_eqReleaseS_e0 laws_eqReleaseS_x0 (laws_eqReleaseS_g0 Try.prog b_a0 n_a0 a0 b_a1 n_a1 a1 t) := by
  rintro ⟨y0_4, y0_5⟩
  refine Eq.trans (b := (bif decide (y0_5 < (n_a0 : Int)) then (bif (decide (0 ≤ y0_5) && decide (y0_5 < (n_a0 : Int))) then (bif (decide (0 ≤ y0_5) && decide (y0_5 < (n_a1 : Int))) then (bif (!(sameB (a0.extract ((y0_5).toNat * 3) (((y0_5).toNat * 3) + 3)) (a1.extract ((y0_5).toNat * 3) (((y0_5).toNat * 3) + 3)))) then (some (.done (.ret, ([.a (.b (false)), .a (.i .i64 (y0_5))], []))))
          else (some (.more ([.a (.b (y0_4)), .a (.i .i64 (IntKind.i64.wrap (y0_5 + (1 : Int))))], []))))
        else (none))
      else (none))
    else (some (.done ((.exit 0), ([.a (.b (y0_4)), .a (.i .i64 (y0_5))], [])))))) (by kernel_rfl) ?_
  simp only [laws_eqReleaseS_g0, mapS_cond, mapS_more, mapS_done, mapS_none, laws_eqReleaseS_e0, laws_eqReleaseS_x0]

noncomputable def laws_eqReleaseS_k0_0 (P : Program) (N : Nat) (b_a0 : Option (Option Addr)) (n_a0 : Nat) (a0 : Array Value) (b_a1 : Option (Option Addr)) (n_a1 : Nat) (a1 : Array Value) (z0_4 : Bool) (z0_5 : Int) : Option (SV × Eff × Bool) := some (.a (.b (z0_4)), .none, true)

theorem laws_eqReleaseS_k0_0_eq (N : Nat) (b_a0 : Option (Option Addr)) (n_a0 : Nat) (a0 : Array Value) (b_a1 : Option (Option Addr)) (n_a1 : Nat) (a1 : Array Value) (z0_4 : Bool) (z0_5 : Int) : (kBlock 0 (kSeq (veC Try.prog (mkΓ [(57, con laws_eqRelease_con)]) N (cAt (codeOf Try.f32) [1, 1, 1]) (pAt (mkPlan (codeOf Try.f32) [([4, 5], [])]).1 [1, 1, 1]) (SV × Eff × Bool)) (finK Try.prog [.sl (.came b_a0) n_a0 a0 72, .sl (.came b_a1) n_a1 a1 72] [.tmp 4]))) .ret (left (writes (cAt (codeOf Try.f32) [1, 1, 0, 1, 0, 0])) [4, 5] [] (laws_eqReleaseS_t0 b_a0 n_a0 a0 b_a1 n_a1 a1) ([.a (.b (z0_4)), .a (.i .i64 (z0_5))], [])) = laws_eqReleaseS_k0_0 Try.prog N b_a0 n_a0 a0 b_a1 n_a1 a1 z0_4 z0_5 := by
  refine Eq.trans (b := (some (.a (.b (z0_4)), .none, true))) (by kernel_rfl) ?_
  rfl

noncomputable def laws_eqReleaseS_k0_1 (P : Program) (N : Nat) (b_a0 : Option (Option Addr)) (n_a0 : Nat) (a0 : Array Value) (b_a1 : Option (Option Addr)) (n_a1 : Nat) (a1 : Array Value) (z0_4 : Bool) (z0_5 : Int) : Option (SV × Eff × Bool) := some (.a (.b (true)), .none, true)

theorem laws_eqReleaseS_k0_1_eq (N : Nat) (b_a0 : Option (Option Addr)) (n_a0 : Nat) (a0 : Array Value) (b_a1 : Option (Option Addr)) (n_a1 : Nat) (a1 : Array Value) (z0_4 : Bool) (z0_5 : Int) : (kBlock 0 (kSeq (veC Try.prog (mkΓ [(57, con laws_eqRelease_con)]) N (cAt (codeOf Try.f32) [1, 1, 1]) (pAt (mkPlan (codeOf Try.f32) [([4, 5], [])]).1 [1, 1, 1]) (SV × Eff × Bool)) (finK Try.prog [.sl (.came b_a0) n_a0 a0 72, .sl (.came b_a1) n_a1 a1 72] [.tmp 4]))) (.exit 0) (left (writes (cAt (codeOf Try.f32) [1, 1, 0, 1, 0, 0])) [4, 5] [] (laws_eqReleaseS_t0 b_a0 n_a0 a0 b_a1 n_a1 a1) ([.a (.b (z0_4)), .a (.i .i64 (z0_5))], [])) = laws_eqReleaseS_k0_1 Try.prog N b_a0 n_a0 a0 b_a1 n_a1 a1 z0_4 z0_5 := by
  refine Eq.trans (b := (some (.a (.b (true)), .none, true))) (by kernel_rfl) ?_
  rfl

theorem laws_eqReleaseS_n0 (N : Nat) (b_a0 : Option (Option Addr)) (n_a0 : Nat) (a0 : Array Value) (b_a1 : Option (Option Addr)) (n_a1 : Nat) (a1 : Array Value) : bindX (iterO (stepV Try.prog (mkΓ [(57, con laws_eqRelease_con)]) N (cAt (codeOf Try.f32) [1, 1, 0, 1, 0, 0]) (pAt (mkPlan (codeOf Try.f32) [([4, 5], [])]).1 [1, 1, 0, 1, 0]) [4, 5] [] (laws_eqReleaseS_t0 b_a0 n_a0 a0 b_a1 n_a1 a1)) N ([.a (.b (false)), .a (.i .i64 (0 : Int))], [])) (fun e s => (kBlock 0 (kSeq (veC Try.prog (mkΓ [(57, con laws_eqRelease_con)]) N (cAt (codeOf Try.f32) [1, 1, 1]) (pAt (mkPlan (codeOf Try.f32) [([4, 5], [])]).1 [1, 1, 1]) (SV × Eff × Bool)) (finK Try.prog [.sl (.came b_a0) n_a0 a0 72, .sl (.came b_a1) n_a1 a1 72] [.tmp 4]))) e (left (writes (cAt (codeOf Try.f32) [1, 1, 0, 1, 0, 0])) [4, 5] [] (laws_eqReleaseS_t0 b_a0 n_a0 a0 b_a1 n_a1 a1) s)) = nodeX (iterO (laws_eqReleaseS_g0 Try.prog b_a0 n_a0 a0 b_a1 n_a1 a1) N (false, (0 : Int))) (st2 (fun x => laws_eqReleaseS_k0_0 Try.prog N b_a0 n_a0 a0 b_a1 n_a1 a1 x.1 x.2) (fun x => laws_eqReleaseS_k0_1 Try.prog N b_a0 n_a0 a0 b_a1 n_a1 a1 x.1 x.2)) := by
  refine loop_node laws_eqReleaseS_e0 laws_eqReleaseS_x0 _ _ (laws_eqReleaseS_s0 N b_a0 n_a0 a0 b_a1 n_a1 a1) N (false, (0 : Int)) _ _ ?_
  intro x
  cases x with
  | more x => exact laws_eqReleaseS_k0_0_eq N b_a0 n_a0 a0 b_a1 n_a1 a1 x.1 x.2
  | done x => exact laws_eqReleaseS_k0_1_eq N b_a0 n_a0 a0 b_a1 n_a1 a1 x.1 x.2

theorem laws_eqReleaseS_ans (N : Nat) (b_a0 : Option (Option Addr)) (n_a0 : Nat) (a0 : Array Value) (b_a1 : Option (Option Addr)) (n_a1 : Nat) (a1 : Array Value) : ansV Try.prog (mkΓ [(57, con laws_eqRelease_con)]) N Try.f32 [([4, 5], [])] [.l 0, .l 1] [.sl (.came b_a0) n_a0 a0 72, .sl (.came b_a1) n_a1 a1 72] = (bif ((n_a0 : Int) != (n_a1 : Int)) then (some (.a (.b (false)), .none, true))
    else (nodeX (iterO (laws_eqReleaseS_g0 Try.prog b_a0 n_a0 a0 b_a1 n_a1 a1) N (false, (0 : Int))) (st2 (fun x => laws_eqReleaseS_k0_0 Try.prog N b_a0 n_a0 a0 b_a1 n_a1 a1 x.1 x.2) (fun x => laws_eqReleaseS_k0_1 Try.prog N b_a0 n_a0 a0 b_a1 n_a1 a1 x.1 x.2)))) := by
  refine Eq.trans (b := (bif ((n_a0 : Int) != (n_a1 : Int)) then (some (.a (.b (false)), .none, true))
    else (bindX (iterO (stepV Try.prog (mkΓ [(57, con laws_eqRelease_con)]) N (cAt (codeOf Try.f32) [1, 1, 0, 1, 0, 0]) (pAt (mkPlan (codeOf Try.f32) [([4, 5], [])]).1 [1, 1, 0, 1, 0]) [4, 5] [] (laws_eqReleaseS_t0 b_a0 n_a0 a0 b_a1 n_a1 a1)) N ([.a (.b (false)), .a (.i .i64 (0 : Int))], [])) (fun e s => (kBlock 0 (kSeq (veC Try.prog (mkΓ [(57, con laws_eqRelease_con)]) N (cAt (codeOf Try.f32) [1, 1, 1]) (pAt (mkPlan (codeOf Try.f32) [([4, 5], [])]).1 [1, 1, 1]) (SV × Eff × Bool)) (finK Try.prog [.sl (.came b_a0) n_a0 a0 72, .sl (.came b_a1) n_a1 a1 72] [.tmp 4]))) e (left (writes (cAt (codeOf Try.f32) [1, 1, 0, 1, 0, 0])) [4, 5] [] (laws_eqReleaseS_t0 b_a0 n_a0 a0 b_a1 n_a1 a1) s))))) (by kernel_rfl) ?_
  simp only [laws_eqReleaseS_n0 N b_a0 n_a0 a0 b_a1 n_a1 a1]

theorem laws_eqReleaseS_main (b_a0 : Option (Option Addr)) (n_a0 : Nat) (a0 : Array Value) (b_a1 : Option (Option Addr)) (n_a1 : Nat) (a1 : Array Value) (h_a0 : a0.size = n_a0 * (lay Try.prog 72).length ∧ (∀ k, k < n_a0 → WT Try.prog 72 (a0.extract (k * (lay Try.prog 72).length) (k * (lay Try.prog 72).length + (lay Try.prog 72).length))) ∧ n_a0 ≤ 9223372036854775807) (h_a1 : a1.size = n_a1 * (lay Try.prog 72).length ∧ (∀ k, k < n_a1 → WT Try.prog 72 (a1.extract (k * (lay Try.prog 72).length) (k * (lay Try.prog 72).length + (lay Try.prog 72).length))) ∧ n_a1 ≤ 9223372036854775807) (hg : (true) = true) : ansV Try.prog (mkΓ [(57, con laws_eqRelease_con)]) 18446744073709551616 Try.f32 [([4, 5], [])] [.l 0, .l 1] [.sl (.came b_a0) n_a0 a0 72, .sl (.came b_a1) n_a1 a1 72] = some (.a (.b ((decide (n_a0 = n_a1) && sameB a0 a1))), .none, true) := by
  have hm : (lay Try.prog 72).length = 3 := by kernel_rfl
  obtain ⟨s1, s2, s3⟩ := h_a0
  obtain ⟨t1, t2, t3⟩ := h_a1
  rw [hm] at s1 s2 t1 t2
  have hq : (lay Try.prog 72)[0]? = some 0 := by kernel_rfl
  refine (laws_eqReleaseS_ans 18446744073709551616 b_a0 n_a0 a0 b_a1 n_a1 a1).trans ?_
  by_cases hl : n_a0 = n_a1
  case neg =>
    rw [decide_eq_false hl, show ((n_a0 : Int) != (n_a1 : Int)) = true from bne_iff_ne.2 (by omega)]
    rfl
  subst hl
  rw [decide_eq_true rfl, show ((n_a0 : Int) != (n_a0 : Int)) = false from bne_self_eq_false _]
  simp only [cond_false, Bool.true_and]
  have hb : sameB a0 a1 = true ↔ ∀ k, k < n_a0 → (fun k => sameB (a0.extract (k * 3) (k * 3 + 3)) (a1.extract (k * 3) (k * 3 + 3))) k = true := by
    constructor
    · intro h k hk
      rw [sameB_iff.1 h]
      exact sameB_self _
    · intro h
      refine sameB_iff.2 ?_
      exact ext_parts (n := n_a0) (m := 3) (by omega) s1 t1 (fun k hk => sameB_iff.1 (h k hk))
  refine (iter_first (g := laws_eqReleaseS_g0 Try.prog b_a0 n_a0 a0 b_a1 n_a0 a1) (fun k => (false, (k : Int))) (fun k => sameB (a0.extract (k * 3) (k * 3 + 3)) (a1.extract (k * 3) (k * 3 + 3))) n_a0 (N := 18446744073709551616) (xd := .done (false, (n_a0 : Int))) (by omega) (fun k hk hp => by
    have h1 : decide ((k : Int) < (n_a0 : Int)) = true := decide_eq_true (by omega)
    have h0 : decide (0 ≤ (k : Int)) = true := decide_eq_true (by omega)
    have h3 : IntKind.i64.wrap ((k : Int) + 1) = ((k + 1 : Nat) : Int) := by rw [IntWalk.i64_in _ (by omega)]; omega
    have hp' : sameB (a0.extract (k * 3) (k * 3 + 3)) (a1.extract (k * 3) (k * 3 + 3)) = true := hp
    simp only [laws_eqReleaseS_g0, h1, h0, Bool.and_self, Int.toNat_natCast, cond_true, h3, hp', Bool.not_true, cond_false]) (by
    have h1 : decide ((n_a0 : Int) < (n_a0 : Int)) = false := decide_eq_false (by omega)
    simp only [laws_eqReleaseS_g0, h1, cond_false]) (sameB a0 a1) hb (some (.a (.b true), .none, true)) (some (.a (.b false), .none, true)) rfl (fun k hk hp => by
    refine ⟨.more (false, (k : Int)), ?_, rfl⟩
    have h1 : decide ((k : Int) < (n_a0 : Int)) = true := decide_eq_true (by omega)
    have h0 : decide (0 ≤ (k : Int)) = true := decide_eq_true (by omega)
    have hp' : sameB (a0.extract (k * 3) (k * 3 + 3)) (a1.extract (k * 3) (k * 3 + 3)) = false := hp
    simp only [laws_eqReleaseS_g0, h1, h0, Bool.and_self, Int.toNat_natCast, cond_true, hp', Bool.not_false])).trans ?_
  cases sameB a0 a1 <;> rfl
noncomputable def laws_eqReleaseS_con : Con := fun args h => match args, h with
  | [.l 0, .l 1], [.sl (.came b_a0) n_a0 a0 72, .sl (.came b_a1) n_a1 a1 72] => some (.a (.b ((decide (n_a0 = n_a1) && sameB a0 a1))), .none, true)
  | _, _ => none
theorem laws_eqReleaseS_enter : ∀ args w, (callFunc 32 args).run Try.prog w = .ok (.enter 32 args) w := enter_ok (fn := Try.f32) (by kernel_rfl) (by kernel_rfl) (by kernel_rfl)
theorem laws_eqReleaseS_ok : ConOk Try.prog 32 laws_eqReleaseS_con := (ans_ok (N := 18446744073709551616) (by kernel_rfl) (mkΓ_cons (con_ok laws_eqRelease_ok) laws_eqRelease_enter mkΓ_nil) (fn := Try.f32) (by kernel_rfl) (by kernel_rfl) [([4, 5], [])]).of (by
  intro ρ h w args vals r e hA hH hr
  unfold laws_eqReleaseS_con at hr
  split at hr
  · rename_i b_a0 n_a0 a0 b_a1 n_a1 a1
    obtain ⟨rfl, hg⟩ := Prod.mk.inj (Option.some.inj hr)
    obtain ⟨rfl, hg2⟩ := Prod.mk.inj hg
    exact laws_eqReleaseS_main b_a0 n_a0 a0 b_a1 n_a1 a1 (hH.slw 0 rfl) (hH.slw 1 rfl) hg2
  · cases hr)

theorem laws_szReleaseS_ans (N : Nat) (a1 : Int) (b_a0 : Option (Option Addr)) (n_a0 : Nat) (a0 : Array Value) : ansV Try.prog (mkΓ []) N Try.f22 [] [.l 0, .i .i64 (a1)] [.sl (.came b_a0) n_a0 a0 91] = (bif decide ((IntKind.i64.wrap (a1 - (n_a0 : Int))) < (0 : Int)) then (some (.a (.i .i64 (-1 : Int)), .none, true))
    else (some (.a (.i .i64 (IntKind.i64.wrap (a1 - (n_a0 : Int)))), .none, true))) := by kernel_rfl

noncomputable def laws_szReleaseS_v0 (a1 : Int) (b_a0 : Option (Option Addr)) (n_a0 : Nat) (a0 : Array Value) : Int := (bif decide ((IntKind.i64.wrap (a1 - (n_a0 : Int))) < (0 : Int)) then (-1 : Int) else (IntKind.i64.wrap (a1 - (n_a0 : Int))))

theorem laws_szReleaseS_main (a1 : Int) (b_a0 : Option (Option Addr)) (n_a0 : Nat) (a0 : Array Value) (h_a1 : IntKind.i64.min ≤ a1 ∧ a1 ≤ IntKind.i64.max) (h_a0 : a0.size = n_a0 * (lay Try.prog 91).length ∧ (∀ k, k < n_a0 → WT Try.prog 91 (a0.extract (k * (lay Try.prog 91).length) (k * (lay Try.prog 91).length + (lay Try.prog 91).length))) ∧ n_a0 ≤ 9223372036854775807) (hg : (true) = true) : ansV Try.prog (mkΓ []) 1000 Try.f22 [] [.l 0, .i .i64 (a1)] [.sl (.came b_a0) n_a0 a0 91] = some (.a (.i .i64 (laws_szReleaseS_v0 a1 b_a0 n_a0 a0)), .none, true) := by
  refine (laws_szReleaseS_ans 1000 a1 b_a0 n_a0 a0).trans ?_
  unfold laws_szReleaseS_v0
  revert hg
  generalize (decide ((IntKind.i64.wrap (a1 - (n_a0 : Int))) < (0 : Int))) = b2
  intro hg
  cases b2
  · skip
    first | (simp only [cond_true, cond_false, Bool.and_true, Bool.true_and, Bool.and_false, Bool.false_and]; done) | rfl | exact (nomatch (hg : false = true))
  · skip
    first | (simp only [cond_true, cond_false, Bool.and_true, Bool.true_and, Bool.and_false, Bool.false_and]; done) | rfl | exact (nomatch (hg : false = true))
noncomputable def laws_szReleaseS_con : Con := fun args h => match args, h with
  | [.l 0, .i .i64 a1], [.sl (.came b_a0) n_a0 a0 91] => some (.a (.i .i64 (laws_szReleaseS_v0 a1 b_a0 n_a0 a0)), .none, true)
  | _, _ => none
theorem laws_szReleaseS_enter : ∀ args w, (callFunc 22 args).run Try.prog w = .ok (.enter 22 args) w := enter_ok (fn := Try.f22) (by kernel_rfl) (by kernel_rfl) (by kernel_rfl)
theorem laws_szReleaseS_ok : ConOk Try.prog 22 laws_szReleaseS_con := (ans_ok (N := 1000) (by kernel_rfl) mkΓ_nil (fn := Try.f22) (by kernel_rfl) (by kernel_rfl) []).of (by
  intro ρ h w args vals r e hA hH hr
  unfold laws_szReleaseS_con at hr
  split at hr
  · rename_i a1 b_a0 n_a0 a0
    obtain ⟨rfl, hg⟩ := Prod.mk.inj (Option.some.inj hr)
    obtain ⟨rfl, hg2⟩ := Prod.mk.inj hg
    exact laws_szReleaseS_main a1 b_a0 n_a0 a0 (hA.rng 1 rfl) (hH.slw 0 rfl) hg2
  · cases hr)

theorem laws_toPlan_ans (N : Nat) (a0 : Array Value) (b_a0x2 : Option (Option Addr)) (n_a0x2 : Nat) (a0x2 : Array Value) : ansV Try.prog (mkΓ [(26, con laws_toReleaseS_con)]) N Try.f10 [] [.r a0 31 [(2, 0)]] [.sl (.came b_a0x2) n_a0x2 a0x2 91] = (bif decide (n_a0x2 ≤ 1048576) then (some (.a (.r #[.int .i8 (num a0 0), .int .i8 (num a0 1), .slice none 0 0] 42 [(2, HOLE)]), .newS (some 1000000) n_a0x2 a0x2 72, true))
    else (none)) := by kernel_rfl

theorem laws_toPlan_main (a0 : Array Value) (b_a0x2 : Option (Option Addr)) (n_a0x2 : Nat) (a0x2 : Array Value) (h_a0 : WT Try.prog 31 a0) (h_a0x2 : a0x2.size = n_a0x2 * (lay Try.prog 91).length ∧ (∀ k, k < n_a0x2 → WT Try.prog 91 (a0x2.extract (k * (lay Try.prog 91).length) (k * (lay Try.prog 91).length + (lay Try.prog 91).length))) ∧ n_a0x2 ≤ 9223372036854775807) (hg : (decide (n_a0x2 ≤ 1048576)) = true) : ansV Try.prog (mkΓ [(26, con laws_toReleaseS_con)]) 1000 Try.f10 [] [.r a0 31 [(2, 0)]] [.sl (.came b_a0x2) n_a0x2 a0x2 91] = some (.a (.r a0 42 [(2, HOLE)]), .newS (some 1000000) n_a0x2 a0x2 72, true) := by
  have hz : a0.size = 3 := by rw [h_a0.layLen]; kernel_rfl
  have e0 := (h_a0.int (o := 0) (k := .i8) (by kernel_rfl)).1
  have e1 := (h_a0.int (o := 1) (k := .i8) (by kernel_rfl)).1
  have e2 := h_a0.nil (o := 2) (by kernel_rfl)
  have he : (#[.int .i8 (num a0 0), .int .i8 (num a0 1), .slice none 0 0] : Array Value) = a0 := arr_ext fun i => by
    match i with
    | 0 => exact e0.symm
    | 1 => exact e1.symm
    | 2 => exact e2.symm
    | i + 3 => rw [Array.getElem?_eq_none (by simp), Array.getElem?_eq_none (by omega)]
  refine (laws_toPlan_ans 1000 a0 b_a0x2 n_a0x2 a0x2).trans ?_
  rw [hg, he]
  rfl
noncomputable def laws_toPlan_con : Con := fun args h => match args, h with
  | [.r a0 31 [(2, 0)]], [.sl (.came b_a0x2) n_a0x2 a0x2 91] => some (.a (.r a0 42 [(2, HOLE)]), .newS (some 1000000) n_a0x2 a0x2 72, decide (n_a0x2 ≤ 1048576))
  | _, _ => none
theorem laws_toPlan_enter : ∀ args w, (callFunc 10 args).run Try.prog w = .ok (.enter 10 args) w := enter_ok (fn := Try.f10) (by kernel_rfl) (by kernel_rfl) (by kernel_rfl)
theorem laws_toPlan_ok : ConOk Try.prog 10 laws_toPlan_con := (ans_ok (N := 1000) (by kernel_rfl) (mkΓ_cons (con_ok laws_toReleaseS_ok) laws_toReleaseS_enter mkΓ_nil) (fn := Try.f10) (by kernel_rfl) (by kernel_rfl) []).of (by
  intro ρ h w args vals r e hA hH hr
  unfold laws_toPlan_con at hr
  split at hr
  · rename_i a0 b_a0x2 n_a0x2 a0x2
    obtain ⟨rfl, hg⟩ := Prod.mk.inj (Option.some.inj hr)
    obtain ⟨rfl, hg2⟩ := Prod.mk.inj hg
    exact laws_toPlan_main a0 b_a0x2 n_a0x2 a0x2 (hA.wtr 0 rfl) (hH.slw 0 rfl) hg2
  · cases hr)

theorem laws_eqPlan_ans (N : Nat) (a0 : Array Value) (a1 : Array Value) (b_a0x2 : Option (Option Addr)) (n_a0x2 : Nat) (a0x2 : Array Value) (b_a1x2 : Option (Option Addr)) (n_a1x2 : Nat) (a1x2 : Array Value) : ansV Try.prog (mkΓ [(32, con laws_eqReleaseS_con)]) N Try.f12 [] [.r a0 42 [(2, 0)], .r a1 42 [(2, 1)]] [.sl (.came b_a0x2) n_a0x2 a0x2 72, .sl (.came b_a1x2) n_a1x2 a1x2 72] = (bif ((num a0 0) != (num a1 0)) then (some (.a (.b (false)), .none, true))
    else (bif ((num a0 1) != (num a1 1)) then (some (.a (.b (false)), .none, true))
      else (bif (!((decide (n_a0x2 = n_a1x2) && sameB a0x2 a1x2))) then (some (.a (.b (false)), .none, true))
        else (some (.a (.b (true)), .none, true))))) := by kernel_rfl

noncomputable def laws_eqPlan_v0 (a0 : Array Value) (a1 : Array Value) (b_a0x2 : Option (Option Addr)) (n_a0x2 : Nat) (a0x2 : Array Value) (b_a1x2 : Option (Option Addr)) (n_a1x2 : Nat) (a1x2 : Array Value) : Bool := (bif ((num a0 0) != (num a1 0)) then false else (bif ((num a0 1) != (num a1 1)) then false else (bif (!((decide (n_a0x2 = n_a1x2) && sameB a0x2 a1x2))) then false else true)))

theorem laws_eqPlan_main (a0 : Array Value) (a1 : Array Value) (b_a0x2 : Option (Option Addr)) (n_a0x2 : Nat) (a0x2 : Array Value) (b_a1x2 : Option (Option Addr)) (n_a1x2 : Nat) (a1x2 : Array Value) (h_a0 : WT Try.prog 42 a0) (h_a1 : WT Try.prog 42 a1) (h_a0x2 : a0x2.size = n_a0x2 * (lay Try.prog 72).length ∧ (∀ k, k < n_a0x2 → WT Try.prog 72 (a0x2.extract (k * (lay Try.prog 72).length) (k * (lay Try.prog 72).length + (lay Try.prog 72).length))) ∧ n_a0x2 ≤ 9223372036854775807) (h_a1x2 : a1x2.size = n_a1x2 * (lay Try.prog 72).length ∧ (∀ k, k < n_a1x2 → WT Try.prog 72 (a1x2.extract (k * (lay Try.prog 72).length) (k * (lay Try.prog 72).length + (lay Try.prog 72).length))) ∧ n_a1x2 ≤ 9223372036854775807) (hg : (true) = true) : ansV Try.prog (mkΓ [(32, con laws_eqReleaseS_con)]) 1000 Try.f12 [] [.r a0 42 [(2, 0)], .r a1 42 [(2, 1)]] [.sl (.came b_a0x2) n_a0x2 a0x2 72, .sl (.came b_a1x2) n_a1x2 a1x2 72] = some (.a (.b ((laws_eqPlan_v0 a0 a1 b_a0x2 n_a0x2 a0x2 b_a1x2 n_a1x2 a1x2))), .none, true) := by
  refine (laws_eqPlan_ans 1000 a0 a1 b_a0x2 n_a0x2 a0x2 b_a1x2 n_a1x2 a1x2).trans ?_
  unfold laws_eqPlan_v0
  revert hg
  generalize (((num a0 0) != (num a1 0))) = b2
  intro hg
  cases b2
  · skip
    revert hg
    generalize (((num a0 1) != (num a1 1))) = b4
    intro hg
    cases b4
    · skip
      revert hg
      generalize ((!((decide (n_a0x2 = n_a1x2) && sameB a0x2 a1x2)))) = b6
      intro hg
      cases b6
      · skip
        first | (simp only [cond_true, cond_false, Bool.and_true, Bool.true_and, Bool.and_false, Bool.false_and]; done) | rfl | exact (nomatch (hg : false = true))
      · skip
        first | (simp only [cond_true, cond_false, Bool.and_true, Bool.true_and, Bool.and_false, Bool.false_and]; done) | rfl | exact (nomatch (hg : false = true))
    · skip
      first | (simp only [cond_true, cond_false, Bool.and_true, Bool.true_and, Bool.and_false, Bool.false_and]; done) | rfl | exact (nomatch (hg : false = true))
  · skip
    first | (simp only [cond_true, cond_false, Bool.and_true, Bool.true_and, Bool.and_false, Bool.false_and]; done) | rfl | exact (nomatch (hg : false = true))
noncomputable def laws_eqPlan_con : Con := fun args h => match args, h with
  | [.r a0 42 [(2, 0)], .r a1 42 [(2, 1)]], [.sl (.came b_a0x2) n_a0x2 a0x2 72, .sl (.came b_a1x2) n_a1x2 a1x2 72] => some (.a (.b ((laws_eqPlan_v0 a0 a1 b_a0x2 n_a0x2 a0x2 b_a1x2 n_a1x2 a1x2))), .none, true)
  | _, _ => none
theorem laws_eqPlan_enter : ∀ args w, (callFunc 12 args).run Try.prog w = .ok (.enter 12 args) w := enter_ok (fn := Try.f12) (by kernel_rfl) (by kernel_rfl) (by kernel_rfl)
theorem laws_eqPlan_ok : ConOk Try.prog 12 laws_eqPlan_con := (ans_ok (N := 1000) (by kernel_rfl) (mkΓ_cons (con_ok laws_eqReleaseS_ok) laws_eqReleaseS_enter mkΓ_nil) (fn := Try.f12) (by kernel_rfl) (by kernel_rfl) []).of (by
  intro ρ h w args vals r e hA hH hr
  unfold laws_eqPlan_con at hr
  split at hr
  · rename_i a0 a1 b_a0x2 n_a0x2 a0x2 b_a1x2 n_a1x2 a1x2
    obtain ⟨rfl, hg⟩ := Prod.mk.inj (Option.some.inj hr)
    obtain ⟨rfl, hg2⟩ := Prod.mk.inj hg
    exact laws_eqPlan_main a0 a1 b_a0x2 n_a0x2 a0x2 b_a1x2 n_a1x2 a1x2 (hA.wtr 0 rfl) (hA.wtr 1 rfl) (hH.slw 0 rfl) (hH.slw 1 rfl) hg2
  · cases hr)

theorem laws_szPlan_ans (N : Nat) (a0 : Array Value) (a1 : Int) (b_a0x2 : Option (Option Addr)) (n_a0x2 : Nat) (a0x2 : Array Value) : ansV Try.prog (mkΓ [(22, con laws_szReleaseS_con)]) N Try.f7 [] [.r a0 31 [(2, 0)], .i .i64 (a1)] [.sl (.came b_a0x2) n_a0x2 a0x2 91] = (bif decide ((laws_szReleaseS_v0 a1 b_a0x2 n_a0x2 a0x2) < (0 : Int)) then (some (.a (.i .i64 (-1 : Int)), .none, true))
    else (some (.a (.i .i64 (laws_szReleaseS_v0 a1 b_a0x2 n_a0x2 a0x2)), .none, true))) := by kernel_rfl

noncomputable def laws_szPlan_v0 (a0 : Array Value) (a1 : Int) (b_a0x2 : Option (Option Addr)) (n_a0x2 : Nat) (a0x2 : Array Value) : Int := (bif decide ((laws_szReleaseS_v0 a1 b_a0x2 n_a0x2 a0x2) < (0 : Int)) then (-1 : Int) else (laws_szReleaseS_v0 a1 b_a0x2 n_a0x2 a0x2))

theorem laws_szPlan_main (a0 : Array Value) (a1 : Int) (b_a0x2 : Option (Option Addr)) (n_a0x2 : Nat) (a0x2 : Array Value) (h_a0 : WT Try.prog 31 a0) (h_a1 : IntKind.i64.min ≤ a1 ∧ a1 ≤ IntKind.i64.max) (h_a0x2 : a0x2.size = n_a0x2 * (lay Try.prog 91).length ∧ (∀ k, k < n_a0x2 → WT Try.prog 91 (a0x2.extract (k * (lay Try.prog 91).length) (k * (lay Try.prog 91).length + (lay Try.prog 91).length))) ∧ n_a0x2 ≤ 9223372036854775807) (hg : (true) = true) : ansV Try.prog (mkΓ [(22, con laws_szReleaseS_con)]) 1000 Try.f7 [] [.r a0 31 [(2, 0)], .i .i64 (a1)] [.sl (.came b_a0x2) n_a0x2 a0x2 91] = some (.a (.i .i64 (laws_szPlan_v0 a0 a1 b_a0x2 n_a0x2 a0x2)), .none, true) := by
  refine (laws_szPlan_ans 1000 a0 a1 b_a0x2 n_a0x2 a0x2).trans ?_
  unfold laws_szPlan_v0
  revert hg
  generalize (decide ((laws_szReleaseS_v0 a1 b_a0x2 n_a0x2 a0x2) < (0 : Int))) = b2
  intro hg
  cases b2
  · skip
    first | (simp only [cond_true, cond_false, Bool.and_true, Bool.true_and, Bool.and_false, Bool.false_and]; done) | rfl | exact (nomatch (hg : false = true))
  · skip
    first | (simp only [cond_true, cond_false, Bool.and_true, Bool.true_and, Bool.and_false, Bool.false_and]; done) | rfl | exact (nomatch (hg : false = true))
noncomputable def laws_szPlan_con : Con := fun args h => match args, h with
  | [.r a0 31 [(2, 0)], .i .i64 a1], [.sl (.came b_a0x2) n_a0x2 a0x2 91] => some (.a (.i .i64 (laws_szPlan_v0 a0 a1 b_a0x2 n_a0x2 a0x2)), .none, true)
  | _, _ => none
theorem laws_szPlan_enter : ∀ args w, (callFunc 7 args).run Try.prog w = .ok (.enter 7 args) w := enter_ok (fn := Try.f7) (by kernel_rfl) (by kernel_rfl) (by kernel_rfl)
theorem laws_szPlan_ok : ConOk Try.prog 7 laws_szPlan_con := (ans_ok (N := 1000) (by kernel_rfl) (mkΓ_cons (con_ok laws_szReleaseS_ok) laws_szReleaseS_enter mkΓ_nil) (fn := Try.f7) (by kernel_rfl) (by kernel_rfl) []).of (by
  intro ρ h w args vals r e hA hH hr
  unfold laws_szPlan_con at hr
  split at hr
  · rename_i a0 a1 b_a0x2 n_a0x2 a0x2
    obtain ⟨rfl, hg⟩ := Prod.mk.inj (Option.some.inj hr)
    obtain ⟨rfl, hg2⟩ := Prod.mk.inj hg
    exact laws_szPlan_main a0 a1 b_a0x2 n_a0x2 a0x2 (hA.wtr 0 rfl) (hA.rng 1 rfl) (hH.slw 0 rfl) hg2
  · cases hr)

noncomputable def slices_Equal__impl_Release_impl_Release_t0 (b_a0 : Option (Option Addr)) (n_a0 : Nat) (a0 : Array Value) (b_a1 : Option (Option Addr)) (n_a1 : Nat) (a1 : Array Value) : St := (⟨.a (.l 0) :: .a (.l 1) :: .a (.u) :: .a (.u) :: .a (.b (false)) :: .a (.u) :: .a (.l 0) :: .a (.i .i64 (n_a0 : Int)) :: .a (.l 1) :: .a (.i .i64 (n_a1 : Int)) :: .a (.b (((n_a0 : Int) != (n_a1 : Int)))) :: .a (.l 0) :: .a (.i .i64 (n_a0 : Int)) :: .a (.i .i64 (0 : Int)) :: us 12 ([]), [.sl (.came b_a0) n_a0 a0 72, .sl (.came b_a1) n_a1 a1 72], []⟩ : St)

noncomputable def slices_Equal__impl_Release_impl_Release_e0 : Bool × Int → LS
  | (y0_4, y0_13) => ([.a (.b (y0_4)), .a (.i .i64 (y0_13))], [])

noncomputable def slices_Equal__impl_Release_impl_Release_x0 : (Stp (Bool × Int) (Bool × Int)) → Exit × LS
  | .more t => (.ret, slices_Equal__impl_Release_impl_Release_e0 t)
  | .done t => ((.exit 0), slices_Equal__impl_Release_impl_Release_e0 t)

noncomputable def slices_Equal__impl_Release_impl_Release_g0 (P : Program) (b_a0 : Option (Option Addr)) (n_a0 : Nat) (a0 : Array Value) (b_a1 : Option (Option Addr)) (n_a1 : Nat) (a1 : Array Value) : Bool × Int → Option (Stp (Bool × Int) (Stp (Bool × Int) (Bool × Int)))
  | (y0_4, y0_13) => bif decide (y0_13 < (n_a0 : Int)) then (bif (decide (0 ≤ y0_13) && decide (y0_13 < (n_a0 : Int))) then (bif (decide (0 ≤ y0_13) && decide (y0_13 < (n_a1 : Int))) then (bif (!(sameB (a0.extract ((y0_13).toNat * 3) (((y0_13).toNat * 3) + 3)) (a1.extract ((y0_13).toNat * 3) (((y0_13).toNat * 3) + 3)))) then (some (.done (.more (false, y0_13))))
          else (some (.more (y0_4, (IntKind.i64.wrap (y0_13 + (1 : Int)))))))
        else (none))
      else (none))
    else (some (.done (.done (y0_4, y0_13))))

theorem slices_Equal__impl_Release_impl_Release_s0 (N : Nat) (b_a0 : Option (Option Addr)) (n_a0 : Nat) (a0 : Array Value) (b_a1 : Option (Option Addr)) (n_a1 : Nat) (a1 : Array Value) : ∀ t : Bool × Int, stepV Try.prog (mkΓ []) N (cAt (codeOf Try.f34) [1, 1, 0, 1, 0, 0]) (pAt (mkPlan (codeOf Try.f34) [([4, 13], [])]).1 [1, 1, 0, 1, 0]) [4, 13] [] (slices_Equal__impl_Release_impl_Release_t0 b_a0 n_a0 a0 b_a1 n_a1 a1) (slices_Equal__impl_Release_impl_Release_e0 t) = mapS slices_Equal__impl_Release_impl_Release_e0 slices_Equal__impl_Release_impl_Release_x0 (slices_Equal__impl_Release_impl_Release_g0 Try.prog b_a0 n_a0 a0 b_a1 n_a1 a1 t) := by
  rintro ⟨y0_4, y0_13⟩
  refine Eq.trans (b := (bif decide (y0_13 < (n_a0 : Int)) then (bif (decide (0 ≤ y0_13) && decide (y0_13 < (n_a0 : Int))) then (bif (decide (0 ≤ y0_13) && decide (y0_13 < (n_a1 : Int))) then (bif (!(sameB (a0.extract ((y0_13).toNat * 3) (((y0_13).toNat * 3) + 3)) (a1.extract ((y0_13).toNat * 3) (((y0_13).toNat * 3) + 3)))) then (some (.done (.ret, ([.a (.b (false)), .a (.i .i64 (y0_13))], []))))
          else (some (.more ([.a (.b (y0_4)), .a (.i .i64 (IntKind.i64.wrap (y0_13 + (1 : Int))))], []))))
        else (none))
      else (none))
    else (some (.done ((.exit 0), ([.a (.b (y0_4)), .a (.i .i64 (y0_13))], [])))))) (by kernel_rfl) ?_
  simp only [slices_Equal__impl_Release_impl_Release_g0, mapS_cond, mapS_more, mapS_done, mapS_none, slices_Equal__impl_Release_impl_Release_e0, slices_Equal__impl_Release_impl_Release_x0]

noncomputable def slices_Equal__impl_Release_impl_Release_k0_0 (P : Program) (N : Nat) (b_a0 : Option (Option Addr)) (n_a0 : Nat) (a0 : Array Value) (b_a1 : Option (Option Addr)) (n_a1 : Nat) (a1 : Array Value) (z0_4 : Bool) (z0_13 : Int) : Option (SV × Eff × Bool) := some (.a (.b (z0_4)), .none, true)

theorem slices_Equal__impl_Release_impl_Release_k0_0_eq (N : Nat) (b_a0 : Option (Option Addr)) (n_a0 : Nat) (a0 : Array Value) (b_a1 : Option (Option Addr)) (n_a1 : Nat) (a1 : Array Value) (z0_4 : Bool) (z0_13 : Int) : (kBlock 0 (kSeq (veC Try.prog (mkΓ []) N (cAt (codeOf Try.f34) [1, 1, 1]) (pAt (mkPlan (codeOf Try.f34) [([4, 13], [])]).1 [1, 1, 1]) (SV × Eff × Bool)) (finK Try.prog [.sl (.came b_a0) n_a0 a0 72, .sl (.came b_a1) n_a1 a1 72] [.tmp 4]))) .ret (left (writes (cAt (codeOf Try.f34) [1, 1, 0, 1, 0, 0])) [4, 13] [] (slices_Equal__impl_Release_impl_Release_t0 b_a0 n_a0 a0 b_a1 n_a1 a1) ([.a (.b (z0_4)), .a (.i .i64 (z0_13))], [])) = slices_Equal__impl_Release_impl_Release_k0_0 Try.prog N b_a0 n_a0 a0 b_a1 n_a1 a1 z0_4 z0_13 := by
  refine Eq.trans (b := (some (.a (.b (z0_4)), .none, true))) (by kernel_rfl) ?_
  rfl

noncomputable def slices_Equal__impl_Release_impl_Release_k0_1 (P : Program) (N : Nat) (b_a0 : Option (Option Addr)) (n_a0 : Nat) (a0 : Array Value) (b_a1 : Option (Option Addr)) (n_a1 : Nat) (a1 : Array Value) (z0_4 : Bool) (z0_13 : Int) : Option (SV × Eff × Bool) := some (.a (.b (true)), .none, true)

theorem slices_Equal__impl_Release_impl_Release_k0_1_eq (N : Nat) (b_a0 : Option (Option Addr)) (n_a0 : Nat) (a0 : Array Value) (b_a1 : Option (Option Addr)) (n_a1 : Nat) (a1 : Array Value) (z0_4 : Bool) (z0_13 : Int) : (kBlock 0 (kSeq (veC Try.prog (mkΓ []) N (cAt (codeOf Try.f34) [1, 1, 1]) (pAt (mkPlan (codeOf Try.f34) [([4, 13], [])]).1 [1, 1, 1]) (SV × Eff × Bool)) (finK Try.prog [.sl (.came b_a0) n_a0 a0 72, .sl (.came b_a1) n_a1 a1 72] [.tmp 4]))) (.exit 0) (left (writes (cAt (codeOf Try.f34) [1, 1, 0, 1, 0, 0])) [4, 13] [] (slices_Equal__impl_Release_impl_Release_t0 b_a0 n_a0 a0 b_a1 n_a1 a1) ([.a (.b (z0_4)), .a (.i .i64 (z0_13))], [])) = slices_Equal__impl_Release_impl_Release_k0_1 Try.prog N b_a0 n_a0 a0 b_a1 n_a1 a1 z0_4 z0_13 := by
  refine Eq.trans (b := (some (.a (.b (true)), .none, true))) (by kernel_rfl) ?_
  rfl

theorem slices_Equal__impl_Release_impl_Release_n0 (N : Nat) (b_a0 : Option (Option Addr)) (n_a0 : Nat) (a0 : Array Value) (b_a1 : Option (Option Addr)) (n_a1 : Nat) (a1 : Array Value) : bindX (iterO (stepV Try.prog (mkΓ []) N (cAt (codeOf Try.f34) [1, 1, 0, 1, 0, 0]) (pAt (mkPlan (codeOf Try.f34) [([4, 13], [])]).1 [1, 1, 0, 1, 0]) [4, 13] [] (slices_Equal__impl_Release_impl_Release_t0 b_a0 n_a0 a0 b_a1 n_a1 a1)) N ([.a (.b (false)), .a (.i .i64 (0 : Int))], [])) (fun e s => (kBlock 0 (kSeq (veC Try.prog (mkΓ []) N (cAt (codeOf Try.f34) [1, 1, 1]) (pAt (mkPlan (codeOf Try.f34) [([4, 13], [])]).1 [1, 1, 1]) (SV × Eff × Bool)) (finK Try.prog [.sl (.came b_a0) n_a0 a0 72, .sl (.came b_a1) n_a1 a1 72] [.tmp 4]))) e (left (writes (cAt (codeOf Try.f34) [1, 1, 0, 1, 0, 0])) [4, 13] [] (slices_Equal__impl_Release_impl_Release_t0 b_a0 n_a0 a0 b_a1 n_a1 a1) s)) = nodeX (iterO (slices_Equal__impl_Release_impl_Release_g0 Try.prog b_a0 n_a0 a0 b_a1 n_a1 a1) N (false, (0 : Int))) (st2 (fun x => slices_Equal__impl_Release_impl_Release_k0_0 Try.prog N b_a0 n_a0 a0 b_a1 n_a1 a1 x.1 x.2) (fun x => slices_Equal__impl_Release_impl_Release_k0_1 Try.prog N b_a0 n_a0 a0 b_a1 n_a1 a1 x.1 x.2)) := by
  refine loop_node slices_Equal__impl_Release_impl_Release_e0 slices_Equal__impl_Release_impl_Release_x0 _ _ (slices_Equal__impl_Release_impl_Release_s0 N b_a0 n_a0 a0 b_a1 n_a1 a1) N (false, (0 : Int)) _ _ ?_
  intro x
  cases x with
  | more x => exact slices_Equal__impl_Release_impl_Release_k0_0_eq N b_a0 n_a0 a0 b_a1 n_a1 a1 x.1 x.2
  | done x => exact slices_Equal__impl_Release_impl_Release_k0_1_eq N b_a0 n_a0 a0 b_a1 n_a1 a1 x.1 x.2

theorem slices_Equal__impl_Release_impl_Release_ans (N : Nat) (b_a0 : Option (Option Addr)) (n_a0 : Nat) (a0 : Array Value) (b_a1 : Option (Option Addr)) (n_a1 : Nat) (a1 : Array Value) : ansV Try.prog (mkΓ []) N Try.f34 [([4, 13], [])] [.l 0, .l 1] [.sl (.came b_a0) n_a0 a0 72, .sl (.came b_a1) n_a1 a1 72] = (bif ((n_a0 : Int) != (n_a1 : Int)) then (some (.a (.b (false)), .none, true))
    else (nodeX (iterO (slices_Equal__impl_Release_impl_Release_g0 Try.prog b_a0 n_a0 a0 b_a1 n_a1 a1) N (false, (0 : Int))) (st2 (fun x => slices_Equal__impl_Release_impl_Release_k0_0 Try.prog N b_a0 n_a0 a0 b_a1 n_a1 a1 x.1 x.2) (fun x => slices_Equal__impl_Release_impl_Release_k0_1 Try.prog N b_a0 n_a0 a0 b_a1 n_a1 a1 x.1 x.2)))) := by
  refine Eq.trans (b := (bif ((n_a0 : Int) != (n_a1 : Int)) then (some (.a (.b (false)), .none, true))
    else (bindX (iterO (stepV Try.prog (mkΓ []) N (cAt (codeOf Try.f34) [1, 1, 0, 1, 0, 0]) (pAt (mkPlan (codeOf Try.f34) [([4, 13], [])]).1 [1, 1, 0, 1, 0]) [4, 13] [] (slices_Equal__impl_Release_impl_Release_t0 b_a0 n_a0 a0 b_a1 n_a1 a1)) N ([.a (.b (false)), .a (.i .i64 (0 : Int))], [])) (fun e s => (kBlock 0 (kSeq (veC Try.prog (mkΓ []) N (cAt (codeOf Try.f34) [1, 1, 1]) (pAt (mkPlan (codeOf Try.f34) [([4, 13], [])]).1 [1, 1, 1]) (SV × Eff × Bool)) (finK Try.prog [.sl (.came b_a0) n_a0 a0 72, .sl (.came b_a1) n_a1 a1 72] [.tmp 4]))) e (left (writes (cAt (codeOf Try.f34) [1, 1, 0, 1, 0, 0])) [4, 13] [] (slices_Equal__impl_Release_impl_Release_t0 b_a0 n_a0 a0 b_a1 n_a1 a1) s))))) (by kernel_rfl) ?_
  simp only [slices_Equal__impl_Release_impl_Release_n0 N b_a0 n_a0 a0 b_a1 n_a1 a1]

theorem slices_Equal__impl_Release_impl_Release_main (b_a0 : Option (Option Addr)) (n_a0 : Nat) (a0 : Array Value) (b_a1 : Option (Option Addr)) (n_a1 : Nat) (a1 : Array Value) (h_a0 : a0.size = n_a0 * (lay Try.prog 72).length ∧ (∀ k, k < n_a0 → WT Try.prog 72 (a0.extract (k * (lay Try.prog 72).length) (k * (lay Try.prog 72).length + (lay Try.prog 72).length))) ∧ n_a0 ≤ 9223372036854775807) (h_a1 : a1.size = n_a1 * (lay Try.prog 72).length ∧ (∀ k, k < n_a1 → WT Try.prog 72 (a1.extract (k * (lay Try.prog 72).length) (k * (lay Try.prog 72).length + (lay Try.prog 72).length))) ∧ n_a1 ≤ 9223372036854775807) (hg : (true) = true) : ansV Try.prog (mkΓ []) 18446744073709551616 Try.f34 [([4, 13], [])] [.l 0, .l 1] [.sl (.came b_a0) n_a0 a0 72, .sl (.came b_a1) n_a1 a1 72] = some (.a (.b ((decide (n_a0 = n_a1) && sameB a0 a1))), .none, true) := by
  have hm : (lay Try.prog 72).length = 3 := by kernel_rfl
  obtain ⟨s1, s2, s3⟩ := h_a0
  obtain ⟨t1, t2, t3⟩ := h_a1
  rw [hm] at s1 s2 t1 t2
  have hq : (lay Try.prog 72)[0]? = some 0 := by kernel_rfl
  refine (slices_Equal__impl_Release_impl_Release_ans 18446744073709551616 b_a0 n_a0 a0 b_a1 n_a1 a1).trans ?_
  by_cases hl : n_a0 = n_a1
  case neg =>
    rw [decide_eq_false hl, show ((n_a0 : Int) != (n_a1 : Int)) = true from bne_iff_ne.2 (by omega)]
    rfl
  subst hl
  rw [decide_eq_true rfl, show ((n_a0 : Int) != (n_a0 : Int)) = false from bne_self_eq_false _]
  simp only [cond_false, Bool.true_and]
  have hb : sameB a0 a1 = true ↔ ∀ k, k < n_a0 → (fun k => sameB (a0.extract (k * 3) (k * 3 + 3)) (a1.extract (k * 3) (k * 3 + 3))) k = true := by
    constructor
    · intro h k hk
      rw [sameB_iff.1 h]
      exact sameB_self _
    · intro h
      refine sameB_iff.2 ?_
      exact ext_parts (n := n_a0) (m := 3) (by omega) s1 t1 (fun k hk => sameB_iff.1 (h k hk))
  refine (iter_first (g := slices_Equal__impl_Release_impl_Release_g0 Try.prog b_a0 n_a0 a0 b_a1 n_a0 a1) (fun k => (false, (k : Int))) (fun k => sameB (a0.extract (k * 3) (k * 3 + 3)) (a1.extract (k * 3) (k * 3 + 3))) n_a0 (N := 18446744073709551616) (xd := .done (false, (n_a0 : Int))) (by omega) (fun k hk hp => by
    have h1 : decide ((k : Int) < (n_a0 : Int)) = true := decide_eq_true (by omega)
    have h0 : decide (0 ≤ (k : Int)) = true := decide_eq_true (by omega)
    have h3 : IntKind.i64.wrap ((k : Int) + 1) = ((k + 1 : Nat) : Int) := by rw [IntWalk.i64_in _ (by omega)]; omega
    have hp' : sameB (a0.extract (k * 3) (k * 3 + 3)) (a1.extract (k * 3) (k * 3 + 3)) = true := hp
    simp only [slices_Equal__impl_Release_impl_Release_g0, h1, h0, Bool.and_self, Int.toNat_natCast, cond_true, h3, hp', Bool.not_true, cond_false]) (by
    have h1 : decide ((n_a0 : Int) < (n_a0 : Int)) = false := decide_eq_false (by omega)
    simp only [slices_Equal__impl_Release_impl_Release_g0, h1, cond_false]) (sameB a0 a1) hb (some (.a (.b true), .none, true)) (some (.a (.b false), .none, true)) rfl (fun k hk hp => by
    refine ⟨.more (false, (k : Int)), ?_, rfl⟩
    have h1 : decide ((k : Int) < (n_a0 : Int)) = true := decide_eq_true (by omega)
    have h0 : decide (0 ≤ (k : Int)) = true := decide_eq_true (by omega)
    have hp' : sameB (a0.extract (k * 3) (k * 3 + 3)) (a1.extract (k * 3) (k * 3 + 3)) = false := hp
    simp only [slices_Equal__impl_Release_impl_Release_g0, h1, h0, Bool.and_self, Int.toNat_natCast, cond_true, hp', Bool.not_false])).trans ?_
  cases sameB a0 a1 <;> rfl
noncomputable def slices_Equal__impl_Release_impl_Release_con : Con := fun args h => match args, h with
  | [.l 0, .l 1], [.sl (.came b_a0) n_a0 a0 72, .sl (.came b_a1) n_a1 a1 72] => some (.a (.b ((decide (n_a0 = n_a1) && sameB a0 a1))), .none, true)
  | _, _ => none
theorem slices_Equal__impl_Release_impl_Release_enter : ∀ args w, (callFunc 34 args).run Try.prog w = .ok (.enter 34 args) w := enter_ok (fn := Try.f34) (by kernel_rfl) (by kernel_rfl) (by kernel_rfl)
theorem slices_Equal__impl_Release_impl_Release_ok : ConOk Try.prog 34 slices_Equal__impl_Release_impl_Release_con := (ans_ok (N := 18446744073709551616) (by kernel_rfl) mkΓ_nil (fn := Try.f34) (by kernel_rfl) (by kernel_rfl) [([4, 13], [])]).of (by
  intro ρ h w args vals r e hA hH hr
  unfold slices_Equal__impl_Release_impl_Release_con at hr
  split at hr
  · rename_i b_a0 n_a0 a0 b_a1 n_a1 a1
    obtain ⟨rfl, hg⟩ := Prod.mk.inj (Option.some.inj hr)
    obtain ⟨rfl, hg2⟩ := Prod.mk.inj hg
    exact slices_Equal__impl_Release_impl_Release_main b_a0 n_a0 a0 b_a1 n_a1 a1 (hH.slw 0 rfl) (hH.slw 1 rfl) hg2
  · cases hr)

noncomputable def impl_SamePlan_G : Cons := (mkΓ [(34, con slices_Equal__impl_Release_impl_Release_con)])
theorem impl_SamePlan_ans (N : Nat) (a0 : Array Value) (a1 : Array Value) (b_a0x2 : Option (Option Addr)) (n_a0x2 : Nat) (a0x2 : Array Value) (b_a1x2 : Option (Option Addr)) (n_a1x2 : Nat) (a1x2 : Array Value) : ansV Try.prog impl_SamePlan_G N Try.f14 [] [.r a0 42 [(2, 0)], .r a1 42 [(2, 1)]] [.sl (.came b_a0x2) n_a0x2 a0x2 72, .sl (.came b_a1x2) n_a1x2 a1x2 72] = (bif ((num a0 0) == (num a1 0)) then (bif ((num a0 1) == (num a1 1)) then (some (.a (.b ((decide (n_a0x2 = n_a1x2) && sameB a0x2 a1x2))), .none, true))
      else (some (.a (.b (false)), .none, true)))
    else (some (.a (.b (false)), .none, true))) := by kernel_rfl

noncomputable def impl_SamePlan_v0 (a0 : Array Value) (a1 : Array Value) (b_a0x2 : Option (Option Addr)) (n_a0x2 : Nat) (a0x2 : Array Value) (b_a1x2 : Option (Option Addr)) (n_a1x2 : Nat) (a1x2 : Array Value) : Bool := (bif ((num a0 0) == (num a1 0)) then (bif ((num a0 1) == (num a1 1)) then (decide (n_a0x2 = n_a1x2) && sameB a0x2 a1x2) else false) else false)

theorem impl_SamePlan_main (a0 : Array Value) (a1 : Array Value) (b_a0x2 : Option (Option Addr)) (n_a0x2 : Nat) (a0x2 : Array Value) (b_a1x2 : Option (Option Addr)) (n_a1x2 : Nat) (a1x2 : Array Value) (h_a0 : WT Try.prog 42 a0) (h_a1 : WT Try.prog 42 a1) (h_a0x2 : a0x2.size = n_a0x2 * (lay Try.prog 72).length ∧ (∀ k, k < n_a0x2 → WT Try.prog 72 (a0x2.extract (k * (lay Try.prog 72).length) (k * (lay Try.prog 72).length + (lay Try.prog 72).length))) ∧ n_a0x2 ≤ 9223372036854775807) (h_a1x2 : a1x2.size = n_a1x2 * (lay Try.prog 72).length ∧ (∀ k, k < n_a1x2 → WT Try.prog 72 (a1x2.extract (k * (lay Try.prog 72).length) (k * (lay Try.prog 72).length + (lay Try.prog 72).length))) ∧ n_a1x2 ≤ 9223372036854775807) (hg : (true) = true) : ansV Try.prog impl_SamePlan_G 1000 Try.f14 [] [.r a0 42 [(2, 0)], .r a1 42 [(2, 1)]] [.sl (.came b_a0x2) n_a0x2 a0x2 72, .sl (.came b_a1x2) n_a1x2 a1x2 72] = some (.a (.b ((impl_SamePlan_v0 a0 a1 b_a0x2 n_a0x2 a0x2 b_a1x2 n_a1x2 a1x2))), .none, true) := by
  refine (impl_SamePlan_ans 1000 a0 a1 b_a0x2 n_a0x2 a0x2 b_a1x2 n_a1x2 a1x2).trans ?_
  unfold impl_SamePlan_v0
  revert hg
  generalize (((num a0 0) == (num a1 0))) = b2
  intro hg
  cases b2
  · skip
    first | (simp only [cond_true, cond_false, Bool.and_true, Bool.true_and, Bool.and_false, Bool.false_and]; done) | rfl | exact (nomatch (hg : false = true))
  · skip
    revert hg
    generalize (((num a0 1) == (num a1 1))) = b4
    intro hg
    cases b4
    · skip
      first | (simp only [cond_true, cond_false, Bool.and_true, Bool.true_and, Bool.and_false, Bool.false_and]; done) | rfl | exact (nomatch (hg : false = true))
    · skip
      first | (simp only [cond_true, cond_false, Bool.and_true, Bool.true_and, Bool.and_false, Bool.false_and]; done) | rfl | exact (nomatch (hg : false = true))
noncomputable def impl_SamePlan_con : Con := fun args h => match args, h with
  | [.r a0 42 [(2, 0)], .r a1 42 [(2, 1)]], [.sl (.came b_a0x2) n_a0x2 a0x2 72, .sl (.came b_a1x2) n_a1x2 a1x2 72] => some (.a (.b ((impl_SamePlan_v0 a0 a1 b_a0x2 n_a0x2 a0x2 b_a1x2 n_a1x2 a1x2))), .none, true)
  | _, _ => none
theorem impl_SamePlan_enter : ∀ args w, (callFunc 14 args).run Try.prog w = .ok (.enter 14 args) w := enter_ok (fn := Try.f14) (by kernel_rfl) (by kernel_rfl) (by kernel_rfl)
theorem impl_SamePlan_ok : ConOk Try.prog 14 impl_SamePlan_con := (ans_ok (N := 1000) (by kernel_rfl) (mkΓ_cons (con_ok slices_Equal__impl_Release_impl_Release_ok) slices_Equal__impl_Release_impl_Release_enter mkΓ_nil) (fn := Try.f14) (by kernel_rfl) (by kernel_rfl) []).of (by
  intro ρ h w args vals r e hA hH hr
  unfold impl_SamePlan_con at hr
  split at hr
  · rename_i a0 a1 b_a0x2 n_a0x2 a0x2 b_a1x2 n_a1x2 a1x2
    obtain ⟨rfl, hg⟩ := Prod.mk.inj (Option.some.inj hr)
    obtain ⟨rfl, hg2⟩ := Prod.mk.inj hg
    exact impl_SamePlan_main a0 a1 b_a0x2 n_a0x2 a0x2 b_a1x2 n_a1x2 a1x2 (hA.wtr 0 rfl) (hA.wtr 1 rfl) (hH.slw 0 rfl) (hH.slw 1 rfl) hg2
  · cases hr)

theorem impl_voyageOf_ans (N : Nat) (a0 : Array Value) (a1 : Array Value) (b_a1x2 : Option (Option Addr)) (n_a1x2 : Nat) (a1x2 : Array Value) : ansV Try.prog (mkΓ []) N Try.f27 [] [.g a0 38, .r a1 42 [(2, 0)]] [.sl (.came b_a1x2) n_a1x2 a1x2 72] = (some (.a (.r ((spl (spl (zc Try.prog 66) 0 (#[.int .i64 (IntKind.i64.wrap (num a1 0)), .int .i64 (IntKind.i64.wrap (num a1 1))] : Array Value).toList) 2 a0.toList).setIfInBounds 365 (.slice none 0 0)) 66 [(365, 0)]), .none, true)) := by kernel_rfl



theorem impl_voyageOf_main (a0 : Array Value) (a1 : Array Value) (b_a1x2 : Option (Option Addr)) (n_a1x2 : Nat) (a1x2 : Array Value) (h_a0 : WT Try.prog 38 a0) (h_a1 : WT Try.prog 42 a1) (h_a1x2 : a1x2.size = n_a1x2 * (lay Try.prog 72).length ∧ (∀ k, k < n_a1x2 → WT Try.prog 72 (a1x2.extract (k * (lay Try.prog 72).length) (k * (lay Try.prog 72).length + (lay Try.prog 72).length))) ∧ n_a1x2 ≤ 9223372036854775807) (hg : (true) = true) : ansV Try.prog (mkΓ []) 1000 Try.f27 [] [.g a0 38, .r a1 42 [(2, 0)]] [.sl (.came b_a1x2) n_a1x2 a1x2 72] = some (.a (.r ((spl (spl (zc Try.prog 66) 0 (#[.int .i64 (IntKind.i64.wrap (num a1 0)), .int .i64 (IntKind.i64.wrap (num a1 1))] : Array Value).toList) 2 a0.toList).setIfInBounds 365 (.slice none 0 0)) 66 [(365, 0)]), .none, true) := by
  refine (impl_voyageOf_ans 1000 a0 a1 b_a1x2 n_a1x2 a1x2).trans ?_
  rfl
noncomputable def impl_voyageOf_con : Con := fun args h => match args, h with
  | [.g a0 38, .r a1 42 [(2, 0)]], [.sl (.came b_a1x2) n_a1x2 a1x2 72] => some (.a (.r ((spl (spl (zc Try.prog 66) 0 (#[.int .i64 (IntKind.i64.wrap (num a1 0)), .int .i64 (IntKind.i64.wrap (num a1 1))] : Array Value).toList) 2 a0.toList).setIfInBounds 365 (.slice none 0 0)) 66 [(365, 0)]), .none, true)
  | _, _ => none
theorem impl_voyageOf_enter : ∀ args w, (callFunc 27 args).run Try.prog w = .ok (.enter 27 args) w := enter_ok (fn := Try.f27) (by kernel_rfl) (by kernel_rfl) (by kernel_rfl)
theorem impl_voyageOf_ok : ConOk Try.prog 27 impl_voyageOf_con := (ans_ok (N := 1000) (by kernel_rfl) mkΓ_nil (fn := Try.f27) (by kernel_rfl) (by kernel_rfl) []).of (by
  intro ρ h w args vals r e hA hH hr
  unfold impl_voyageOf_con at hr
  split at hr
  · rename_i a0 a1 b_a1x2 n_a1x2 a1x2
    obtain ⟨rfl, hg⟩ := Prod.mk.inj (Option.some.inj hr)
    obtain ⟨rfl, hg2⟩ := Prod.mk.inj hg
    exact impl_voyageOf_main a0 a1 b_a1x2 n_a1x2 a1x2 (hA.wt 0 rfl) (hA.wtr 1 rfl) (hH.slw 0 rfl) hg2
  · cases hr)

theorem impl_planHours_areRight_ans (N : Nat) (a0 : Array Value) : ansV Try.prog (mkΓ [(53, con impl_hasTide_con)]) N Try.f29 [] [.g a0 64] [] = (bif (impl_hasTide_v0 (num a0 0)) then (bif decide ((num a0 1) ≥ (1 : Int)) then (some (.a (.b (decide ((num a0 1) ≤ (8 : Int)))), .none, true))
      else (some (.a (.b (false)), .none, true)))
    else (some (.a (.b (false)), .none, true))) := by kernel_rfl

noncomputable def impl_planHours_areRight_v0 (a0 : Array Value) : Bool := (bif (impl_hasTide_v0 (num a0 0)) then (bif decide ((num a0 1) ≥ (1 : Int)) then decide ((num a0 1) ≤ (8 : Int)) else false) else false)

theorem impl_planHours_areRight_main (a0 : Array Value) (h_a0 : WT Try.prog 64 a0) (hg : (true) = true) : ansV Try.prog (mkΓ [(53, con impl_hasTide_con)]) 1000 Try.f29 [] [.g a0 64] [] = some (.a (.b ((impl_planHours_areRight_v0 a0))), .none, true) := by
  refine (impl_planHours_areRight_ans 1000 a0).trans ?_
  unfold impl_planHours_areRight_v0
  revert hg
  generalize ((impl_hasTide_v0 (num a0 0))) = b2
  intro hg
  cases b2
  · skip
    first | (simp only [cond_true, cond_false, Bool.and_true, Bool.true_and, Bool.and_false, Bool.false_and]; done) | rfl | exact (nomatch (hg : false = true))
  · skip
    revert hg
    generalize (decide ((num a0 1) ≥ (1 : Int))) = b4
    intro hg
    cases b4
    · skip
      first | (simp only [cond_true, cond_false, Bool.and_true, Bool.true_and, Bool.and_false, Bool.false_and]; done) | rfl | exact (nomatch (hg : false = true))
    · skip
      first | (simp only [cond_true, cond_false, Bool.and_true, Bool.true_and, Bool.and_false, Bool.false_and]; done) | rfl | exact (nomatch (hg : false = true))
noncomputable def impl_planHours_areRight_con : Con := fun args h => match args, h with
  | [.g a0 64], [] => some (.a (.b ((impl_planHours_areRight_v0 a0))), .none, true)
  | _, _ => none
theorem impl_planHours_areRight_enter : ∀ args w, (callFunc 29 args).run Try.prog w = .ok (.enter 29 args) w := enter_ok (fn := Try.f29) (by kernel_rfl) (by kernel_rfl) (by kernel_rfl)
theorem impl_planHours_areRight_ok : ConOk Try.prog 29 impl_planHours_areRight_con := (ans_ok (N := 1000) (by kernel_rfl) (mkΓ_cons (con_ok impl_hasTide_ok) impl_hasTide_enter mkΓ_nil) (fn := Try.f29) (by kernel_rfl) (by kernel_rfl) []).of (by
  intro ρ h w args vals r e hA hH hr
  unfold impl_planHours_areRight_con at hr
  split at hr
  · rename_i a0
    obtain ⟨rfl, hg⟩ := Prod.mk.inj (Option.some.inj hr)
    obtain ⟨rfl, hg2⟩ := Prod.mk.inj hg
    exact impl_planHours_areRight_main a0 (hA.wt 0 rfl) hg2
  · cases hr)

theorem impl_planHours_has_ans (N : Nat) (a0 : Array Value) (a1 : Int) : ansV Try.prog (mkΓ []) N Try.f56 [] [.g a0 64, .i .i64 (a1)] [] = (bif decide (a1 ≥ (0 : Int)) then (some (.a (.b (decide (a1 < (num a0 1)))), .none, true))
    else (some (.a (.b (false)), .none, true))) := by kernel_rfl

noncomputable def impl_planHours_has_v0 (a0 : Array Value) (a1 : Int) : Bool := (bif decide (a1 ≥ (0 : Int)) then decide (a1 < (num a0 1)) else false)

theorem impl_planHours_has_main (a0 : Array Value) (a1 : Int) (h_a0 : WT Try.prog 64 a0) (h_a1 : IntKind.i64.min ≤ a1 ∧ a1 ≤ IntKind.i64.max) (hg : (true) = true) : ansV Try.prog (mkΓ []) 1000 Try.f56 [] [.g a0 64, .i .i64 (a1)] [] = some (.a (.b ((impl_planHours_has_v0 a0 a1))), .none, true) := by
  refine (impl_planHours_has_ans 1000 a0 a1).trans ?_
  unfold impl_planHours_has_v0
  revert hg
  generalize (decide (a1 ≥ (0 : Int))) = b2
  intro hg
  cases b2
  · skip
    first | (simp only [cond_true, cond_false, Bool.and_true, Bool.true_and, Bool.and_false, Bool.false_and]; done) | rfl | exact (nomatch (hg : false = true))
  · skip
    first | (simp only [cond_true, cond_false, Bool.and_true, Bool.true_and, Bool.and_false, Bool.false_and]; done) | rfl | exact (nomatch (hg : false = true))
noncomputable def impl_planHours_has_con : Con := fun args h => match args, h with
  | [.g a0 64, .i .i64 a1], [] => some (.a (.b ((impl_planHours_has_v0 a0 a1))), .none, true)
  | _, _ => none
theorem impl_planHours_has_enter : ∀ args w, (callFunc 56 args).run Try.prog w = .ok (.enter 56 args) w := enter_ok (fn := Try.f56) (by kernel_rfl) (by kernel_rfl) (by kernel_rfl)
theorem impl_planHours_has_ok : ConOk Try.prog 56 impl_planHours_has_con := (ans_ok (N := 1000) (by kernel_rfl) mkΓ_nil (fn := Try.f56) (by kernel_rfl) (by kernel_rfl) []).of (by
  intro ρ h w args vals r e hA hH hr
  unfold impl_planHours_has_con at hr
  split at hr
  · rename_i a0 a1
    obtain ⟨rfl, hg⟩ := Prod.mk.inj (Option.some.inj hr)
    obtain ⟨rfl, hg2⟩ := Prod.mk.inj hg
    exact impl_planHours_has_main a0 a1 (hA.wt 0 rfl) (hA.rng 1 rfl) hg2
  · cases hr)

noncomputable def impl_voyage_takes_G : Cons := (mkΓ [(54, con impl_hasCell_con), (55, con impl_isWater_con), (56, con impl_planHours_has_con)])
theorem impl_voyage_takes_ans (N : Nat) (a0 : Array Value) (a1 : Array Value) (b_a0x365 : Option (Option Addr)) (n_a0x365 : Nat) (a0x365 : Array Value) : ansV Try.prog impl_voyage_takes_G N Try.f30 [] [.r a0 66 [(365, 0)], .g a1 72] [.sl (.came b_a0x365) n_a0x365 a0x365 72] = (bif (impl_hasCell_v0 (a0.extract 2 (2 + 363)) (IntKind.i64.wrap (num a1 0))) then (bif decide (0 ≤ (IntKind.i64.wrap (num a1 0))) then (bif (impl_isWater_v0 (a0.extract 2 (2 + 363)) (IntKind.i64.wrap (num a1 0))) then (bif (impl_planHours_has_v0 (a0.extract 0 (0 + 2)) (IntKind.i64.wrap (num a1 1))) then (bif decide ((num a1 2) ≥ (1 : Int)) then (some (.a (.b (decide ((num a1 2) ≤ (200 : Int)))), .none, true))
            else (some (.a (.b (false)), .none, true)))
          else (some (.a (.b (false)), .none, true)))
        else (some (.a (.b (false)), .none, true)))
      else (none))
    else (some (.a (.b (false)), .none, true))) := by kernel_rfl

noncomputable def impl_voyage_takes_v0 (a0 : Array Value) (a1 : Array Value) (b_a0x365 : Option (Option Addr)) (n_a0x365 : Nat) (a0x365 : Array Value) : Bool := (bif (impl_hasCell_v0 (a0.extract 2 (2 + 363)) (IntKind.i64.wrap (num a1 0))) then (bif (impl_isWater_v0 (a0.extract 2 (2 + 363)) (IntKind.i64.wrap (num a1 0))) then (bif (impl_planHours_has_v0 (a0.extract 0 (0 + 2)) (IntKind.i64.wrap (num a1 1))) then (bif decide ((num a1 2) ≥ (1 : Int)) then decide ((num a1 2) ≤ (200 : Int)) else false) else false) else false) else false)
noncomputable def impl_voyage_takes_gd (a0 : Array Value) (a1 : Array Value) (b_a0x365 : Option (Option Addr)) (n_a0x365 : Nat) (a0x365 : Array Value) : Bool := (bif (impl_hasCell_v0 (a0.extract 2 (2 + 363)) (IntKind.i64.wrap (num a1 0))) then decide (0 ≤ (IntKind.i64.wrap (num a1 0))) else true)

theorem impl_voyage_takes_main (a0 : Array Value) (a1 : Array Value) (b_a0x365 : Option (Option Addr)) (n_a0x365 : Nat) (a0x365 : Array Value) (h_a0 : WT Try.prog 66 a0) (h_a1 : WT Try.prog 72 a1) (h_a0x365 : a0x365.size = n_a0x365 * (lay Try.prog 72).length ∧ (∀ k, k < n_a0x365 → WT Try.prog 72 (a0x365.extract (k * (lay Try.prog 72).length) (k * (lay Try.prog 72).length + (lay Try.prog 72).length))) ∧ n_a0x365 ≤ 9223372036854775807) (hg : ((impl_voyage_takes_gd a0 a1 b_a0x365 n_a0x365 a0x365)) = true) : ansV Try.prog impl_voyage_takes_G 1000 Try.f30 [] [.r a0 66 [(365, 0)], .g a1 72] [.sl (.came b_a0x365) n_a0x365 a0x365 72] = some (.a (.b ((impl_voyage_takes_v0 a0 a1 b_a0x365 n_a0x365 a0x365))), .none, true) := by
  refine (impl_voyage_takes_ans 1000 a0 a1 b_a0x365 n_a0x365 a0x365).trans ?_
  unfold impl_voyage_takes_gd at hg
  unfold impl_voyage_takes_v0
  revert hg
  generalize ((impl_hasCell_v0 (a0.extract 2 (2 + 363)) (IntKind.i64.wrap (num a1 0)))) = b2
  intro hg
  cases b2
  · skip
    first | (simp only [cond_true, cond_false, Bool.and_true, Bool.true_and, Bool.and_false, Bool.false_and]; done) | rfl | exact (nomatch (hg : false = true))
  · skip
    revert hg
    generalize (decide (0 ≤ (IntKind.i64.wrap (num a1 0)))) = b4
    intro hg
    cases b4
    · skip
      first | exact (nomatch (hg : false = true)) | (simp only [cond_true, cond_false, Bool.and_true, Bool.true_and, Bool.and_false, Bool.false_and]; done) | rfl
    · skip
      revert hg
      generalize ((impl_isWater_v0 (a0.extract 2 (2 + 363)) (IntKind.i64.wrap (num a1 0)))) = b6
      intro hg
      cases b6
      · skip
        first | (simp only [cond_true, cond_false, Bool.and_true, Bool.true_and, Bool.and_false, Bool.false_and]; done) | rfl | exact (nomatch (hg : false = true))
      · skip
        revert hg
        generalize ((impl_planHours_has_v0 (a0.extract 0 (0 + 2)) (IntKind.i64.wrap (num a1 1)))) = b8
        intro hg
        cases b8
        · skip
          first | (simp only [cond_true, cond_false, Bool.and_true, Bool.true_and, Bool.and_false, Bool.false_and]; done) | rfl | exact (nomatch (hg : false = true))
        · skip
          revert hg
          generalize (decide ((num a1 2) ≥ (1 : Int))) = b10
          intro hg
          cases b10
          · skip
            first | (simp only [cond_true, cond_false, Bool.and_true, Bool.true_and, Bool.and_false, Bool.false_and]; done) | rfl | exact (nomatch (hg : false = true))
          · skip
            first | (simp only [cond_true, cond_false, Bool.and_true, Bool.true_and, Bool.and_false, Bool.false_and]; done) | rfl | exact (nomatch (hg : false = true))
noncomputable def impl_voyage_takes_con : Con := fun args h => match args, h with
  | [.r a0 66 [(365, 0)], .g a1 72], [.sl (.came b_a0x365) n_a0x365 a0x365 72] => some (.a (.b ((impl_voyage_takes_v0 a0 a1 b_a0x365 n_a0x365 a0x365))), .none, (impl_voyage_takes_gd a0 a1 b_a0x365 n_a0x365 a0x365))
  | _, _ => none
theorem impl_voyage_takes_enter : ∀ args w, (callFunc 30 args).run Try.prog w = .ok (.enter 30 args) w := enter_ok (fn := Try.f30) (by kernel_rfl) (by kernel_rfl) (by kernel_rfl)
theorem impl_voyage_takes_ok : ConOk Try.prog 30 impl_voyage_takes_con := (ans_ok (N := 1000) (by kernel_rfl) (mkΓ_cons (con_ok impl_hasCell_ok) impl_hasCell_enter (mkΓ_cons (con_ok impl_isWater_ok) impl_isWater_enter (mkΓ_cons (con_ok impl_planHours_has_ok) impl_planHours_has_enter mkΓ_nil))) (fn := Try.f30) (by kernel_rfl) (by kernel_rfl) []).of (by
  intro ρ h w args vals r e hA hH hr
  unfold impl_voyage_takes_con at hr
  split at hr
  · rename_i a0 a1 b_a0x365 n_a0x365 a0x365
    obtain ⟨rfl, hg⟩ := Prod.mk.inj (Option.some.inj hr)
    obtain ⟨rfl, hg2⟩ := Prod.mk.inj hg
    exact impl_voyage_takes_main a0 a1 b_a0x365 n_a0x365 a0x365 (hA.wtr 0 rfl) (hA.wt 1 rfl) (hH.slw 0 rfl) hg2
  · cases hr)


noncomputable def wsum (A : Array Value) : Nat → Int
  | 0 => 0
  | k + 1 => IntKind.i64.wrap (wsum A k + IntKind.i64.wrap (num (A.extract (k * 3) (k * 3 + 3)) 2))
noncomputable def relB (S : Array Value) (h : Int) (X : Array Value) : Bool := spec_l01Wet_v0 (IntKind.i64.wrap (num X 0)) S && (spec_l00In_v0 (IntKind.i64.wrap (num X 1)) 0 (IntKind.i64.wrap (h - 1)) && spec_l00In_v0 (IntKind.i64.wrap (num X 2)) 1 200)
noncomputable def relAll (S : Array Value) (h : Int) (n : Nat) (A : Array Value) : Bool := (List.range n).all (fun k => relB S h (A.extract (k * 3) (k * 3 + 3)))
theorem relAll_iff (S : Array Value) (h : Int) (n : Nat) (A : Array Value) : relAll S h n A = true ↔ ∀ k, k < n → (fun k => relB S h (A.extract (k * 3) (k * 3 + 3))) k = true := by
  unfold relAll
  rw [List.all_eq_true]
  exact ⟨fun h k hk => h k (List.mem_range.2 hk), fun h k hk => h k (List.mem_range.1 hk)⟩
noncomputable def planB (S p : Array Value) (n : Nat) (A : Array Value) : Bool := spec_l00In_v0 (IntKind.i64.wrap (num p 0)) 0 1 && (spec_l00In_v0 (IntKind.i64.wrap (num p 1)) 1 8 && (!decide ((n : Int) > 12) && (relAll S (IntKind.i64.wrap (num p 1)) n A && decide (wsum A n ≤ 1000))))
theorem voy_parts {S p : Array Value} (hS : S.size = 363) : ((spl (spl (zc Try.prog 66) 0 (#[.int .i64 (IntKind.i64.wrap (num p 0)), .int .i64 (IntKind.i64.wrap (num p 1))] : Array Value).toList) 2 S.toList).setIfInBounds 365 (.slice none 0 0)).extract 2 (2 + 363) = S ∧ ((spl (spl (zc Try.prog 66) 0 (#[.int .i64 (IntKind.i64.wrap (num p 0)), .int .i64 (IntKind.i64.wrap (num p 1))] : Array Value).toList) 2 S.toList).setIfInBounds 365 (.slice none 0 0)).extract 0 (0 + 2) = #[.int .i64 (IntKind.i64.wrap (num p 0)), .int .i64 (IntKind.i64.wrap (num p 1))] := by
  have hz : (zc Try.prog 66).size = 366 := by kernel_rfl
  generalize (zc Try.prog 66) = Z at hz
  have hl : S.toList.length = 363 := by rw [Array.length_toList, hS]
  constructor
  · refine Array.ext_getElem? fun i => ?_
    rw [Array.getElem?_extract, Array.getElem?_setIfInBounds, Array.size_setIfInBounds, spl_get _ _ _ (by rw [spl_size, hz, hl]; omega), spl_size, spl_size, hz, hl]
    by_cases hi : i < 363
    · rw [if_pos (by omega), if_neg (by omega), if_pos (by omega), Array.getElem?_toList, show 2 + i - 2 = i by omega]
    · rw [if_neg (by omega), Array.getElem?_eq_none (by omega)]
  · refine Array.ext_getElem? fun i => ?_
    rw [Array.getElem?_extract, Array.getElem?_setIfInBounds, Array.size_setIfInBounds, spl_get _ _ _ (by rw [spl_size, hz, hl]; omega), spl_get _ _ _ (by rw [hz]; simp), spl_size, spl_size, hz, hl]
    by_cases hi : i < 2
    · rw [if_pos (by omega), if_neg (by omega), if_neg (by omega), if_pos (by simp; omega), Array.getElem?_toList, show 0 + i - 0 = i by omega]
    · rw [if_neg (by omega), Array.getElem?_eq_none (by simp; omega)]
theorem takes_eq {S V X : Array Value} {h : Int} {x : Int} (bb : Option (Option Addr)) (n : Nat) (A : Array Value) (hS : 0 ≤ num S 2 ∧ num S 2 ≤ 18446744073709551615) (h1 : V.extract 2 (2 + 363) = S) (h2 : V.extract 0 (0 + 2) = #[.int .i64 x, .int .i64 h]) (hh : -128 ≤ h ∧ h ≤ 127) (hX : WT Try.prog 72 X) :
    impl_voyage_takes_gd V X bb n A = true ∧ impl_voyage_takes_v0 V X bb n A = relB S h X := by
  obtain ⟨-, b0⟩ := hX.int (o := 0) (k := .i8) (by kernel_rfl)
  obtain ⟨-, b1⟩ := hX.int (o := 1) (k := .i8) (by kernel_rfl)
  obtain ⟨-, b2⟩ := hX.int (o := 2) (k := .i16) (by kernel_rfl)
  have e1 : IntKind.i16.min = -32768 := rfl
  have e2 : IntKind.i16.max = 32767 := rfl
  have w2 : IntKind.i64.wrap (num X 2) = num X 2 := IntWalk.i64_in _ (by omega)
  have w3 : IntKind.i64.wrap (h - 1) = h - 1 := IntWalk.i64_in _ (by omega)
  have w4 : num (#[.int .i64 x, .int .i64 h] : Array Value) 1 = h := rfl
  unfold impl_voyage_takes_gd impl_voyage_takes_v0 relB spec_l01Wet_v0 spec_l00In_v0 impl_planHours_has_v0
  rw [h1, h2, cell_is, w2, w3, w4]
  cases hi : spec_l01Is_v0 (IntKind.i64.wrap (num X 0)) S with
  | false => exact ⟨rfl, rfl⟩
  | true =>
    have hr := is_range hi
    refine ⟨decide_eq_true hr.1, ?_⟩
    unfold impl_isWater_v0
    rw [land_dry hS hr]
    have e3 : decide (IntKind.i64.wrap (num X 1) < h) = decide (IntKind.i64.wrap (num X 1) ≤ h - 1) := decide_eq_decide.2 (by omega)
    rw [e3]
    cases spec_l01Dry_v0 (IntKind.i64.wrap (num X 0)) S <;> cases decide (IntKind.i64.wrap (num X 1) ≥ 0) <;> cases decide (IntKind.i64.wrap (num X 1) ≤ h - 1) <;> cases decide (num X 2 ≥ 1) <;> cases decide (num X 2 ≤ 200) <;> rfl

noncomputable def impl_voyage_bottles_t0 (a0 : Array Value) (b_a0x365 : Option (Option Addr)) (n_a0x365 : Nat) (a0x365 : Array Value) : St := (⟨.a (.r a0 66 [(365, 0)]) :: .a (.w 1) :: .a (.i .i64 (0 : Int)) :: .a (.i .i64 (0 : Int)) :: .a (.u) :: .a (.u) :: .a (.p 1 (365) 40) :: .a (.l 0) :: .a (.i .i64 (n_a0x365 : Int)) :: .a (.i .i64 (0 : Int)) :: us 10 ([]), [.sl (.came b_a0x365) n_a0x365 a0x365 72, .one (.r a0 66 [(365, 0)]) 66, .no], []⟩ : St)

noncomputable def impl_voyage_bottles_e0 : Int × Int → LS
  | (y0_3, y0_9) => ([.a (.i .i64 (y0_3)), .a (.i .i64 (y0_9))], [])

noncomputable def impl_voyage_bottles_x0 : Int × Int → Exit × LS
  | t => ((.exit 0), impl_voyage_bottles_e0 t)

noncomputable def impl_voyage_bottles_g0 (P : Program) (a0 : Array Value) (b_a0x365 : Option (Option Addr)) (n_a0x365 : Nat) (a0x365 : Array Value) : Int × Int → Option (Stp (Int × Int) (Int × Int))
  | (y0_3, y0_9) => bif decide (y0_9 < (n_a0x365 : Int)) then (bif (decide (0 ≤ y0_9) && decide (y0_9 < (n_a0x365 : Int))) then (some (.more ((IntKind.i64.wrap (y0_3 + (IntKind.i64.wrap (num (a0x365.extract ((y0_9).toNat * 3) (((y0_9).toNat * 3) + 3)) 2)))), (IntKind.i64.wrap (y0_9 + (1 : Int))))))
      else (none))
    else (some (.done (y0_3, y0_9)))

theorem impl_voyage_bottles_s0 (N : Nat) (a0 : Array Value) (b_a0x365 : Option (Option Addr)) (n_a0x365 : Nat) (a0x365 : Array Value) : ∀ t : Int × Int, stepV Try.prog (mkΓ []) N (cAt (codeOf Try.f31) [1, 1, 0, 1, 0, 0]) (pAt (mkPlan (codeOf Try.f31) [([3, 9], [])]).1 [1, 1, 0, 1, 0]) [3, 9] [] (impl_voyage_bottles_t0 a0 b_a0x365 n_a0x365 a0x365) (impl_voyage_bottles_e0 t) = mapS impl_voyage_bottles_e0 impl_voyage_bottles_x0 (impl_voyage_bottles_g0 Try.prog a0 b_a0x365 n_a0x365 a0x365 t) := by
  rintro ⟨y0_3, y0_9⟩
  refine Eq.trans (b := (bif decide (y0_9 < (n_a0x365 : Int)) then (bif (decide (0 ≤ y0_9) && decide (y0_9 < (n_a0x365 : Int))) then (some (.more ([.a (.i .i64 (IntKind.i64.wrap (y0_3 + (IntKind.i64.wrap (num (a0x365.extract ((y0_9).toNat * 3) (((y0_9).toNat * 3) + 3)) 2))))), .a (.i .i64 (IntKind.i64.wrap (y0_9 + (1 : Int))))], [])))
      else (none))
    else (some (.done ((.exit 0), ([.a (.i .i64 (y0_3)), .a (.i .i64 (y0_9))], [])))))) (by kernel_rfl) ?_
  simp only [impl_voyage_bottles_g0, mapS_cond, mapS_more, mapS_done, mapS_none, impl_voyage_bottles_e0, impl_voyage_bottles_x0]

noncomputable def impl_voyage_bottles_k0_0 (P : Program) (N : Nat) (a0 : Array Value) (b_a0x365 : Option (Option Addr)) (n_a0x365 : Nat) (a0x365 : Array Value) (z0_3 : Int) (z0_9 : Int) : Option (SV × Eff × Bool) := some (.a (.i .i64 (z0_3)), .none, true)

theorem impl_voyage_bottles_k0_0_eq (N : Nat) (a0 : Array Value) (b_a0x365 : Option (Option Addr)) (n_a0x365 : Nat) (a0x365 : Array Value) (z0_3 : Int) (z0_9 : Int) : (kBlock 0 (kSeq (veC Try.prog (mkΓ []) N (cAt (codeOf Try.f31) [1, 1, 1]) (pAt (mkPlan (codeOf Try.f31) [([3, 9], [])]).1 [1, 1, 1]) (SV × Eff × Bool)) (finK Try.prog [.sl (.came b_a0x365) n_a0x365 a0x365 72] [.tmp 2]))) (.exit 0) (left (writes (cAt (codeOf Try.f31) [1, 1, 0, 1, 0, 0])) [3, 9] [] (impl_voyage_bottles_t0 a0 b_a0x365 n_a0x365 a0x365) ([.a (.i .i64 (z0_3)), .a (.i .i64 (z0_9))], [])) = impl_voyage_bottles_k0_0 Try.prog N a0 b_a0x365 n_a0x365 a0x365 z0_3 z0_9 := by
  refine Eq.trans (b := (some (.a (.i .i64 (z0_3)), .none, true))) (by kernel_rfl) ?_
  rfl

theorem impl_voyage_bottles_n0 (N : Nat) (a0 : Array Value) (b_a0x365 : Option (Option Addr)) (n_a0x365 : Nat) (a0x365 : Array Value) : bindX (iterO (stepV Try.prog (mkΓ []) N (cAt (codeOf Try.f31) [1, 1, 0, 1, 0, 0]) (pAt (mkPlan (codeOf Try.f31) [([3, 9], [])]).1 [1, 1, 0, 1, 0]) [3, 9] [] (impl_voyage_bottles_t0 a0 b_a0x365 n_a0x365 a0x365)) N ([.a (.i .i64 (0 : Int)), .a (.i .i64 (0 : Int))], [])) (fun e s => (kBlock 0 (kSeq (veC Try.prog (mkΓ []) N (cAt (codeOf Try.f31) [1, 1, 1]) (pAt (mkPlan (codeOf Try.f31) [([3, 9], [])]).1 [1, 1, 1]) (SV × Eff × Bool)) (finK Try.prog [.sl (.came b_a0x365) n_a0x365 a0x365 72] [.tmp 2]))) e (left (writes (cAt (codeOf Try.f31) [1, 1, 0, 1, 0, 0])) [3, 9] [] (impl_voyage_bottles_t0 a0 b_a0x365 n_a0x365 a0x365) s)) = nodeX (iterO (impl_voyage_bottles_g0 Try.prog a0 b_a0x365 n_a0x365 a0x365) N ((0 : Int), (0 : Int))) (fun x => impl_voyage_bottles_k0_0 Try.prog N a0 b_a0x365 n_a0x365 a0x365 x.1 x.2) := by
  refine loop_node impl_voyage_bottles_e0 impl_voyage_bottles_x0 _ _ (impl_voyage_bottles_s0 N a0 b_a0x365 n_a0x365 a0x365) N ((0 : Int), (0 : Int)) _ _ ?_
  intro x; exact impl_voyage_bottles_k0_0_eq N a0 b_a0x365 n_a0x365 a0x365 x.1 x.2

theorem impl_voyage_bottles_ans (N : Nat) (a0 : Array Value) (b_a0x365 : Option (Option Addr)) (n_a0x365 : Nat) (a0x365 : Array Value) : ansV Try.prog (mkΓ []) N Try.f31 [([3, 9], [])] [.r a0 66 [(365, 0)]] [.sl (.came b_a0x365) n_a0x365 a0x365 72] = (nodeX (iterO (impl_voyage_bottles_g0 Try.prog a0 b_a0x365 n_a0x365 a0x365) N ((0 : Int), (0 : Int))) (fun x => impl_voyage_bottles_k0_0 Try.prog N a0 b_a0x365 n_a0x365 a0x365 x.1 x.2)) := by
  refine Eq.trans (b := (bindX (iterO (stepV Try.prog (mkΓ []) N (cAt (codeOf Try.f31) [1, 1, 0, 1, 0, 0]) (pAt (mkPlan (codeOf Try.f31) [([3, 9], [])]).1 [1, 1, 0, 1, 0]) [3, 9] [] (impl_voyage_bottles_t0 a0 b_a0x365 n_a0x365 a0x365)) N ([.a (.i .i64 (0 : Int)), .a (.i .i64 (0 : Int))], [])) (fun e s => (kBlock 0 (kSeq (veC Try.prog (mkΓ []) N (cAt (codeOf Try.f31) [1, 1, 1]) (pAt (mkPlan (codeOf Try.f31) [([3, 9], [])]).1 [1, 1, 1]) (SV × Eff × Bool)) (finK Try.prog [.sl (.came b_a0x365) n_a0x365 a0x365 72] [.tmp 2]))) e (left (writes (cAt (codeOf Try.f31) [1, 1, 0, 1, 0, 0])) [3, 9] [] (impl_voyage_bottles_t0 a0 b_a0x365 n_a0x365 a0x365) s)))) (by kernel_rfl) ?_
  simp only [impl_voyage_bottles_n0 N a0 b_a0x365 n_a0x365 a0x365]

theorem impl_voyage_bottles_main (a0 : Array Value) (b_a0x365 : Option (Option Addr)) (n_a0x365 : Nat) (a0x365 : Array Value) (h_a0 : WT Try.prog 66 a0) (h_a0x365 : a0x365.size = n_a0x365 * (lay Try.prog 72).length ∧ (∀ k, k < n_a0x365 → WT Try.prog 72 (a0x365.extract (k * (lay Try.prog 72).length) (k * (lay Try.prog 72).length + (lay Try.prog 72).length))) ∧ n_a0x365 ≤ 9223372036854775807) (hg : (true) = true) : ansV Try.prog (mkΓ []) 18446744073709551616 Try.f31 [([3, 9], [])] [.r a0 66 [(365, 0)]] [.sl (.came b_a0x365) n_a0x365 a0x365 72] = some (.a (.i .i64 (wsum a0x365 n_a0x365)), .none, true) := by
  have hn := h_a0x365.2.2
  refine (impl_voyage_bottles_ans 18446744073709551616 a0 b_a0x365 n_a0x365 a0x365).trans ?_
  have h := iter_all (g := impl_voyage_bottles_g0 Try.prog a0 b_a0x365 n_a0x365 a0x365) (fun k => (wsum a0x365 k, (k : Int))) (m := n_a0x365) (x := (wsum a0x365 n_a0x365, (n_a0x365 : Int))) (N := 18446744073709551616) (fun k hk => by
    have h1 : decide ((k : Int) < (n_a0x365 : Int)) = true := decide_eq_true (by omega)
    have h0 : decide (0 ≤ (k : Int)) = true := decide_eq_true (by omega)
    have h3 : IntKind.i64.wrap ((k : Int) + 1) = ((k + 1 : Nat) : Int) := by rw [IntWalk.i64_in _ (by omega)]; omega
    simp only [impl_voyage_bottles_g0, h1, h0, Bool.and_self, Int.toNat_natCast, cond_true, h3]
    rfl) (by
    have h1 : decide ((n_a0x365 : Int) < (n_a0x365 : Int)) = false := decide_eq_false (by omega)
    simp only [impl_voyage_bottles_g0, h1, cond_false]) (by omega)
  have h' : iterO (impl_voyage_bottles_g0 Try.prog a0 b_a0x365 n_a0x365 a0x365) 18446744073709551616 ((0 : Int), (0 : Int)) = some (wsum a0x365 n_a0x365, (n_a0x365 : Int)) := h
  rw [h']
  rfl
noncomputable def impl_voyage_bottles_con : Con := fun args h => match args, h with
  | [.r a0 66 [(365, 0)]], [.sl (.came b_a0x365) n_a0x365 a0x365 72] => some (.a (.i .i64 (wsum a0x365 n_a0x365)), .none, true)
  | _, _ => none
theorem impl_voyage_bottles_enter : ∀ args w, (callFunc 31 args).run Try.prog w = .ok (.enter 31 args) w := enter_ok (fn := Try.f31) (by kernel_rfl) (by kernel_rfl) (by kernel_rfl)
theorem impl_voyage_bottles_ok : ConOk Try.prog 31 impl_voyage_bottles_con := (ans_ok (N := 18446744073709551616) (by kernel_rfl) mkΓ_nil (fn := Try.f31) (by kernel_rfl) (by kernel_rfl) [([3, 9], [])]).of (by
  intro ρ h w args vals r e hA hH hr
  unfold impl_voyage_bottles_con at hr
  split at hr
  · rename_i a0 b_a0x365 n_a0x365 a0x365
    obtain ⟨rfl, hg⟩ := Prod.mk.inj (Option.some.inj hr)
    obtain ⟨rfl, hg2⟩ := Prod.mk.inj hg
    exact impl_voyage_bottles_main a0 b_a0x365 n_a0x365 a0x365 (hA.wtr 0 rfl) (hH.slw 0 rfl) hg2
  · cases hr)

noncomputable def spec_l07Ok_G : Cons := (mkΓ [(35, con spec_l00In_con), (46, con spec_l01Wet_con), (48, con spec_l01Tide_con)])
noncomputable def spec_l07Ok_t0 (a0 : Array Value) (a1 : Array Value) (b_a1x2 : Option (Option Addr)) (n_a1x2 : Nat) (a1x2 : Array Value) : St := (⟨.a (.w 0) :: .a (.w 1) :: .a (.u) :: .a (.u) :: .a (.b (false)) :: .a (.i .i64 (0 : Int)) :: .a (.i .i64 (0 : Int)) :: .a (.u) :: .a (.w 1) :: .a (.w 1) :: .a (.p 1 (0) 22) :: .a (.i .i8 (num a1 0)) :: .a (.i .i64 (IntKind.i64.wrap (num a1 0))) :: .a (.b ((spec_l00In_v0 (IntKind.i64.wrap (num a1 0)) (0 : Int) (1 : Int)))) :: .a (.b ((!((spec_l00In_v0 (IntKind.i64.wrap (num a1 0)) (0 : Int) (1 : Int)))))) :: .a (.b (false)) :: .a (.w 1) :: .a (.w 1) :: .a (.p 1 (1) 22) :: .a (.i .i8 (num a1 1)) :: .a (.i .i64 (IntKind.i64.wrap (num a1 1))) :: .a (.b ((spec_l00In_v0 (IntKind.i64.wrap (num a1 1)) (1 : Int) (8 : Int)))) :: .a (.b ((!((spec_l00In_v0 (IntKind.i64.wrap (num a1 1)) (1 : Int) (8 : Int)))))) :: .a (.b ((!((spec_l00In_v0 (IntKind.i64.wrap (num a1 1)) (1 : Int) (8 : Int)))))) :: .a (.b (false)) :: .a (.w 1) :: .a (.w 1) :: .a (.p 1 (2) 40) :: .a (.l 2) :: .a (.i .i64 (n_a1x2 : Int)) :: .a (.b (decide ((n_a1x2 : Int) > (12 : Int)))) :: .a (.b (decide ((n_a1x2 : Int) > (12 : Int)))) :: us 49 ([]), [.row a0 38, .one (.r a1 42 [(2, 2)]) 42, .sl (.came b_a1x2) n_a1x2 a1x2 72], []⟩ : St)

noncomputable def spec_l07Ok_e0 : Bool × Int × Int → LS
  | (y0_4, y0_5, y0_6) => ([.a (.b (y0_4)), .a (.i .i64 (y0_5)), .a (.i .i64 (y0_6))], [])

noncomputable def spec_l07Ok_x0 : (Stp (Bool × Int × Int) (Bool × Int × Int)) → Exit × LS
  | .more t => (.ret, spec_l07Ok_e0 t)
  | .done t => ((.exit 0), spec_l07Ok_e0 t)

noncomputable def spec_l07Ok_g0 (P : Program) (a0 : Array Value) (a1 : Array Value) (b_a1x2 : Option (Option Addr)) (n_a1x2 : Nat) (a1x2 : Array Value) : Bool × Int × Int → Option (Stp (Bool × Int × Int) (Stp (Bool × Int × Int) (Bool × Int × Int)))
  | (y0_4, y0_5, y0_6) => bif decide (y0_6 < (n_a1x2 : Int)) then (bif (decide (0 ≤ y0_6) && decide (y0_6 < (n_a1x2 : Int))) then (bif (spec_l01Wet_gd (IntKind.i64.wrap (num (a1x2.extract ((y0_6).toNat * 3) (((y0_6).toNat * 3) + 3)) 0)) a0) then (bif (!((spec_l01Wet_v0 (IntKind.i64.wrap (num (a1x2.extract ((y0_6).toNat * 3) (((y0_6).toNat * 3) + 3)) 0)) a0))) then (some (.done (.more (false, y0_5, y0_6))))
          else (bif (!((spec_l00In_v0 (IntKind.i64.wrap (num (a1x2.extract ((y0_6).toNat * 3) (((y0_6).toNat * 3) + 3)) 1)) (0 : Int) (IntKind.i64.wrap ((IntKind.i64.wrap (num a1 1)) - (1 : Int)))))) then (some (.done (.more (false, y0_5, y0_6))))
            else (bif (!((spec_l00In_v0 (IntKind.i64.wrap (num (a1x2.extract ((y0_6).toNat * 3) (((y0_6).toNat * 3) + 3)) 2)) (1 : Int) (200 : Int)))) then (some (.done (.more (false, y0_5, y0_6))))
              else (some (.more (y0_4, (IntKind.i64.wrap (y0_5 + (IntKind.i64.wrap (num (a1x2.extract ((y0_6).toNat * 3) (((y0_6).toNat * 3) + 3)) 2)))), (IntKind.i64.wrap (y0_6 + (1 : Int)))))))))
        else (none))
      else (none))
    else (some (.done (.done (y0_4, y0_5, y0_6))))

theorem spec_l07Ok_s0 (N : Nat) (a0 : Array Value) (a1 : Array Value) (b_a1x2 : Option (Option Addr)) (n_a1x2 : Nat) (a1x2 : Array Value) : ∀ t : Bool × Int × Int, stepV Try.prog spec_l07Ok_G N (cAt (codeOf Try.f24) [1, 1, 1, 0, 1, 0, 0]) (pAt (mkPlan (codeOf Try.f24) [([4, 5, 6], [])]).1 [1, 1, 1, 0, 1, 0]) [4, 5, 6] [] (spec_l07Ok_t0 a0 a1 b_a1x2 n_a1x2 a1x2) (spec_l07Ok_e0 t) = mapS spec_l07Ok_e0 spec_l07Ok_x0 (spec_l07Ok_g0 Try.prog a0 a1 b_a1x2 n_a1x2 a1x2 t) := by
  rintro ⟨y0_4, y0_5, y0_6⟩
  refine Eq.trans (b := (bif decide (y0_6 < (n_a1x2 : Int)) then (bif (decide (0 ≤ y0_6) && decide (y0_6 < (n_a1x2 : Int))) then (bif (spec_l01Wet_gd (IntKind.i64.wrap (num (a1x2.extract ((y0_6).toNat * 3) (((y0_6).toNat * 3) + 3)) 0)) a0) then (bif (!((spec_l01Wet_v0 (IntKind.i64.wrap (num (a1x2.extract ((y0_6).toNat * 3) (((y0_6).toNat * 3) + 3)) 0)) a0))) then (some (.done (.ret, ([.a (.b (false)), .a (.i .i64 (y0_5)), .a (.i .i64 (y0_6))], []))))
          else (bif (!((spec_l00In_v0 (IntKind.i64.wrap (num (a1x2.extract ((y0_6).toNat * 3) (((y0_6).toNat * 3) + 3)) 1)) (0 : Int) (IntKind.i64.wrap ((IntKind.i64.wrap (num a1 1)) - (1 : Int)))))) then (some (.done (.ret, ([.a (.b (false)), .a (.i .i64 (y0_5)), .a (.i .i64 (y0_6))], []))))
            else (bif (!((spec_l00In_v0 (IntKind.i64.wrap (num (a1x2.extract ((y0_6).toNat * 3) (((y0_6).toNat * 3) + 3)) 2)) (1 : Int) (200 : Int)))) then (some (.done (.ret, ([.a (.b (false)), .a (.i .i64 (y0_5)), .a (.i .i64 (y0_6))], []))))
              else (some (.more ([.a (.b (y0_4)), .a (.i .i64 (IntKind.i64.wrap (y0_5 + (IntKind.i64.wrap (num (a1x2.extract ((y0_6).toNat * 3) (((y0_6).toNat * 3) + 3)) 2))))), .a (.i .i64 (IntKind.i64.wrap (y0_6 + (1 : Int))))], []))))))
        else (none))
      else (none))
    else (some (.done ((.exit 0), ([.a (.b (y0_4)), .a (.i .i64 (y0_5)), .a (.i .i64 (y0_6))], [])))))) (by kernel_rfl) ?_
  simp only [spec_l07Ok_g0, mapS_cond, mapS_more, mapS_done, mapS_none, spec_l07Ok_e0, spec_l07Ok_x0]

noncomputable def spec_l07Ok_k0_0 (P : Program) (N : Nat) (a0 : Array Value) (a1 : Array Value) (b_a1x2 : Option (Option Addr)) (n_a1x2 : Nat) (a1x2 : Array Value) (z0_4 : Bool) (z0_5 : Int) (z0_6 : Int) : Option (SV × Eff × Bool) := some (.a (.b (z0_4)), .none, true)

theorem spec_l07Ok_k0_0_eq (N : Nat) (a0 : Array Value) (a1 : Array Value) (b_a1x2 : Option (Option Addr)) (n_a1x2 : Nat) (a1x2 : Array Value) (z0_4 : Bool) (z0_5 : Int) (z0_6 : Int) : (kBlock 0 (kSeq (veC Try.prog spec_l07Ok_G N (cAt (codeOf Try.f24) [1, 1, 1, 1]) (pAt (mkPlan (codeOf Try.f24) [([4, 5, 6], [])]).1 [1, 1, 1, 1]) (SV × Eff × Bool)) (finK Try.prog [.row a0 38, .one (.r a1 42 [(2, 2)]) 42, .sl (.came b_a1x2) n_a1x2 a1x2 72] [.tmp 4]))) .ret (left (writes (cAt (codeOf Try.f24) [1, 1, 1, 0, 1, 0, 0])) [4, 5, 6] [] (spec_l07Ok_t0 a0 a1 b_a1x2 n_a1x2 a1x2) ([.a (.b (z0_4)), .a (.i .i64 (z0_5)), .a (.i .i64 (z0_6))], [])) = spec_l07Ok_k0_0 Try.prog N a0 a1 b_a1x2 n_a1x2 a1x2 z0_4 z0_5 z0_6 := by
  refine Eq.trans (b := (some (.a (.b (z0_4)), .none, true))) (by kernel_rfl) ?_
  rfl

noncomputable def spec_l07Ok_k0_1 (P : Program) (N : Nat) (a0 : Array Value) (a1 : Array Value) (b_a1x2 : Option (Option Addr)) (n_a1x2 : Nat) (a1x2 : Array Value) (z0_4 : Bool) (z0_5 : Int) (z0_6 : Int) : Option (SV × Eff × Bool) := some (.a (.b (decide (z0_5 ≤ (1000 : Int)))), .none, true)

theorem spec_l07Ok_k0_1_eq (N : Nat) (a0 : Array Value) (a1 : Array Value) (b_a1x2 : Option (Option Addr)) (n_a1x2 : Nat) (a1x2 : Array Value) (z0_4 : Bool) (z0_5 : Int) (z0_6 : Int) : (kBlock 0 (kSeq (veC Try.prog spec_l07Ok_G N (cAt (codeOf Try.f24) [1, 1, 1, 1]) (pAt (mkPlan (codeOf Try.f24) [([4, 5, 6], [])]).1 [1, 1, 1, 1]) (SV × Eff × Bool)) (finK Try.prog [.row a0 38, .one (.r a1 42 [(2, 2)]) 42, .sl (.came b_a1x2) n_a1x2 a1x2 72] [.tmp 4]))) (.exit 0) (left (writes (cAt (codeOf Try.f24) [1, 1, 1, 0, 1, 0, 0])) [4, 5, 6] [] (spec_l07Ok_t0 a0 a1 b_a1x2 n_a1x2 a1x2) ([.a (.b (z0_4)), .a (.i .i64 (z0_5)), .a (.i .i64 (z0_6))], [])) = spec_l07Ok_k0_1 Try.prog N a0 a1 b_a1x2 n_a1x2 a1x2 z0_4 z0_5 z0_6 := by
  refine Eq.trans (b := (some (.a (.b (decide (z0_5 ≤ (1000 : Int)))), .none, true))) (by kernel_rfl) ?_
  rfl

theorem spec_l07Ok_n0 (N : Nat) (a0 : Array Value) (a1 : Array Value) (b_a1x2 : Option (Option Addr)) (n_a1x2 : Nat) (a1x2 : Array Value) : bindX (iterO (stepV Try.prog spec_l07Ok_G N (cAt (codeOf Try.f24) [1, 1, 1, 0, 1, 0, 0]) (pAt (mkPlan (codeOf Try.f24) [([4, 5, 6], [])]).1 [1, 1, 1, 0, 1, 0]) [4, 5, 6] [] (spec_l07Ok_t0 a0 a1 b_a1x2 n_a1x2 a1x2)) N ([.a (.b (false)), .a (.i .i64 (0 : Int)), .a (.i .i64 (0 : Int))], [])) (fun e s => (kBlock 0 (kSeq (veC Try.prog spec_l07Ok_G N (cAt (codeOf Try.f24) [1, 1, 1, 1]) (pAt (mkPlan (codeOf Try.f24) [([4, 5, 6], [])]).1 [1, 1, 1, 1]) (SV × Eff × Bool)) (finK Try.prog [.row a0 38, .one (.r a1 42 [(2, 2)]) 42, .sl (.came b_a1x2) n_a1x2 a1x2 72] [.tmp 4]))) e (left (writes (cAt (codeOf Try.f24) [1, 1, 1, 0, 1, 0, 0])) [4, 5, 6] [] (spec_l07Ok_t0 a0 a1 b_a1x2 n_a1x2 a1x2) s)) = nodeX (iterO (spec_l07Ok_g0 Try.prog a0 a1 b_a1x2 n_a1x2 a1x2) N (false, (0 : Int), (0 : Int))) (st2 (fun x => spec_l07Ok_k0_0 Try.prog N a0 a1 b_a1x2 n_a1x2 a1x2 x.1 x.2.1 x.2.2) (fun x => spec_l07Ok_k0_1 Try.prog N a0 a1 b_a1x2 n_a1x2 a1x2 x.1 x.2.1 x.2.2)) := by
  refine loop_node spec_l07Ok_e0 spec_l07Ok_x0 _ _ (spec_l07Ok_s0 N a0 a1 b_a1x2 n_a1x2 a1x2) N (false, (0 : Int), (0 : Int)) _ _ ?_
  intro x
  cases x with
  | more x => exact spec_l07Ok_k0_0_eq N a0 a1 b_a1x2 n_a1x2 a1x2 x.1 x.2.1 x.2.2
  | done x => exact spec_l07Ok_k0_1_eq N a0 a1 b_a1x2 n_a1x2 a1x2 x.1 x.2.1 x.2.2

theorem spec_l07Ok_ans (N : Nat) (a0 : Array Value) (a1 : Array Value) (b_a1x2 : Option (Option Addr)) (n_a1x2 : Nat) (a1x2 : Array Value) : ansV Try.prog spec_l07Ok_G N Try.f24 [([4, 5, 6], [])] [.w 0, .w 1] [.row a0 38, .one (.r a1 42 [(2, 2)]) 42, .sl (.came b_a1x2) n_a1x2 a1x2 72] = (bif (!((spec_l00In_v0 (IntKind.i64.wrap (num a1 0)) (0 : Int) (1 : Int)))) then (some (.a (.b (false)), .none, true))
    else (bif (!((spec_l00In_v0 (IntKind.i64.wrap (num a1 1)) (1 : Int) (8 : Int)))) then (some (.a (.b (false)), .none, true))
      else (bif decide ((n_a1x2 : Int) > (12 : Int)) then (some (.a (.b (false)), .none, true))
        else (nodeX (iterO (spec_l07Ok_g0 Try.prog a0 a1 b_a1x2 n_a1x2 a1x2) N (false, (0 : Int), (0 : Int))) (st2 (fun x => spec_l07Ok_k0_0 Try.prog N a0 a1 b_a1x2 n_a1x2 a1x2 x.1 x.2.1 x.2.2) (fun x => spec_l07Ok_k0_1 Try.prog N a0 a1 b_a1x2 n_a1x2 a1x2 x.1 x.2.1 x.2.2)))))) := by
  refine Eq.trans (b := (bif (!((spec_l00In_v0 (IntKind.i64.wrap (num a1 0)) (0 : Int) (1 : Int)))) then (some (.a (.b (false)), .none, true))
    else (bif (!((spec_l00In_v0 (IntKind.i64.wrap (num a1 1)) (1 : Int) (8 : Int)))) then (some (.a (.b (false)), .none, true))
      else (bif decide ((n_a1x2 : Int) > (12 : Int)) then (some (.a (.b (false)), .none, true))
        else (bindX (iterO (stepV Try.prog spec_l07Ok_G N (cAt (codeOf Try.f24) [1, 1, 1, 0, 1, 0, 0]) (pAt (mkPlan (codeOf Try.f24) [([4, 5, 6], [])]).1 [1, 1, 1, 0, 1, 0]) [4, 5, 6] [] (spec_l07Ok_t0 a0 a1 b_a1x2 n_a1x2 a1x2)) N ([.a (.b (false)), .a (.i .i64 (0 : Int)), .a (.i .i64 (0 : Int))], [])) (fun e s => (kBlock 0 (kSeq (veC Try.prog spec_l07Ok_G N (cAt (codeOf Try.f24) [1, 1, 1, 1]) (pAt (mkPlan (codeOf Try.f24) [([4, 5, 6], [])]).1 [1, 1, 1, 1]) (SV × Eff × Bool)) (finK Try.prog [.row a0 38, .one (.r a1 42 [(2, 2)]) 42, .sl (.came b_a1x2) n_a1x2 a1x2 72] [.tmp 4]))) e (left (writes (cAt (codeOf Try.f24) [1, 1, 1, 0, 1, 0, 0])) [4, 5, 6] [] (spec_l07Ok_t0 a0 a1 b_a1x2 n_a1x2 a1x2) s))))))) (by kernel_rfl) ?_
  simp only [spec_l07Ok_n0 N a0 a1 b_a1x2 n_a1x2 a1x2]

theorem spec_l07Ok_main (a0 : Array Value) (a1 : Array Value) (b_a1x2 : Option (Option Addr)) (n_a1x2 : Nat) (a1x2 : Array Value) (h_a0 : WT Try.prog 38 a0) (h_a1 : WT Try.prog 42 a1) (h_a1x2 : a1x2.size = n_a1x2 * (lay Try.prog 72).length ∧ (∀ k, k < n_a1x2 → WT Try.prog 72 (a1x2.extract (k * (lay Try.prog 72).length) (k * (lay Try.prog 72).length + (lay Try.prog 72).length))) ∧ n_a1x2 ≤ 9223372036854775807) (hg : (true) = true) : ansV Try.prog spec_l07Ok_G 18446744073709551616 Try.f24 [([4, 5, 6], [])] [.w 0, .w 1] [.row a0 38, .one (.r a1 42 [(2, 2)]) 42, .sl (.came b_a1x2) n_a1x2 a1x2 72] = some (.a (.b ((planB a0 a1 n_a1x2 a1x2))), .none, true) := by
  have hn := h_a1x2.2.2
  refine (spec_l07Ok_ans 18446744073709551616 a0 a1 b_a1x2 n_a1x2 a1x2).trans ?_
  unfold planB
  cases spec_l00In_v0 (IntKind.i64.wrap (num a1 0)) 0 1
  · rfl
  cases spec_l00In_v0 (IntKind.i64.wrap (num a1 1)) 1 8
  · rfl
  cases decide ((n_a1x2 : Int) > 12)
  rotate_left
  · rfl
  simp only [Bool.not_true, Bool.not_false, cond_false, Bool.true_and]
  have wet : ∀ k, spec_l01Wet_gd (IntKind.i64.wrap (num (a1x2.extract (k * 3) (k * 3 + 3)) 0)) a0 = true := fun k => by
    unfold spec_l01Wet_gd
    cases spec_l01Is_v0 (IntKind.i64.wrap (num (a1x2.extract (k * 3) (k * 3 + 3)) 0)) a0
    · rfl
    · exact decide_eq_true (wrap_in .u64 _).1
  refine (iter_first (g := spec_l07Ok_g0 Try.prog a0 a1 b_a1x2 n_a1x2 a1x2) (fun k => (false, wsum a1x2 k, (k : Int))) (fun k => relB a0 (IntKind.i64.wrap (num a1 1)) (a1x2.extract (k * 3) (k * 3 + 3))) n_a1x2 (N := 18446744073709551616) (xd := .done (false, wsum a1x2 n_a1x2, (n_a1x2 : Int))) (by omega) (fun k hk hp => by
    have h1 : decide ((k : Int) < (n_a1x2 : Int)) = true := decide_eq_true (by omega)
    have h0 : decide (0 ≤ (k : Int)) = true := decide_eq_true (by omega)
    have h3 : IntKind.i64.wrap ((k : Int) + 1) = ((k + 1 : Nat) : Int) := by rw [IntWalk.i64_in _ (by omega)]; omega
    have hp' : relB a0 (IntKind.i64.wrap (num a1 1)) (a1x2.extract (k * 3) (k * 3 + 3)) = true := hp
    unfold relB at hp'
    simp only [Bool.and_eq_true] at hp'
    simp only [spec_l07Ok_g0, h1, h0, h3, Bool.and_self, Int.toNat_natCast, cond_true, cond_false, wet, hp'.1, hp'.2.1, hp'.2.2, Bool.not_true]
    rfl) (by
    have h1 : decide ((n_a1x2 : Int) < (n_a1x2 : Int)) = false := decide_eq_false (by omega)
    simp only [spec_l07Ok_g0, h1, cond_false]) (relAll a0 (IntKind.i64.wrap (num a1 1)) n_a1x2 a1x2) (relAll_iff a0 _ n_a1x2 a1x2) (some (.a (.b (decide (wsum a1x2 n_a1x2 ≤ 1000))), .none, true)) (some (.a (.b false), .none, true)) rfl (fun k hk hp => by
    refine ⟨.more (false, wsum a1x2 k, (k : Int)), ?_, rfl⟩
    have h1 : decide ((k : Int) < (n_a1x2 : Int)) = true := decide_eq_true (by omega)
    have h0 : decide (0 ≤ (k : Int)) = true := decide_eq_true (by omega)
    have h3 : IntKind.i64.wrap ((k : Int) + 1) = ((k + 1 : Nat) : Int) := by rw [IntWalk.i64_in _ (by omega)]; omega
    have hp' : relB a0 (IntKind.i64.wrap (num a1 1)) (a1x2.extract (k * 3) (k * 3 + 3)) = false := hp
    unfold relB at hp'
    cases x1 : spec_l01Wet_v0 (IntKind.i64.wrap (num (a1x2.extract (k * 3) (k * 3 + 3)) 0)) a0
    · simp only [spec_l07Ok_g0, h1, h0, h3, Bool.and_self, Int.toNat_natCast, cond_true, wet, x1, Bool.not_false]
    · cases x2 : spec_l00In_v0 (IntKind.i64.wrap (num (a1x2.extract (k * 3) (k * 3 + 3)) 1)) 0 (IntKind.i64.wrap (IntKind.i64.wrap (num a1 1) - 1))
      · simp only [spec_l07Ok_g0, h1, h0, h3, Bool.and_self, Int.toNat_natCast, cond_true, cond_false, wet, x1, x2, Bool.not_true, Bool.not_false]
      · rw [x1, x2] at hp'
        simp only [Bool.true_and] at hp'
        simp only [spec_l07Ok_g0, h1, h0, h3, Bool.and_self, Int.toNat_natCast, cond_true, cond_false, wet, x1, x2, hp', Bool.not_true, Bool.not_false])).trans ?_
  cases relAll a0 (IntKind.i64.wrap (num a1 1)) n_a1x2 a1x2 <;> rfl
noncomputable def spec_l07Ok_con : Con := fun args h => match args, h with
  | [.w 0, .w 1], [.row a0 38, .one (.r a1 42 [(2, 2)]) 42, .sl (.came b_a1x2) n_a1x2 a1x2 72] => some (.a (.b ((planB a0 a1 n_a1x2 a1x2))), .none, true)
  | _, _ => none
theorem spec_l07Ok_enter : ∀ args w, (callFunc 24 args).run Try.prog w = .ok (.enter 24 args) w := enter_ok (fn := Try.f24) (by kernel_rfl) (by kernel_rfl) (by kernel_rfl)
theorem spec_l07Ok_ok : ConOk Try.prog 24 spec_l07Ok_con := (ans_ok (N := 18446744073709551616) (by kernel_rfl) (mkΓ_cons (con_ok spec_l00In_ok) spec_l00In_enter (mkΓ_cons (con_ok spec_l01Wet_ok) spec_l01Wet_enter (mkΓ_cons (con_ok spec_l01Tide_ok) spec_l01Tide_enter mkΓ_nil))) (fn := Try.f24) (by kernel_rfl) (by kernel_rfl) [([4, 5, 6], [])]).of (by
  intro ρ h w args vals r e hA hH hr
  unfold spec_l07Ok_con at hr
  split at hr
  · rename_i a0 a1 b_a1x2 n_a1x2 a1x2
    obtain ⟨rfl, hg⟩ := Prod.mk.inj (Option.some.inj hr)
    obtain ⟨rfl, hg2⟩ := Prod.mk.inj hg
    exact spec_l07Ok_main a0 a1 b_a1x2 n_a1x2 a1x2 (hH.wt 0 rfl) (hH.wtr 1 rfl) (hH.slw 2 rfl) hg2
  · cases hr)

noncomputable def spec_ValidPlan_G : Cons := (mkΓ [(23, con spec_l01Ok_con), (24, con spec_l07Ok_con)])
theorem spec_ValidPlan_ans (N : Nat) (a0 : Array Value) (a1 : Array Value) (b_a1x2 : Option (Option Addr)) (n_a1x2 : Nat) (a1x2 : Array Value) : ansV Try.prog spec_ValidPlan_G N Try.f8 [] [.g a0 38, .r a1 42 [(2, 0)]] [.sl (.came b_a1x2) n_a1x2 a1x2 72] = (bif (okS a0) then (some (.a (.b ((planB a0 a1 n_a1x2 a1x2))), .none, true))
    else (some (.a (.b (false)), .none, true))) := by kernel_rfl

noncomputable def spec_ValidPlan_v0 (a0 : Array Value) (a1 : Array Value) (b_a1x2 : Option (Option Addr)) (n_a1x2 : Nat) (a1x2 : Array Value) : Bool := (bif (okS a0) then (planB a0 a1 n_a1x2 a1x2) else false)

theorem spec_ValidPlan_main (a0 : Array Value) (a1 : Array Value) (b_a1x2 : Option (Option Addr)) (n_a1x2 : Nat) (a1x2 : Array Value) (h_a0 : WT Try.prog 38 a0) (h_a1 : WT Try.prog 42 a1) (h_a1x2 : a1x2.size = n_a1x2 * (lay Try.prog 72).length ∧ (∀ k, k < n_a1x2 → WT Try.prog 72 (a1x2.extract (k * (lay Try.prog 72).length) (k * (lay Try.prog 72).length + (lay Try.prog 72).length))) ∧ n_a1x2 ≤ 9223372036854775807) (hg : (true) = true) : ansV Try.prog spec_ValidPlan_G 1000 Try.f8 [] [.g a0 38, .r a1 42 [(2, 0)]] [.sl (.came b_a1x2) n_a1x2 a1x2 72] = some (.a (.b ((spec_ValidPlan_v0 a0 a1 b_a1x2 n_a1x2 a1x2))), .none, true) := by
  refine (spec_ValidPlan_ans 1000 a0 a1 b_a1x2 n_a1x2 a1x2).trans ?_
  unfold spec_ValidPlan_v0
  revert hg
  generalize ((okS a0)) = b2
  intro hg
  cases b2
  · skip
    first | (simp only [cond_true, cond_false, Bool.and_true, Bool.true_and, Bool.and_false, Bool.false_and]; done) | rfl | exact (nomatch (hg : false = true))
  · skip
    first | (simp only [cond_true, cond_false, Bool.and_true, Bool.true_and, Bool.and_false, Bool.false_and]; done) | rfl | exact (nomatch (hg : false = true))
noncomputable def spec_ValidPlan_con : Con := fun args h => match args, h with
  | [.g a0 38, .r a1 42 [(2, 0)]], [.sl (.came b_a1x2) n_a1x2 a1x2 72] => some (.a (.b ((spec_ValidPlan_v0 a0 a1 b_a1x2 n_a1x2 a1x2))), .none, true)
  | _, _ => none
theorem spec_ValidPlan_enter : ∀ args w, (callFunc 8 args).run Try.prog w = .ok (.enter 8 args) w := enter_ok (fn := Try.f8) (by kernel_rfl) (by kernel_rfl) (by kernel_rfl)
theorem spec_ValidPlan_ok : ConOk Try.prog 8 spec_ValidPlan_con := (ans_ok (N := 1000) (by kernel_rfl) (mkΓ_cons (con_ok spec_l01Ok_ok) spec_l01Ok_enter (mkΓ_cons (con_ok spec_l07Ok_ok) spec_l07Ok_enter mkΓ_nil)) (fn := Try.f8) (by kernel_rfl) (by kernel_rfl) []).of (by
  intro ρ h w args vals r e hA hH hr
  unfold spec_ValidPlan_con at hr
  split at hr
  · rename_i a0 a1 b_a1x2 n_a1x2 a1x2
    obtain ⟨rfl, hg⟩ := Prod.mk.inj (Option.some.inj hr)
    obtain ⟨rfl, hg2⟩ := Prod.mk.inj hg
    exact spec_ValidPlan_main a0 a1 b_a1x2 n_a1x2 a1x2 (hA.wt 0 rfl) (hA.wtr 1 rfl) (hH.slw 0 rfl) hg2
  · cases hr)

noncomputable def impl_ValidPlan_G : Cons := (mkΓ [(27, con impl_voyageOf_con), (28, con impl_ValidSea_con), (29, con impl_planHours_areRight_con), (30, con impl_voyage_takes_con), (31, con impl_voyage_bottles_con)])
noncomputable def impl_ValidPlan_t0 (a0 : Array Value) (a1 : Array Value) (b_a1x2 : Option (Option Addr)) (n_a1x2 : Nat) (a1x2 : Array Value) : St := (⟨.a (.g a0 38) :: .a (.r a1 42 [(2, 0)]) :: .a (.w 1) :: .a (.w 2) :: .a (.b (false)) :: .a (.w 7) :: .a (.u) :: .a (.u) :: .a (.g a0 38) :: .a (.r a1 42 [(2, 0)]) :: .a (.r ((spl (spl (zc Try.prog 66) 0 (#[.int .i64 (IntKind.i64.wrap (num a1 0)), .int .i64 (IntKind.i64.wrap (num a1 1))] : Array Value).toList) 2 a0.toList).setIfInBounds 365 (.slice none 0 0)) 66 [(365, 0)]) :: .a (.g a0 38) :: .a (.b ((okS a0))) :: .a (.b ((!((okS a0))))) :: .a (.b (false)) :: .a (.p 7 (0) 64) :: .a (.g (((spl (spl (zc Try.prog 66) 0 (#[.int .i64 (IntKind.i64.wrap (num a1 0)), .int .i64 (IntKind.i64.wrap (num a1 1))] : Array Value).toList) 2 a0.toList).setIfInBounds 365 (.slice none 0 0)).extract 0 (0 + 2)) 64) :: .a (.b ((impl_planHours_areRight_v0 (((spl (spl (zc Try.prog 66) 0 (#[.int .i64 (IntKind.i64.wrap (num a1 0)), .int .i64 (IntKind.i64.wrap (num a1 1))] : Array Value).toList) 2 a0.toList).setIfInBounds 365 (.slice none 0 0)).extract 0 (0 + 2))))) :: .a (.b ((!((impl_planHours_areRight_v0 (((spl (spl (zc Try.prog 66) 0 (#[.int .i64 (IntKind.i64.wrap (num a1 0)), .int .i64 (IntKind.i64.wrap (num a1 1))] : Array Value).toList) 2 a0.toList).setIfInBounds 365 (.slice none 0 0)).extract 0 (0 + 2))))))) :: .a (.b ((!((impl_planHours_areRight_v0 (((spl (spl (zc Try.prog 66) 0 (#[.int .i64 (IntKind.i64.wrap (num a1 0)), .int .i64 (IntKind.i64.wrap (num a1 1))] : Array Value).toList) 2 a0.toList).setIfInBounds 365 (.slice none 0 0)).extract 0 (0 + 2))))))) :: .a (.b (false)) :: .a (.p 2 (2) 40) :: .a (.l 0) :: .a (.i .i64 (n_a1x2 : Int)) :: .a (.b (decide ((n_a1x2 : Int) > (12 : Int)))) :: .a (.b (decide ((n_a1x2 : Int) > (12 : Int)))) :: .a (.p 2 (2) 40) :: .a (.l 0) :: .a (.i .i64 (n_a1x2 : Int)) :: .a (.i .i64 (0 : Int)) :: us 11 ([]), [.sl (.came b_a1x2) n_a1x2 a1x2 72, .row a0 38, .one (.r a1 42 [(2, 0)]) 42, .no, .no, .no, .no, .one (.r ((spl (spl (zc Try.prog 66) 0 (#[.int .i64 (IntKind.i64.wrap (num a1 0)), .int .i64 (IntKind.i64.wrap (num a1 1))] : Array Value).toList) 2 a0.toList).setIfInBounds 365 (.slice none 0 0)) 66 [(365, 0)]) 66, .no], [7]⟩ : St)

noncomputable def impl_ValidPlan_e0 : Bool × Int → LS
  | (y0_4, y0_29) => ([.a (.b (y0_4)), .a (.i .i64 (y0_29))], [])

noncomputable def impl_ValidPlan_x0 : (Stp (Bool × Int) (Bool × Int)) → Exit × LS
  | .more t => (.ret, impl_ValidPlan_e0 t)
  | .done t => ((.exit 0), impl_ValidPlan_e0 t)

noncomputable def impl_ValidPlan_g0 (P : Program) (a0 : Array Value) (a1 : Array Value) (b_a1x2 : Option (Option Addr)) (n_a1x2 : Nat) (a1x2 : Array Value) : Bool × Int → Option (Stp (Bool × Int) (Stp (Bool × Int) (Bool × Int)))
  | (y0_4, y0_29) => bif decide (y0_29 < (n_a1x2 : Int)) then (bif (decide (0 ≤ y0_29) && decide (y0_29 < (n_a1x2 : Int))) then (bif (impl_voyage_takes_gd ((spl (spl (zc Try.prog 66) 0 (#[.int .i64 (IntKind.i64.wrap (num a1 0)), .int .i64 (IntKind.i64.wrap (num a1 1))] : Array Value).toList) 2 a0.toList).setIfInBounds 365 (.slice none 0 0)) (a1x2.extract ((y0_29).toNat * 3) (((y0_29).toNat * 3) + 3)) b_a1x2 n_a1x2 a1x2) then (bif (!((impl_voyage_takes_v0 ((spl (spl (zc Try.prog 66) 0 (#[.int .i64 (IntKind.i64.wrap (num a1 0)), .int .i64 (IntKind.i64.wrap (num a1 1))] : Array Value).toList) 2 a0.toList).setIfInBounds 365 (.slice none 0 0)) (a1x2.extract ((y0_29).toNat * 3) (((y0_29).toNat * 3) + 3)) b_a1x2 n_a1x2 a1x2))) then (some (.done (.more (false, y0_29))))
          else (some (.more (y0_4, (IntKind.i64.wrap (y0_29 + (1 : Int)))))))
        else (none))
      else (none))
    else (some (.done (.done (y0_4, y0_29))))

theorem impl_ValidPlan_s0 (N : Nat) (a0 : Array Value) (a1 : Array Value) (b_a1x2 : Option (Option Addr)) (n_a1x2 : Nat) (a1x2 : Array Value) : ∀ t : Bool × Int, stepV Try.prog impl_ValidPlan_G N (cAt (codeOf Try.f11) [1, 1, 1, 0, 1, 0, 0]) (pAt (mkPlan (codeOf Try.f11) [([4, 29], [])]).1 [1, 1, 1, 0, 1, 0]) [4, 29] [] (impl_ValidPlan_t0 a0 a1 b_a1x2 n_a1x2 a1x2) (impl_ValidPlan_e0 t) = mapS impl_ValidPlan_e0 impl_ValidPlan_x0 (impl_ValidPlan_g0 Try.prog a0 a1 b_a1x2 n_a1x2 a1x2 t) := by
  rintro ⟨y0_4, y0_29⟩
  refine Eq.trans (b := (bif decide (y0_29 < (n_a1x2 : Int)) then (bif (decide (0 ≤ y0_29) && decide (y0_29 < (n_a1x2 : Int))) then (bif (impl_voyage_takes_gd ((spl (spl (zc Try.prog 66) 0 (#[.int .i64 (IntKind.i64.wrap (num a1 0)), .int .i64 (IntKind.i64.wrap (num a1 1))] : Array Value).toList) 2 a0.toList).setIfInBounds 365 (.slice none 0 0)) (a1x2.extract ((y0_29).toNat * 3) (((y0_29).toNat * 3) + 3)) b_a1x2 n_a1x2 a1x2) then (bif (!((impl_voyage_takes_v0 ((spl (spl (zc Try.prog 66) 0 (#[.int .i64 (IntKind.i64.wrap (num a1 0)), .int .i64 (IntKind.i64.wrap (num a1 1))] : Array Value).toList) 2 a0.toList).setIfInBounds 365 (.slice none 0 0)) (a1x2.extract ((y0_29).toNat * 3) (((y0_29).toNat * 3) + 3)) b_a1x2 n_a1x2 a1x2))) then (some (.done (.ret, ([.a (.b (false)), .a (.i .i64 (y0_29))], []))))
          else (some (.more ([.a (.b (y0_4)), .a (.i .i64 (IntKind.i64.wrap (y0_29 + (1 : Int))))], []))))
        else (none))
      else (none))
    else (some (.done ((.exit 0), ([.a (.b (y0_4)), .a (.i .i64 (y0_29))], [])))))) (by kernel_rfl) ?_
  simp only [impl_ValidPlan_g0, mapS_cond, mapS_more, mapS_done, mapS_none, impl_ValidPlan_e0, impl_ValidPlan_x0]

noncomputable def impl_ValidPlan_k0_0 (P : Program) (N : Nat) (a0 : Array Value) (a1 : Array Value) (b_a1x2 : Option (Option Addr)) (n_a1x2 : Nat) (a1x2 : Array Value) (z0_4 : Bool) (z0_29 : Int) : Option (SV × Eff × Bool) := some (.a (.b (z0_4)), .none, true)

theorem impl_ValidPlan_k0_0_eq (N : Nat) (a0 : Array Value) (a1 : Array Value) (b_a1x2 : Option (Option Addr)) (n_a1x2 : Nat) (a1x2 : Array Value) (z0_4 : Bool) (z0_29 : Int) : (kBlock 0 (kSeq (veC Try.prog impl_ValidPlan_G N (cAt (codeOf Try.f11) [1, 1, 1, 1]) (pAt (mkPlan (codeOf Try.f11) [([4, 29], [])]).1 [1, 1, 1, 1]) (SV × Eff × Bool)) (finK Try.prog [.sl (.came b_a1x2) n_a1x2 a1x2 72] [.tmp 4]))) .ret (left (writes (cAt (codeOf Try.f11) [1, 1, 1, 0, 1, 0, 0])) [4, 29] [] (impl_ValidPlan_t0 a0 a1 b_a1x2 n_a1x2 a1x2) ([.a (.b (z0_4)), .a (.i .i64 (z0_29))], [])) = impl_ValidPlan_k0_0 Try.prog N a0 a1 b_a1x2 n_a1x2 a1x2 z0_4 z0_29 := by
  refine Eq.trans (b := (some (.a (.b (z0_4)), .none, true))) (by kernel_rfl) ?_
  rfl

noncomputable def impl_ValidPlan_k0_1 (P : Program) (N : Nat) (a0 : Array Value) (a1 : Array Value) (b_a1x2 : Option (Option Addr)) (n_a1x2 : Nat) (a1x2 : Array Value) (z0_4 : Bool) (z0_29 : Int) : Option (SV × Eff × Bool) := some (.a (.b (decide ((wsum a1x2 n_a1x2) ≤ (1000 : Int)))), .none, true)

theorem impl_ValidPlan_k0_1_eq (N : Nat) (a0 : Array Value) (a1 : Array Value) (b_a1x2 : Option (Option Addr)) (n_a1x2 : Nat) (a1x2 : Array Value) (z0_4 : Bool) (z0_29 : Int) : (kBlock 0 (kSeq (veC Try.prog impl_ValidPlan_G N (cAt (codeOf Try.f11) [1, 1, 1, 1]) (pAt (mkPlan (codeOf Try.f11) [([4, 29], [])]).1 [1, 1, 1, 1]) (SV × Eff × Bool)) (finK Try.prog [.sl (.came b_a1x2) n_a1x2 a1x2 72] [.tmp 4]))) (.exit 0) (left (writes (cAt (codeOf Try.f11) [1, 1, 1, 0, 1, 0, 0])) [4, 29] [] (impl_ValidPlan_t0 a0 a1 b_a1x2 n_a1x2 a1x2) ([.a (.b (z0_4)), .a (.i .i64 (z0_29))], [])) = impl_ValidPlan_k0_1 Try.prog N a0 a1 b_a1x2 n_a1x2 a1x2 z0_4 z0_29 := by
  refine Eq.trans (b := (some (.a (.b (decide ((wsum a1x2 n_a1x2) ≤ (1000 : Int)))), .none, true))) (by kernel_rfl) ?_
  rfl

theorem impl_ValidPlan_n0 (N : Nat) (a0 : Array Value) (a1 : Array Value) (b_a1x2 : Option (Option Addr)) (n_a1x2 : Nat) (a1x2 : Array Value) : bindX (iterO (stepV Try.prog impl_ValidPlan_G N (cAt (codeOf Try.f11) [1, 1, 1, 0, 1, 0, 0]) (pAt (mkPlan (codeOf Try.f11) [([4, 29], [])]).1 [1, 1, 1, 0, 1, 0]) [4, 29] [] (impl_ValidPlan_t0 a0 a1 b_a1x2 n_a1x2 a1x2)) N ([.a (.b (false)), .a (.i .i64 (0 : Int))], [])) (fun e s => (kBlock 0 (kSeq (veC Try.prog impl_ValidPlan_G N (cAt (codeOf Try.f11) [1, 1, 1, 1]) (pAt (mkPlan (codeOf Try.f11) [([4, 29], [])]).1 [1, 1, 1, 1]) (SV × Eff × Bool)) (finK Try.prog [.sl (.came b_a1x2) n_a1x2 a1x2 72] [.tmp 4]))) e (left (writes (cAt (codeOf Try.f11) [1, 1, 1, 0, 1, 0, 0])) [4, 29] [] (impl_ValidPlan_t0 a0 a1 b_a1x2 n_a1x2 a1x2) s)) = nodeX (iterO (impl_ValidPlan_g0 Try.prog a0 a1 b_a1x2 n_a1x2 a1x2) N (false, (0 : Int))) (st2 (fun x => impl_ValidPlan_k0_0 Try.prog N a0 a1 b_a1x2 n_a1x2 a1x2 x.1 x.2) (fun x => impl_ValidPlan_k0_1 Try.prog N a0 a1 b_a1x2 n_a1x2 a1x2 x.1 x.2)) := by
  refine loop_node impl_ValidPlan_e0 impl_ValidPlan_x0 _ _ (impl_ValidPlan_s0 N a0 a1 b_a1x2 n_a1x2 a1x2) N (false, (0 : Int)) _ _ ?_
  intro x
  cases x with
  | more x => exact impl_ValidPlan_k0_0_eq N a0 a1 b_a1x2 n_a1x2 a1x2 x.1 x.2
  | done x => exact impl_ValidPlan_k0_1_eq N a0 a1 b_a1x2 n_a1x2 a1x2 x.1 x.2

theorem impl_ValidPlan_ans (N : Nat) (a0 : Array Value) (a1 : Array Value) (b_a1x2 : Option (Option Addr)) (n_a1x2 : Nat) (a1x2 : Array Value) : ansV Try.prog impl_ValidPlan_G N Try.f11 [([4, 29], [])] [.g a0 38, .r a1 42 [(2, 0)]] [.sl (.came b_a1x2) n_a1x2 a1x2 72] = (bif (!((okS a0))) then (some (.a (.b (false)), .none, true))
    else (bif (!((impl_planHours_areRight_v0 (((spl (spl (zc Try.prog 66) 0 (#[.int .i64 (IntKind.i64.wrap (num a1 0)), .int .i64 (IntKind.i64.wrap (num a1 1))] : Array Value).toList) 2 a0.toList).setIfInBounds 365 (.slice none 0 0)).extract 0 (0 + 2))))) then (some (.a (.b (false)), .none, true))
      else (bif decide ((n_a1x2 : Int) > (12 : Int)) then (some (.a (.b (false)), .none, true))
        else (nodeX (iterO (impl_ValidPlan_g0 Try.prog a0 a1 b_a1x2 n_a1x2 a1x2) N (false, (0 : Int))) (st2 (fun x => impl_ValidPlan_k0_0 Try.prog N a0 a1 b_a1x2 n_a1x2 a1x2 x.1 x.2) (fun x => impl_ValidPlan_k0_1 Try.prog N a0 a1 b_a1x2 n_a1x2 a1x2 x.1 x.2)))))) := by
  refine Eq.trans (b := (bif (!((okS a0))) then (some (.a (.b (false)), .none, true))
    else (bif (!((impl_planHours_areRight_v0 (((spl (spl (zc Try.prog 66) 0 (#[.int .i64 (IntKind.i64.wrap (num a1 0)), .int .i64 (IntKind.i64.wrap (num a1 1))] : Array Value).toList) 2 a0.toList).setIfInBounds 365 (.slice none 0 0)).extract 0 (0 + 2))))) then (some (.a (.b (false)), .none, true))
      else (bif decide ((n_a1x2 : Int) > (12 : Int)) then (some (.a (.b (false)), .none, true))
        else (bindX (iterO (stepV Try.prog impl_ValidPlan_G N (cAt (codeOf Try.f11) [1, 1, 1, 0, 1, 0, 0]) (pAt (mkPlan (codeOf Try.f11) [([4, 29], [])]).1 [1, 1, 1, 0, 1, 0]) [4, 29] [] (impl_ValidPlan_t0 a0 a1 b_a1x2 n_a1x2 a1x2)) N ([.a (.b (false)), .a (.i .i64 (0 : Int))], [])) (fun e s => (kBlock 0 (kSeq (veC Try.prog impl_ValidPlan_G N (cAt (codeOf Try.f11) [1, 1, 1, 1]) (pAt (mkPlan (codeOf Try.f11) [([4, 29], [])]).1 [1, 1, 1, 1]) (SV × Eff × Bool)) (finK Try.prog [.sl (.came b_a1x2) n_a1x2 a1x2 72] [.tmp 4]))) e (left (writes (cAt (codeOf Try.f11) [1, 1, 1, 0, 1, 0, 0])) [4, 29] [] (impl_ValidPlan_t0 a0 a1 b_a1x2 n_a1x2 a1x2) s))))))) (by kernel_rfl) ?_
  simp only [impl_ValidPlan_n0 N a0 a1 b_a1x2 n_a1x2 a1x2]

theorem impl_ValidPlan_main (a0 : Array Value) (a1 : Array Value) (b_a1x2 : Option (Option Addr)) (n_a1x2 : Nat) (a1x2 : Array Value) (h_a0 : WT Try.prog 38 a0) (h_a1 : WT Try.prog 42 a1) (h_a1x2 : a1x2.size = n_a1x2 * (lay Try.prog 72).length ∧ (∀ k, k < n_a1x2 → WT Try.prog 72 (a1x2.extract (k * (lay Try.prog 72).length) (k * (lay Try.prog 72).length + (lay Try.prog 72).length))) ∧ n_a1x2 ≤ 9223372036854775807) (hg : (true) = true) : ansV Try.prog impl_ValidPlan_G 18446744073709551616 Try.f11 [([4, 29], [])] [.g a0 38, .r a1 42 [(2, 0)]] [.sl (.came b_a1x2) n_a1x2 a1x2 72] = some (.a (.b ((okS a0 && planB a0 a1 n_a1x2 a1x2))), .none, true) := by
  have hn := h_a1x2.2.2
  have hS := land_of h_a0
  have hz : a0.size = 363 := by rw [h_a0.layLen]; kernel_rfl
  obtain ⟨v1, v2⟩ := voy_parts (p := a1) hz
  obtain ⟨-, b0⟩ := h_a1.int (o := 0) (k := .i8) (by kernel_rfl)
  obtain ⟨-, b1⟩ := h_a1.int (o := 1) (k := .i8) (by kernel_rfl)
  have e1 : IntKind.i8.min = -128 := rfl
  have e2 : IntKind.i8.max = 127 := rfl
  have w1 : -128 ≤ IntKind.i64.wrap (num a1 1) ∧ IntKind.i64.wrap (num a1 1) ≤ 127 := by rw [IntWalk.i64_in _ (by omega)]; omega
  have hRE : (lay Try.prog 72).length = 3 := by kernel_rfl
  refine (impl_ValidPlan_ans 18446744073709551616 a0 a1 b_a1x2 n_a1x2 a1x2).trans ?_
  cases hok : okS a0
  · rfl
  have hr : impl_planHours_areRight_v0 (((spl (spl (zc Try.prog 66) 0 (#[.int .i64 (IntKind.i64.wrap (num a1 0)), .int .i64 (IntKind.i64.wrap (num a1 1))] : Array Value).toList) 2 a0.toList).setIfInBounds 365 (.slice none 0 0)).extract 0 (0 + 2)) = (spec_l00In_v0 (IntKind.i64.wrap (num a1 0)) 0 1 && spec_l00In_v0 (IntKind.i64.wrap (num a1 1)) 1 8) := by
    rw [v2]
    unfold impl_planHours_areRight_v0
    rw [tide_in]
    show (bif spec_l00In_v0 (IntKind.i64.wrap (num a1 0)) 0 1 then spec_l00In_v0 (IntKind.i64.wrap (num a1 1)) 1 8 else false) = _
    cases spec_l00In_v0 (IntKind.i64.wrap (num a1 0)) 0 1 <;> rfl
  unfold planB
  rw [hr]
  cases spec_l00In_v0 (IntKind.i64.wrap (num a1 0)) 0 1
  · rfl
  cases spec_l00In_v0 (IntKind.i64.wrap (num a1 1)) 1 8
  · rfl
  cases decide ((n_a1x2 : Int) > 12)
  rotate_left
  · rfl
  simp only [Bool.not_true, Bool.not_false, cond_false, Bool.true_and, Bool.and_self]
  have tk := fun k hk => takes_eq (S := a0) (V := ((spl (spl (zc Try.prog 66) 0 (#[.int .i64 (IntKind.i64.wrap (num a1 0)), .int .i64 (IntKind.i64.wrap (num a1 1))] : Array Value).toList) 2 a0.toList).setIfInBounds 365 (.slice none 0 0))) (X := a1x2.extract (k * 3) (k * 3 + 3)) b_a1x2 n_a1x2 a1x2 hS v1 v2 w1 (by have := h_a1x2.2.1 k hk; rw [hRE] at this; exact this)
  refine (iter_first (g := impl_ValidPlan_g0 Try.prog a0 a1 b_a1x2 n_a1x2 a1x2) (fun k => (false, (k : Int))) (fun k => relB a0 (IntKind.i64.wrap (num a1 1)) (a1x2.extract (k * 3) (k * 3 + 3))) n_a1x2 (N := 18446744073709551616) (xd := .done (false, (n_a1x2 : Int))) (by omega) (fun k hk hp => by
    have h1 : decide ((k : Int) < (n_a1x2 : Int)) = true := decide_eq_true (by omega)
    have h0 : decide (0 ≤ (k : Int)) = true := decide_eq_true (by omega)
    have h3 : IntKind.i64.wrap ((k : Int) + 1) = ((k + 1 : Nat) : Int) := by rw [IntWalk.i64_in _ (by omega)]; omega
    have hp' : relB a0 (IntKind.i64.wrap (num a1 1)) (a1x2.extract (k * 3) (k * 3 + 3)) = true := hp
    simp only [impl_ValidPlan_g0, h1, h0, h3, Bool.and_self, Int.toNat_natCast, cond_true, cond_false, (tk k hk).1, (tk k hk).2, hp', Bool.not_true]) (by
    have h1 : decide ((n_a1x2 : Int) < (n_a1x2 : Int)) = false := decide_eq_false (by omega)
    simp only [impl_ValidPlan_g0, h1, cond_false]) (relAll a0 (IntKind.i64.wrap (num a1 1)) n_a1x2 a1x2) (relAll_iff a0 _ n_a1x2 a1x2) (some (.a (.b (decide (wsum a1x2 n_a1x2 ≤ 1000))), .none, true)) (some (.a (.b false), .none, true)) rfl (fun k hk hp => by
    refine ⟨.more (false, (k : Int)), ?_, rfl⟩
    have h1 : decide ((k : Int) < (n_a1x2 : Int)) = true := decide_eq_true (by omega)
    have h0 : decide (0 ≤ (k : Int)) = true := decide_eq_true (by omega)
    have h3 : IntKind.i64.wrap ((k : Int) + 1) = ((k + 1 : Nat) : Int) := by rw [IntWalk.i64_in _ (by omega)]; omega
    have hp' : relB a0 (IntKind.i64.wrap (num a1 1)) (a1x2.extract (k * 3) (k * 3 + 3)) = false := hp
    simp only [impl_ValidPlan_g0, h1, h0, h3, Bool.and_self, Int.toNat_natCast, cond_true, cond_false, (tk k hk).1, (tk k hk).2, hp', Bool.not_false])).trans ?_
  cases relAll a0 (IntKind.i64.wrap (num a1 1)) n_a1x2 a1x2 <;> rfl
noncomputable def impl_ValidPlan_con : Con := fun args h => match args, h with
  | [.g a0 38, .r a1 42 [(2, 0)]], [.sl (.came b_a1x2) n_a1x2 a1x2 72] => some (.a (.b ((okS a0 && planB a0 a1 n_a1x2 a1x2))), .none, true)
  | _, _ => none
theorem impl_ValidPlan_enter : ∀ args w, (callFunc 11 args).run Try.prog w = .ok (.enter 11 args) w := enter_ok (fn := Try.f11) (by kernel_rfl) (by kernel_rfl) (by kernel_rfl)
theorem impl_ValidPlan_ok : ConOk Try.prog 11 impl_ValidPlan_con := (ans_ok (N := 18446744073709551616) (by kernel_rfl) (mkΓ_cons (con_ok impl_voyageOf_ok) impl_voyageOf_enter (mkΓ_cons (con_ok impl_ValidSea_ok) impl_ValidSea_enter (mkΓ_cons (con_ok impl_planHours_areRight_ok) impl_planHours_areRight_enter (mkΓ_cons (con_ok impl_voyage_takes_ok) impl_voyage_takes_enter (mkΓ_cons (con_ok impl_voyage_bottles_ok) impl_voyage_bottles_enter mkΓ_nil))))) (fn := Try.f11) (by kernel_rfl) (by kernel_rfl) [([4, 29], [])]).of (by
  intro ρ h w args vals r e hA hH hr
  unfold impl_ValidPlan_con at hr
  split at hr
  · rename_i a0 a1 b_a1x2 n_a1x2 a1x2
    obtain ⟨rfl, hg⟩ := Prod.mk.inj (Option.some.inj hr)
    obtain ⟨rfl, hg2⟩ := Prod.mk.inj hg
    exact impl_ValidPlan_main a0 a1 b_a1x2 n_a1x2 a1x2 (hA.wt 0 rfl) (hA.wtr 1 rfl) (hH.slw 0 rfl) hg2
  · cases hr)

noncomputable def spec_l07Same_t0 (a0 : Array Value) (a1 : Array Value) (b_a0x2 : Option (Option Addr)) (n_a0x2 : Nat) (a0x2 : Array Value) (b_a1x2 : Option (Option Addr)) (n_a1x2 : Nat) (a1x2 : Array Value) : St := (⟨.a (.w 0) :: .a (.w 1) :: .a (.u) :: .a (.u) :: .a (.b (false)) :: .a (.i .i64 (0 : Int)) :: .a (.w 0) :: .a (.w 0) :: .a (.p 0 (0) 22) :: .a (.i .i8 (num a0 0)) :: .a (.w 1) :: .a (.w 1) :: .a (.p 1 (0) 22) :: .a (.i .i8 (num a1 0)) :: .a (.b (((num a0 0) != (num a1 0)))) :: .a (.b (false)) :: .a (.w 0) :: .a (.w 0) :: .a (.p 0 (1) 22) :: .a (.i .i8 (num a0 1)) :: .a (.w 1) :: .a (.w 1) :: .a (.p 1 (1) 22) :: .a (.i .i8 (num a1 1)) :: .a (.b (((num a0 1) != (num a1 1)))) :: .a (.b (((num a0 1) != (num a1 1)))) :: .a (.b (false)) :: .a (.w 0) :: .a (.w 0) :: .a (.p 0 (2) 40) :: .a (.l 2) :: .a (.i .i64 (n_a0x2 : Int)) :: .a (.w 1) :: .a (.w 1) :: .a (.p 1 (2) 40) :: .a (.l 3) :: .a (.i .i64 (n_a1x2 : Int)) :: .a (.b (((n_a0x2 : Int) != (n_a1x2 : Int)))) :: .a (.b (((n_a0x2 : Int) != (n_a1x2 : Int)))) :: us 24 ([]), [.one (.r a0 42 [(2, 2)]) 42, .one (.r a1 42 [(2, 3)]) 42, .sl (.came b_a0x2) n_a0x2 a0x2 72, .sl (.came b_a1x2) n_a1x2 a1x2 72, .no, .no, .no, .no, .no, .no, .no, .no, .no, .no, .no, .no, .no, .no, .no, .no, .no, .no, .no, .no, .no, .no, .no, .no, .no, .no, .no, .no, .no, .no, .no, .no, .no], []⟩ : St)

noncomputable def spec_l07Same_e0 : Bool × Int → LS
  | (y0_4, y0_5) => ([.a (.b (y0_4)), .a (.i .i64 (y0_5))], [])

noncomputable def spec_l07Same_x0 : (Stp (Bool × Int) (Bool × Int)) → Exit × LS
  | .more t => (.ret, spec_l07Same_e0 t)
  | .done t => ((.exit 0), spec_l07Same_e0 t)

noncomputable def spec_l07Same_g0 (P : Program) (a0 : Array Value) (a1 : Array Value) (b_a0x2 : Option (Option Addr)) (n_a0x2 : Nat) (a0x2 : Array Value) (b_a1x2 : Option (Option Addr)) (n_a1x2 : Nat) (a1x2 : Array Value) : Bool × Int → Option (Stp (Bool × Int) (Stp (Bool × Int) (Bool × Int)))
  | (y0_4, y0_5) => bif decide (y0_5 < (n_a0x2 : Int)) then (bif (decide (0 ≤ y0_5) && decide (y0_5 < (n_a0x2 : Int))) then (bif (decide (0 ≤ y0_5) && decide (y0_5 < (n_a1x2 : Int))) then (bif (!(sameB (a0x2.extract ((y0_5).toNat * 3) (((y0_5).toNat * 3) + 3)) (a1x2.extract ((y0_5).toNat * 3) (((y0_5).toNat * 3) + 3)))) then (some (.done (.more (false, y0_5))))
          else (some (.more (y0_4, (IntKind.i64.wrap (y0_5 + (1 : Int)))))))
        else (none))
      else (none))
    else (some (.done (.done (y0_4, y0_5))))

theorem spec_l07Same_s0 (N : Nat) (a0 : Array Value) (a1 : Array Value) (b_a0x2 : Option (Option Addr)) (n_a0x2 : Nat) (a0x2 : Array Value) (b_a1x2 : Option (Option Addr)) (n_a1x2 : Nat) (a1x2 : Array Value) : ∀ t : Bool × Int, stepV Try.prog (mkΓ []) N (cAt (codeOf Try.f33) [1, 1, 0, 1, 0, 0]) (pAt (mkPlan (codeOf Try.f33) [([4, 5], [])]).1 [1, 1, 0, 1, 0]) [4, 5] [] (spec_l07Same_t0 a0 a1 b_a0x2 n_a0x2 a0x2 b_a1x2 n_a1x2 a1x2) (spec_l07Same_e0 t) = mapS spec_l07Same_e0 spec_l07Same_x0 (spec_l07Same_g0 Try.prog a0 a1 b_a0x2 n_a0x2 a0x2 b_a1x2 n_a1x2 a1x2 t) := by
  rintro ⟨y0_4, y0_5⟩
  refine Eq.trans (b := (bif decide (y0_5 < (n_a0x2 : Int)) then (bif (decide (0 ≤ y0_5) && decide (y0_5 < (n_a0x2 : Int))) then (bif (decide (0 ≤ y0_5) && decide (y0_5 < (n_a1x2 : Int))) then (bif (!(sameB (a0x2.extract ((y0_5).toNat * 3) (((y0_5).toNat * 3) + 3)) (a1x2.extract ((y0_5).toNat * 3) (((y0_5).toNat * 3) + 3)))) then (some (.done (.ret, ([.a (.b (false)), .a (.i .i64 (y0_5))], []))))
          else (some (.more ([.a (.b (y0_4)), .a (.i .i64 (IntKind.i64.wrap (y0_5 + (1 : Int))))], []))))
        else (none))
      else (none))
    else (some (.done ((.exit 0), ([.a (.b (y0_4)), .a (.i .i64 (y0_5))], [])))))) (by kernel_rfl) ?_
  simp only [spec_l07Same_g0, mapS_cond, mapS_more, mapS_done, mapS_none, spec_l07Same_e0, spec_l07Same_x0]

noncomputable def spec_l07Same_k0_0 (P : Program) (N : Nat) (a0 : Array Value) (a1 : Array Value) (b_a0x2 : Option (Option Addr)) (n_a0x2 : Nat) (a0x2 : Array Value) (b_a1x2 : Option (Option Addr)) (n_a1x2 : Nat) (a1x2 : Array Value) (z0_4 : Bool) (z0_5 : Int) : Option (SV × Eff × Bool) := some (.a (.b (z0_4)), .none, true)

theorem spec_l07Same_k0_0_eq (N : Nat) (a0 : Array Value) (a1 : Array Value) (b_a0x2 : Option (Option Addr)) (n_a0x2 : Nat) (a0x2 : Array Value) (b_a1x2 : Option (Option Addr)) (n_a1x2 : Nat) (a1x2 : Array Value) (z0_4 : Bool) (z0_5 : Int) : (kBlock 0 (kSeq (veC Try.prog (mkΓ []) N (cAt (codeOf Try.f33) [1, 1, 1]) (pAt (mkPlan (codeOf Try.f33) [([4, 5], [])]).1 [1, 1, 1]) (SV × Eff × Bool)) (finK Try.prog [.one (.r a0 42 [(2, 2)]) 42, .one (.r a1 42 [(2, 3)]) 42, .sl (.came b_a0x2) n_a0x2 a0x2 72, .sl (.came b_a1x2) n_a1x2 a1x2 72] [.tmp 4]))) .ret (left (writes (cAt (codeOf Try.f33) [1, 1, 0, 1, 0, 0])) [4, 5] [] (spec_l07Same_t0 a0 a1 b_a0x2 n_a0x2 a0x2 b_a1x2 n_a1x2 a1x2) ([.a (.b (z0_4)), .a (.i .i64 (z0_5))], [])) = spec_l07Same_k0_0 Try.prog N a0 a1 b_a0x2 n_a0x2 a0x2 b_a1x2 n_a1x2 a1x2 z0_4 z0_5 := by
  refine Eq.trans (b := (some (.a (.b (z0_4)), .none, true))) (by kernel_rfl) ?_
  rfl

noncomputable def spec_l07Same_k0_1 (P : Program) (N : Nat) (a0 : Array Value) (a1 : Array Value) (b_a0x2 : Option (Option Addr)) (n_a0x2 : Nat) (a0x2 : Array Value) (b_a1x2 : Option (Option Addr)) (n_a1x2 : Nat) (a1x2 : Array Value) (z0_4 : Bool) (z0_5 : Int) : Option (SV × Eff × Bool) := some (.a (.b (true)), .none, true)

theorem spec_l07Same_k0_1_eq (N : Nat) (a0 : Array Value) (a1 : Array Value) (b_a0x2 : Option (Option Addr)) (n_a0x2 : Nat) (a0x2 : Array Value) (b_a1x2 : Option (Option Addr)) (n_a1x2 : Nat) (a1x2 : Array Value) (z0_4 : Bool) (z0_5 : Int) : (kBlock 0 (kSeq (veC Try.prog (mkΓ []) N (cAt (codeOf Try.f33) [1, 1, 1]) (pAt (mkPlan (codeOf Try.f33) [([4, 5], [])]).1 [1, 1, 1]) (SV × Eff × Bool)) (finK Try.prog [.one (.r a0 42 [(2, 2)]) 42, .one (.r a1 42 [(2, 3)]) 42, .sl (.came b_a0x2) n_a0x2 a0x2 72, .sl (.came b_a1x2) n_a1x2 a1x2 72] [.tmp 4]))) (.exit 0) (left (writes (cAt (codeOf Try.f33) [1, 1, 0, 1, 0, 0])) [4, 5] [] (spec_l07Same_t0 a0 a1 b_a0x2 n_a0x2 a0x2 b_a1x2 n_a1x2 a1x2) ([.a (.b (z0_4)), .a (.i .i64 (z0_5))], [])) = spec_l07Same_k0_1 Try.prog N a0 a1 b_a0x2 n_a0x2 a0x2 b_a1x2 n_a1x2 a1x2 z0_4 z0_5 := by
  refine Eq.trans (b := (some (.a (.b (true)), .none, true))) (by kernel_rfl) ?_
  rfl

theorem spec_l07Same_n0 (N : Nat) (a0 : Array Value) (a1 : Array Value) (b_a0x2 : Option (Option Addr)) (n_a0x2 : Nat) (a0x2 : Array Value) (b_a1x2 : Option (Option Addr)) (n_a1x2 : Nat) (a1x2 : Array Value) : bindX (iterO (stepV Try.prog (mkΓ []) N (cAt (codeOf Try.f33) [1, 1, 0, 1, 0, 0]) (pAt (mkPlan (codeOf Try.f33) [([4, 5], [])]).1 [1, 1, 0, 1, 0]) [4, 5] [] (spec_l07Same_t0 a0 a1 b_a0x2 n_a0x2 a0x2 b_a1x2 n_a1x2 a1x2)) N ([.a (.b (false)), .a (.i .i64 (0 : Int))], [])) (fun e s => (kBlock 0 (kSeq (veC Try.prog (mkΓ []) N (cAt (codeOf Try.f33) [1, 1, 1]) (pAt (mkPlan (codeOf Try.f33) [([4, 5], [])]).1 [1, 1, 1]) (SV × Eff × Bool)) (finK Try.prog [.one (.r a0 42 [(2, 2)]) 42, .one (.r a1 42 [(2, 3)]) 42, .sl (.came b_a0x2) n_a0x2 a0x2 72, .sl (.came b_a1x2) n_a1x2 a1x2 72] [.tmp 4]))) e (left (writes (cAt (codeOf Try.f33) [1, 1, 0, 1, 0, 0])) [4, 5] [] (spec_l07Same_t0 a0 a1 b_a0x2 n_a0x2 a0x2 b_a1x2 n_a1x2 a1x2) s)) = nodeX (iterO (spec_l07Same_g0 Try.prog a0 a1 b_a0x2 n_a0x2 a0x2 b_a1x2 n_a1x2 a1x2) N (false, (0 : Int))) (st2 (fun x => spec_l07Same_k0_0 Try.prog N a0 a1 b_a0x2 n_a0x2 a0x2 b_a1x2 n_a1x2 a1x2 x.1 x.2) (fun x => spec_l07Same_k0_1 Try.prog N a0 a1 b_a0x2 n_a0x2 a0x2 b_a1x2 n_a1x2 a1x2 x.1 x.2)) := by
  refine loop_node spec_l07Same_e0 spec_l07Same_x0 _ _ (spec_l07Same_s0 N a0 a1 b_a0x2 n_a0x2 a0x2 b_a1x2 n_a1x2 a1x2) N (false, (0 : Int)) _ _ ?_
  intro x
  cases x with
  | more x => exact spec_l07Same_k0_0_eq N a0 a1 b_a0x2 n_a0x2 a0x2 b_a1x2 n_a1x2 a1x2 x.1 x.2
  | done x => exact spec_l07Same_k0_1_eq N a0 a1 b_a0x2 n_a0x2 a0x2 b_a1x2 n_a1x2 a1x2 x.1 x.2

theorem spec_l07Same_ans (N : Nat) (a0 : Array Value) (a1 : Array Value) (b_a0x2 : Option (Option Addr)) (n_a0x2 : Nat) (a0x2 : Array Value) (b_a1x2 : Option (Option Addr)) (n_a1x2 : Nat) (a1x2 : Array Value) : ansV Try.prog (mkΓ []) N Try.f33 [([4, 5], [])] [.w 0, .w 1] [.one (.r a0 42 [(2, 2)]) 42, .one (.r a1 42 [(2, 3)]) 42, .sl (.came b_a0x2) n_a0x2 a0x2 72, .sl (.came b_a1x2) n_a1x2 a1x2 72] = (bif ((num a0 0) != (num a1 0)) then (some (.a (.b (false)), .none, true))
    else (bif ((num a0 1) != (num a1 1)) then (some (.a (.b (false)), .none, true))
      else (bif ((n_a0x2 : Int) != (n_a1x2 : Int)) then (some (.a (.b (false)), .none, true))
        else (nodeX (iterO (spec_l07Same_g0 Try.prog a0 a1 b_a0x2 n_a0x2 a0x2 b_a1x2 n_a1x2 a1x2) N (false, (0 : Int))) (st2 (fun x => spec_l07Same_k0_0 Try.prog N a0 a1 b_a0x2 n_a0x2 a0x2 b_a1x2 n_a1x2 a1x2 x.1 x.2) (fun x => spec_l07Same_k0_1 Try.prog N a0 a1 b_a0x2 n_a0x2 a0x2 b_a1x2 n_a1x2 a1x2 x.1 x.2)))))) := by
  refine Eq.trans (b := (bif ((num a0 0) != (num a1 0)) then (some (.a (.b (false)), .none, true))
    else (bif ((num a0 1) != (num a1 1)) then (some (.a (.b (false)), .none, true))
      else (bif ((n_a0x2 : Int) != (n_a1x2 : Int)) then (some (.a (.b (false)), .none, true))
        else (bindX (iterO (stepV Try.prog (mkΓ []) N (cAt (codeOf Try.f33) [1, 1, 0, 1, 0, 0]) (pAt (mkPlan (codeOf Try.f33) [([4, 5], [])]).1 [1, 1, 0, 1, 0]) [4, 5] [] (spec_l07Same_t0 a0 a1 b_a0x2 n_a0x2 a0x2 b_a1x2 n_a1x2 a1x2)) N ([.a (.b (false)), .a (.i .i64 (0 : Int))], [])) (fun e s => (kBlock 0 (kSeq (veC Try.prog (mkΓ []) N (cAt (codeOf Try.f33) [1, 1, 1]) (pAt (mkPlan (codeOf Try.f33) [([4, 5], [])]).1 [1, 1, 1]) (SV × Eff × Bool)) (finK Try.prog [.one (.r a0 42 [(2, 2)]) 42, .one (.r a1 42 [(2, 3)]) 42, .sl (.came b_a0x2) n_a0x2 a0x2 72, .sl (.came b_a1x2) n_a1x2 a1x2 72] [.tmp 4]))) e (left (writes (cAt (codeOf Try.f33) [1, 1, 0, 1, 0, 0])) [4, 5] [] (spec_l07Same_t0 a0 a1 b_a0x2 n_a0x2 a0x2 b_a1x2 n_a1x2 a1x2) s))))))) (by kernel_rfl) ?_
  simp only [spec_l07Same_n0 N a0 a1 b_a0x2 n_a0x2 a0x2 b_a1x2 n_a1x2 a1x2]

theorem spec_l07Same_main (a0 : Array Value) (a1 : Array Value) (b_a0x2 : Option (Option Addr)) (n_a0x2 : Nat) (a0x2 : Array Value) (b_a1x2 : Option (Option Addr)) (n_a1x2 : Nat) (a1x2 : Array Value) (h_a0 : WT Try.prog 42 a0) (h_a1 : WT Try.prog 42 a1) (h_a0x2 : a0x2.size = n_a0x2 * (lay Try.prog 72).length ∧ (∀ k, k < n_a0x2 → WT Try.prog 72 (a0x2.extract (k * (lay Try.prog 72).length) (k * (lay Try.prog 72).length + (lay Try.prog 72).length))) ∧ n_a0x2 ≤ 9223372036854775807) (h_a1x2 : a1x2.size = n_a1x2 * (lay Try.prog 72).length ∧ (∀ k, k < n_a1x2 → WT Try.prog 72 (a1x2.extract (k * (lay Try.prog 72).length) (k * (lay Try.prog 72).length + (lay Try.prog 72).length))) ∧ n_a1x2 ≤ 9223372036854775807) (hg : (true) = true) : ansV Try.prog (mkΓ []) 18446744073709551616 Try.f33 [([4, 5], [])] [.w 0, .w 1] [.one (.r a0 42 [(2, 2)]) 42, .one (.r a1 42 [(2, 3)]) 42, .sl (.came b_a0x2) n_a0x2 a0x2 72, .sl (.came b_a1x2) n_a1x2 a1x2 72] = some (.a (.b ((num a0 0 == num a1 0 && (num a0 1 == num a1 1 && (decide (n_a0x2 = n_a1x2) && sameB a0x2 a1x2))))), .none, true) := by
  have hm : (lay Try.prog 72).length = 3 := by kernel_rfl
  obtain ⟨s1, s2, s3⟩ := h_a0x2
  obtain ⟨t1, t2, t3⟩ := h_a1x2
  rw [hm] at s1 s2 t1 t2
  refine (spec_l07Same_ans 18446744073709551616 a0 a1 b_a0x2 n_a0x2 a0x2 b_a1x2 n_a1x2 a1x2).trans ?_
  simp only [bne]
  cases (num a0 0 == num a1 0)
  · rfl
  cases (num a0 1 == num a1 1)
  · rfl
  simp only [Bool.not_true, cond_false, Bool.true_and]
  by_cases hl : n_a0x2 = n_a1x2
  case neg =>
    rw [decide_eq_false hl, show ((n_a0x2 : Int) == (n_a1x2 : Int)) = false from beq_eq_false_iff_ne.2 (by omega)]
    rfl
  subst hl
  rw [decide_eq_true rfl, show ((n_a0x2 : Int) == (n_a0x2 : Int)) = true from beq_self_eq_true _]
  simp only [Bool.not_true, cond_false, Bool.true_and]
  have hb : sameB a0x2 a1x2 = true ↔ ∀ k, k < n_a0x2 → (fun k => sameB (a0x2.extract (k * 3) (k * 3 + 3)) (a1x2.extract (k * 3) (k * 3 + 3))) k = true := by
    constructor
    · intro h k hk
      rw [sameB_iff.1 h]
      exact sameB_self _
    · intro h
      refine sameB_iff.2 ?_
      exact ext_parts (n := n_a0x2) (m := 3) (by omega) s1 t1 (fun k hk => sameB_iff.1 (h k hk))
  refine (iter_first (g := spec_l07Same_g0 Try.prog a0 a1 b_a0x2 n_a0x2 a0x2 b_a1x2 n_a0x2 a1x2) (fun k => (false, (k : Int))) (fun k => sameB (a0x2.extract (k * 3) (k * 3 + 3)) (a1x2.extract (k * 3) (k * 3 + 3))) n_a0x2 (N := 18446744073709551616) (xd := .done (false, (n_a0x2 : Int))) (by omega) (fun k hk hp => by
    have h1 : decide ((k : Int) < (n_a0x2 : Int)) = true := decide_eq_true (by omega)
    have h0 : decide (0 ≤ (k : Int)) = true := decide_eq_true (by omega)
    have h3 : IntKind.i64.wrap ((k : Int) + 1) = ((k + 1 : Nat) : Int) := by rw [IntWalk.i64_in _ (by omega)]; omega
    have hp' : sameB (a0x2.extract (k * 3) (k * 3 + 3)) (a1x2.extract (k * 3) (k * 3 + 3)) = true := hp
    simp only [spec_l07Same_g0, h1, h0, Bool.and_self, Int.toNat_natCast, cond_true, h3, hp', Bool.not_true, cond_false]) (by
    have h1 : decide ((n_a0x2 : Int) < (n_a0x2 : Int)) = false := decide_eq_false (by omega)
    simp only [spec_l07Same_g0, h1, cond_false]) (sameB a0x2 a1x2) hb (some (.a (.b true), .none, true)) (some (.a (.b false), .none, true)) rfl (fun k hk hp => by
    refine ⟨.more (false, (k : Int)), ?_, rfl⟩
    have h1 : decide ((k : Int) < (n_a0x2 : Int)) = true := decide_eq_true (by omega)
    have h0 : decide (0 ≤ (k : Int)) = true := decide_eq_true (by omega)
    have h3 : IntKind.i64.wrap ((k : Int) + 1) = ((k + 1 : Nat) : Int) := by rw [IntWalk.i64_in _ (by omega)]; omega
    have hp' : sameB (a0x2.extract (k * 3) (k * 3 + 3)) (a1x2.extract (k * 3) (k * 3 + 3)) = false := hp
    simp only [spec_l07Same_g0, h1, h0, Bool.and_self, Int.toNat_natCast, cond_true, h3, hp', Bool.not_false])).trans ?_
  cases sameB a0x2 a1x2 <;> rfl
noncomputable def spec_l07Same_con : Con := fun args h => match args, h with
  | [.w 0, .w 1], [.one (.r a0 42 [(2, 2)]) 42, .one (.r a1 42 [(2, 3)]) 42, .sl (.came b_a0x2) n_a0x2 a0x2 72, .sl (.came b_a1x2) n_a1x2 a1x2 72] => some (.a (.b ((num a0 0 == num a1 0 && (num a0 1 == num a1 1 && (decide (n_a0x2 = n_a1x2) && sameB a0x2 a1x2))))), .none, true)
  | _, _ => none
theorem spec_l07Same_enter : ∀ args w, (callFunc 33 args).run Try.prog w = .ok (.enter 33 args) w := enter_ok (fn := Try.f33) (by kernel_rfl) (by kernel_rfl) (by kernel_rfl)
theorem spec_l07Same_ok : ConOk Try.prog 33 spec_l07Same_con := (ans_ok (N := 18446744073709551616) (by kernel_rfl) mkΓ_nil (fn := Try.f33) (by kernel_rfl) (by kernel_rfl) [([4, 5], [])]).of (by
  intro ρ h w args vals r e hA hH hr
  unfold spec_l07Same_con at hr
  split at hr
  · rename_i a0 a1 b_a0x2 n_a0x2 a0x2 b_a1x2 n_a1x2 a1x2
    obtain ⟨rfl, hg⟩ := Prod.mk.inj (Option.some.inj hr)
    obtain ⟨rfl, hg2⟩ := Prod.mk.inj hg
    exact spec_l07Same_main a0 a1 b_a0x2 n_a0x2 a0x2 b_a1x2 n_a1x2 a1x2 (hH.wtr 0 rfl) (hH.wtr 1 rfl) (hH.slw 2 rfl) (hH.slw 3 rfl) hg2
  · cases hr)

theorem spec_SamePlan_ans (N : Nat) (a0 : Array Value) (a1 : Array Value) (b_a0x2 : Option (Option Addr)) (n_a0x2 : Nat) (a0x2 : Array Value) (b_a1x2 : Option (Option Addr)) (n_a1x2 : Nat) (a1x2 : Array Value) : ansV Try.prog (mkΓ [(33, con spec_l07Same_con)]) N Try.f13 [] [.r a0 42 [(2, 0)], .r a1 42 [(2, 1)]] [.sl (.came b_a0x2) n_a0x2 a0x2 72, .sl (.came b_a1x2) n_a1x2 a1x2 72] = (some (.a (.b ((num a0 0 == num a1 0 && (num a0 1 == num a1 1 && (decide (n_a0x2 = n_a1x2) && sameB a0x2 a1x2))))), .none, true)) := by kernel_rfl



theorem spec_SamePlan_main (a0 : Array Value) (a1 : Array Value) (b_a0x2 : Option (Option Addr)) (n_a0x2 : Nat) (a0x2 : Array Value) (b_a1x2 : Option (Option Addr)) (n_a1x2 : Nat) (a1x2 : Array Value) (h_a0 : WT Try.prog 42 a0) (h_a1 : WT Try.prog 42 a1) (h_a0x2 : a0x2.size = n_a0x2 * (lay Try.prog 72).length ∧ (∀ k, k < n_a0x2 → WT Try.prog 72 (a0x2.extract (k * (lay Try.prog 72).length) (k * (lay Try.prog 72).length + (lay Try.prog 72).length))) ∧ n_a0x2 ≤ 9223372036854775807) (h_a1x2 : a1x2.size = n_a1x2 * (lay Try.prog 72).length ∧ (∀ k, k < n_a1x2 → WT Try.prog 72 (a1x2.extract (k * (lay Try.prog 72).length) (k * (lay Try.prog 72).length + (lay Try.prog 72).length))) ∧ n_a1x2 ≤ 9223372036854775807) (hg : (true) = true) : ansV Try.prog (mkΓ [(33, con spec_l07Same_con)]) 1000 Try.f13 [] [.r a0 42 [(2, 0)], .r a1 42 [(2, 1)]] [.sl (.came b_a0x2) n_a0x2 a0x2 72, .sl (.came b_a1x2) n_a1x2 a1x2 72] = some (.a (.b ((num a0 0 == num a1 0 && (num a0 1 == num a1 1 && (decide (n_a0x2 = n_a1x2) && sameB a0x2 a1x2))))), .none, true) := by
  refine (spec_SamePlan_ans 1000 a0 a1 b_a0x2 n_a0x2 a0x2 b_a1x2 n_a1x2 a1x2).trans ?_
  rfl
noncomputable def spec_SamePlan_con : Con := fun args h => match args, h with
  | [.r a0 42 [(2, 0)], .r a1 42 [(2, 1)]], [.sl (.came b_a0x2) n_a0x2 a0x2 72, .sl (.came b_a1x2) n_a1x2 a1x2 72] => some (.a (.b ((num a0 0 == num a1 0 && (num a0 1 == num a1 1 && (decide (n_a0x2 = n_a1x2) && sameB a0x2 a1x2))))), .none, true)
  | _, _ => none
theorem spec_SamePlan_enter : ∀ args w, (callFunc 13 args).run Try.prog w = .ok (.enter 13 args) w := enter_ok (fn := Try.f13) (by kernel_rfl) (by kernel_rfl) (by kernel_rfl)
theorem spec_SamePlan_ok : ConOk Try.prog 13 spec_SamePlan_con := (ans_ok (N := 1000) (by kernel_rfl) (mkΓ_cons (con_ok spec_l07Same_ok) spec_l07Same_enter mkΓ_nil) (fn := Try.f13) (by kernel_rfl) (by kernel_rfl) []).of (by
  intro ρ h w args vals r e hA hH hr
  unfold spec_SamePlan_con at hr
  split at hr
  · rename_i a0 a1 b_a0x2 n_a0x2 a0x2 b_a1x2 n_a1x2 a1x2
    obtain ⟨rfl, hg⟩ := Prod.mk.inj (Option.some.inj hr)
    obtain ⟨rfl, hg2⟩ := Prod.mk.inj hg
    exact spec_SamePlan_main a0 a1 b_a0x2 n_a0x2 a0x2 b_a1x2 n_a1x2 a1x2 (hA.wtr 0 rfl) (hA.wtr 1 rfl) (hH.slw 0 rfl) (hH.slw 1 rfl) hg2
  · cases hr)

end
end Go.Proofs.Ythpcidnfbceliaa
