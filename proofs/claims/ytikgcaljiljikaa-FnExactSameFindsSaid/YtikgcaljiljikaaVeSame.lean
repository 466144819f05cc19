/- Lists of finds copied and compared. -/
import Derived.Test.YtikgcaljiljikaaProg
import Derived.Test.YtikgcaljiljikaaVeD
namespace Go.Proofs.Ytikgcaljiljikaa
open Go.ChangeShapes Go.WideShapes Go.ChangeAt Go.RowKit Ve
set_option linter.unusedVariables false
set_option linter.unusedSimpArgs false
set_option maxRecDepth 100000
noncomputable section

theorem ext_num {C : Array Value} {b m o : Nat} (ho : o < m) : num (C.extract b (b + m)) o = num C (b + o) := by
  have e2 : (C.extract b (b + m))[o]? = C[b + o]? := by
    simp only [Array.getElem?_extract]
    by_cases h : b + o < C.size
    · rw [if_pos (by omega)]
    · rw [if_neg (by omega), Array.getElem?_eq_none (by omega)]
  unfold num; rw [e2]
theorem sl_int {P : Program} {e : TypeId} {n m : Nat} {C : Array Value} (h : ∀ k, k < n → WT P e (C.extract (k * m) (k * m + m))) {k o : Nat} {kd : IntKind} (hk : k < n) (ho : o < m) (hq : (lay P e)[o]? = some (kN kd)) :
    C[k * m + o]? = some (.int kd (num C (k * m + o))) ∧ kd.min ≤ num C (k * m + o) ∧ num C (k * m + o) ≤ kd.max := by
  have hw := (h k hk).int hq
  rw [ext_num ho] at hw
  refine ⟨?_, hw.2⟩
  have := hw.1
  rw [Array.getElem?_extract] at this
  split at this
  · exact this
  · cases this

theorem laws_toFind_ans (N : Nat) (a0 : Array Value) : ansV Try.prog (mkΓ []) N Try.f23 [] [.g a0 61] [] = (some (.a (.g #[.int .i8 (num a0 0), .int .i8 (num a0 1)] 59), .none, true)) := by kernel_rfl

theorem laws_toFind_main (a0 : Array Value) (h_a0 : WT Try.prog 61 a0) (hg : (true) = true) : ansV Try.prog (mkΓ []) 1000 Try.f23 [] [.g a0 61] [] = some (.a (.g a0 59), .none, true) := by
  have hz : a0.size = 2 := by rw [h_a0.layLen]; kernel_rfl
  have e0 := (h_a0.int (o := 0) (k := .i8) (by kernel_rfl)).1
  have e1 := (h_a0.int (o := 1) (k := .i8) (by kernel_rfl)).1
  have he : (#[.int .i8 (num a0 0), .int .i8 (num a0 1)] : Array Value) = a0 := arr_ext fun i => by
    match i with
    | 0 => exact e0.symm
    | 1 => exact e1.symm
    | i + 2 => rw [Array.getElem?_eq_none (by simp), Array.getElem?_eq_none (by omega)]
  refine (laws_toFind_ans 1000 a0).trans ?_
  rw [he]
noncomputable def laws_toFind_con : Con := fun args h => match args, h with
  | [.g a0 61], [] => some (.a (.g a0 59), .none, true)
  | _, _ => none
theorem laws_toFind_enter : ∀ args w, (callFunc 23 args).run Try.prog w = .ok (.enter 23 args) w := enter_ok (fn := Try.f23) (by kernel_rfl) (by kernel_rfl) (by kernel_rfl)
theorem laws_toFind_ok : ConOk Try.prog 23 laws_toFind_con := (ans_ok (N := 1000) (by kernel_rfl) mkΓ_nil (fn := Try.f23) (by kernel_rfl) (by kernel_rfl) []).of (by
  intro ρ h w args vals r e hA hH hr
  unfold laws_toFind_con at hr
  split at hr
  · rename_i a0
    obtain ⟨rfl, hg⟩ := Prod.mk.inj (Option.some.inj hr)
    obtain ⟨rfl, hg2⟩ := Prod.mk.inj hg
    exact laws_toFind_main a0 (hA.wt 0 rfl) hg2
  · cases hr)

noncomputable def laws_toFindS_e0 (n_a0 : Nat) : Int × Array Value → LS
  | (y0_4, r0_3) => ([.a (.i .i64 (y0_4))], [.sl none ((n_a0 : Int).toNat) r0_3 59])

noncomputable def laws_toFindS_x0 (n_a0 : Nat) : Int × Array Value → Exit × LS
  | t => ((.exit 0), (laws_toFindS_e0 n_a0) t)

noncomputable def laws_toFindS_g0 (P : Program) (b_a0 : Option (Option Addr)) (n_a0 : Nat) (a0 : Array Value) : Int × Array Value → Option (Stp (Int × Array Value) (Int × Array Value))
  | (y0_4, r0_3) => bif decide (y0_4 < (n_a0 : Int)) then (bif (decide (0 ≤ y0_4) && decide (y0_4 < (n_a0 : Int))) then (bif (decide (0 ≤ y0_4) && decide (y0_4 < (((n_a0 : Int).toNat) : Int))) then (some (.more ((IntKind.i64.wrap (y0_4 + (1 : Int))), (spl r0_3 ((y0_4).toNat * 2) (a0.extract ((y0_4).toNat * 2) (((y0_4).toNat * 2) + 2)).toList))))
        else (none))
      else (none))
    else (some (.done (y0_4, r0_3)))

theorem laws_toFindS_s0 (N : Nat) (b_a0 : Option (Option Addr)) (n_a0 : Nat) (a0 : Array Value) : ∀ t : Int × Array Value, stepV Try.prog (mkΓ [(23, con laws_toFind_con)]) N (cAt (codeOf Try.f11) [1, 1, 0, 1, 0, 0]) (pAt (mkPlan (codeOf Try.f11) [([4], [3])]).1 [1, 1, 0, 1, 0]) [4] [3] (⟨[.a (.l 0), .a (.u), .a (.v (.slice none 0 0)), .a (.l 3), .a (.i .i64 (0 : Int)), .a (.l 0), .a (.i .i64 (n_a0 : Int)), .a (.l 3), .a (.u), .a (.u), .a (.u), .a (.u), .a (.u), .a (.u), .a (.u), .a (.u), .a (.u), .a (.u), .a (.u), .a (.u), .a (.u), .a (.u), .a (.u)], [.sl b_a0 n_a0 a0 61, .no, .no, .sl none ((n_a0 : Int).toNat) (madeCells (zc Try.prog 59) ((n_a0 : Int).toNat * 2)) 59, .no], []⟩ : St) ((laws_toFindS_e0 n_a0) t) = mapS (laws_toFindS_e0 n_a0) (laws_toFindS_x0 n_a0) (laws_toFindS_g0 Try.prog b_a0 n_a0 a0 t) := by
  rintro ⟨y0_4, r0_3⟩
  have h : stepV Try.prog (mkΓ [(23, con laws_toFind_con)]) N (cAt (codeOf Try.f11) [1, 1, 0, 1, 0, 0]) (pAt (mkPlan (codeOf Try.f11) [([4], [3])]).1 [1, 1, 0, 1, 0]) [4] [3] (⟨[.a (.l 0), .a (.u), .a (.v (.slice none 0 0)), .a (.l 3), .a (.i .i64 (0 : Int)), .a (.l 0), .a (.i .i64 (n_a0 : Int)), .a (.l 3), .a (.u), .a (.u), .a (.u), .a (.u), .a (.u), .a (.u), .a (.u), .a (.u), .a (.u), .a (.u), .a (.u), .a (.u), .a (.u), .a (.u), .a (.u)], [.sl b_a0 n_a0 a0 61, .no, .no, .sl none ((n_a0 : Int).toNat) (madeCells (zc Try.prog 59) ((n_a0 : Int).toNat * 2)) 59, .no], []⟩ : St) ([.a (.i .i64 (y0_4))], [.sl none ((n_a0 : Int).toNat) r0_3 59]) = (bif decide (y0_4 < (n_a0 : Int)) then (bif (decide (0 ≤ y0_4) && decide (y0_4 < (n_a0 : Int))) then (bif (decide (0 ≤ y0_4) && decide (y0_4 < (((n_a0 : Int).toNat) : Int))) then (some (.more ([.a (.i .i64 (IntKind.i64.wrap (y0_4 + (1 : Int))))], [.sl none ((n_a0 : Int).toNat) (spl r0_3 ((y0_4).toNat * 2) (a0.extract ((y0_4).toNat * 2) (((y0_4).toNat * 2) + 2)).toList) 59])))
        else (none))
      else (none))
    else (some (.done ((.exit 0), ([.a (.i .i64 (y0_4))], [.sl none ((n_a0 : Int).toNat) r0_3 59]))))) := by kernel_rfl
  refine h.trans ?_
  simp only [laws_toFindS_g0, mapS_cond, mapS_more, mapS_done, mapS_none, laws_toFindS_e0, laws_toFindS_x0]

noncomputable def laws_toFindS_k0_0 (P : Program) (N : Nat) (b_a0 : Option (Option Addr)) (n_a0 : Nat) (a0 : Array Value) (z0_4 : Int) (q0_3 : Array Value) : Option (SV × Eff × Bool) := some (.a .x, .newS ((n_a0 : Int).toNat) q0_3 59, true)

theorem laws_toFindS_k0_0_eq (N : Nat) (b_a0 : Option (Option Addr)) (n_a0 : Nat) (a0 : Array Value) (z0_4 : Int) (q0_3 : Array Value) : (kBlock 0 (kSeq (veC Try.prog (mkΓ [(23, con laws_toFind_con)]) N (cAt (codeOf Try.f11) [1, 1, 1]) (pAt (mkPlan (codeOf Try.f11) [([4], [3])]).1 [1, 1, 1]) (SV × Eff × Bool)) (finK Try.prog [.sl b_a0 n_a0 a0 61] [.tmp 2]))) (.exit 0) (left (writes (cAt (codeOf Try.f11) [1, 1, 0, 1, 0, 0])) [4] [3] (⟨[.a (.l 0), .a (.u), .a (.v (.slice none 0 0)), .a (.l 3), .a (.i .i64 (0 : Int)), .a (.l 0), .a (.i .i64 (n_a0 : Int)), .a (.l 3), .a (.u), .a (.u), .a (.u), .a (.u), .a (.u), .a (.u), .a (.u), .a (.u), .a (.u), .a (.u), .a (.u), .a (.u), .a (.u), .a (.u), .a (.u)], [.sl b_a0 n_a0 a0 61, .no, .no, .sl none ((n_a0 : Int).toNat) (madeCells (zc Try.prog 59) ((n_a0 : Int).toNat * 2)) 59, .no], []⟩ : St) ([.a (.i .i64 (z0_4))], [.sl none ((n_a0 : Int).toNat) q0_3 59])) = laws_toFindS_k0_0 Try.prog N b_a0 n_a0 a0 z0_4 q0_3 := by
  have h : (kBlock 0 (kSeq (veC Try.prog (mkΓ [(23, con laws_toFind_con)]) N (cAt (codeOf Try.f11) [1, 1, 1]) (pAt (mkPlan (codeOf Try.f11) [([4], [3])]).1 [1, 1, 1]) (SV × Eff × Bool)) (finK Try.prog [.sl b_a0 n_a0 a0 61] [.tmp 2]))) (.exit 0) (left (writes (cAt (codeOf Try.f11) [1, 1, 0, 1, 0, 0])) [4] [3] (⟨[.a (.l 0), .a (.u), .a (.v (.slice none 0 0)), .a (.l 3), .a (.i .i64 (0 : Int)), .a (.l 0), .a (.i .i64 (n_a0 : Int)), .a (.l 3), .a (.u), .a (.u), .a (.u), .a (.u), .a (.u), .a (.u), .a (.u), .a (.u), .a (.u), .a (.u), .a (.u), .a (.u), .a (.u), .a (.u), .a (.u)], [.sl b_a0 n_a0 a0 61, .no, .no, .sl none ((n_a0 : Int).toNat) (madeCells (zc Try.prog 59) ((n_a0 : Int).toNat * 2)) 59, .no], []⟩ : St) ([.a (.i .i64 (z0_4))], [.sl none ((n_a0 : Int).toNat) q0_3 59])) = (some (.a .x, .newS ((n_a0 : Int).toNat) q0_3 59, true)) := by kernel_rfl
  refine h.trans ?_
  rfl

theorem laws_toFindS_n0 (N : Nat) (b_a0 : Option (Option Addr)) (n_a0 : Nat) (a0 : Array Value) : bindX (iterO (stepV Try.prog (mkΓ [(23, con laws_toFind_con)]) N (cAt (codeOf Try.f11) [1, 1, 0, 1, 0, 0]) (pAt (mkPlan (codeOf Try.f11) [([4], [3])]).1 [1, 1, 0, 1, 0]) [4] [3] (⟨[.a (.l 0), .a (.u), .a (.v (.slice none 0 0)), .a (.l 3), .a (.i .i64 (0 : Int)), .a (.l 0), .a (.i .i64 (n_a0 : Int)), .a (.l 3), .a (.u), .a (.u), .a (.u), .a (.u), .a (.u), .a (.u), .a (.u), .a (.u), .a (.u), .a (.u), .a (.u), .a (.u), .a (.u), .a (.u), .a (.u)], [.sl b_a0 n_a0 a0 61, .no, .no, .sl none ((n_a0 : Int).toNat) (madeCells (zc Try.prog 59) ((n_a0 : Int).toNat * 2)) 59, .no], []⟩ : St)) N ([.a (.i .i64 (0 : Int))], [.sl none ((n_a0 : Int).toNat) (madeCells (zc Try.prog 59) ((n_a0 : Int).toNat * 2)) 59])) (fun e s => (kBlock 0 (kSeq (veC Try.prog (mkΓ [(23, con laws_toFind_con)]) N (cAt (codeOf Try.f11) [1, 1, 1]) (pAt (mkPlan (codeOf Try.f11) [([4], [3])]).1 [1, 1, 1]) (SV × Eff × Bool)) (finK Try.prog [.sl b_a0 n_a0 a0 61] [.tmp 2]))) e (left (writes (cAt (codeOf Try.f11) [1, 1, 0, 1, 0, 0])) [4] [3] (⟨[.a (.l 0), .a (.u), .a (.v (.slice none 0 0)), .a (.l 3), .a (.i .i64 (0 : Int)), .a (.l 0), .a (.i .i64 (n_a0 : Int)), .a (.l 3), .a (.u), .a (.u), .a (.u), .a (.u), .a (.u), .a (.u), .a (.u), .a (.u), .a (.u), .a (.u), .a (.u), .a (.u), .a (.u), .a (.u), .a (.u)], [.sl b_a0 n_a0 a0 61, .no, .no, .sl none ((n_a0 : Int).toNat) (madeCells (zc Try.prog 59) ((n_a0 : Int).toNat * 2)) 59, .no], []⟩ : St) s)) = nodeX (iterO (laws_toFindS_g0 Try.prog b_a0 n_a0 a0) N ((0 : Int), (madeCells (zc Try.prog 59) ((n_a0 : Int).toNat * 2)))) (fun x => laws_toFindS_k0_0 Try.prog N b_a0 n_a0 a0 x.1 x.2) := by
  refine loop_node (laws_toFindS_e0 n_a0) (laws_toFindS_x0 n_a0) _ _ (laws_toFindS_s0 N b_a0 n_a0 a0) N ((0 : Int), (madeCells (zc Try.prog 59) ((n_a0 : Int).toNat * 2))) _ _ ?_
  intro x; exact laws_toFindS_k0_0_eq N b_a0 n_a0 a0 x.1 x.2

theorem laws_toFindS_ans (N : Nat) (b_a0 : Option (Option Addr)) (n_a0 : Nat) (a0 : Array Value) : ansV Try.prog (mkΓ [(23, con laws_toFind_con)]) N Try.f11 [([4], [3])] [.l 0] [.sl b_a0 n_a0 a0 61] = (bif (decide (0 ≤ (n_a0 : Int)) && ((n_a0 : Int) == (n_a0 : Int) && decide ((bytesOf Try.prog 59 : Int) * (n_a0 : Int) ≤ 281474976710656))) then (nodeX (iterO (laws_toFindS_g0 Try.prog b_a0 n_a0 a0) N ((0 : Int), (madeCells (zc Try.prog 59) ((n_a0 : Int).toNat * 2)))) (fun x => laws_toFindS_k0_0 Try.prog N b_a0 n_a0 a0 x.1 x.2))
    else (none)) := by
  have h : ansV Try.prog (mkΓ [(23, con laws_toFind_con)]) N Try.f11 [([4], [3])] [.l 0] [.sl b_a0 n_a0 a0 61] = (bif (decide (0 ≤ (n_a0 : Int)) && ((n_a0 : Int) == (n_a0 : Int) && decide ((bytesOf Try.prog 59 : Int) * (n_a0 : Int) ≤ 281474976710656))) then (bindX (iterO (stepV Try.prog (mkΓ [(23, con laws_toFind_con)]) N (cAt (codeOf Try.f11) [1, 1, 0, 1, 0, 0]) (pAt (mkPlan (codeOf Try.f11) [([4], [3])]).1 [1, 1, 0, 1, 0]) [4] [3] (⟨[.a (.l 0), .a (.u), .a (.v (.slice none 0 0)), .a (.l 3), .a (.i .i64 (0 : Int)), .a (.l 0), .a (.i .i64 (n_a0 : Int)), .a (.l 3), .a (.u), .a (.u), .a (.u), .a (.u), .a (.u), .a (.u), .a (.u), .a (.u), .a (.u), .a (.u), .a (.u), .a (.u), .a (.u), .a (.u), .a (.u)], [.sl b_a0 n_a0 a0 61, .no, .no, .sl none ((n_a0 : Int).toNat) (madeCells (zc Try.prog 59) ((n_a0 : Int).toNat * 2)) 59, .no], []⟩ : St)) N ([.a (.i .i64 (0 : Int))], [.sl none ((n_a0 : Int).toNat) (madeCells (zc Try.prog 59) ((n_a0 : Int).toNat * 2)) 59])) (fun e s => (kBlock 0 (kSeq (veC Try.prog (mkΓ [(23, con laws_toFind_con)]) N (cAt (codeOf Try.f11) [1, 1, 1]) (pAt (mkPlan (codeOf Try.f11) [([4], [3])]).1 [1, 1, 1]) (SV × Eff × Bool)) (finK Try.prog [.sl b_a0 n_a0 a0 61] [.tmp 2]))) e (left (writes (cAt (codeOf Try.f11) [1, 1, 0, 1, 0, 0])) [4] [3] (⟨[.a (.l 0), .a (.u), .a (.v (.slice none 0 0)), .a (.l 3), .a (.i .i64 (0 : Int)), .a (.l 0), .a (.i .i64 (n_a0 : Int)), .a (.l 3), .a (.u), .a (.u), .a (.u), .a (.u), .a (.u), .a (.u), .a (.u), .a (.u), .a (.u), .a (.u), .a (.u), .a (.u), .a (.u), .a (.u), .a (.u)], [.sl b_a0 n_a0 a0 61, .no, .no, .sl none ((n_a0 : Int).toNat) (madeCells (zc Try.prog 59) ((n_a0 : Int).toNat * 2)) 59, .no], []⟩ : St) s)))
    else (none)) := by kernel_rfl
  refine h.trans ?_
  simp only [laws_toFindS_n0]

theorem laws_toFindS_main (b_a0 : Option (Option Addr)) (n_a0 : Nat) (a0 : Array Value) (h_a0 : a0.size = n_a0 * (lay Try.prog 61).length ∧ (∀ k, k < n_a0 → WT Try.prog 61 (a0.extract (k * (lay Try.prog 61).length) (k * (lay Try.prog 61).length + (lay Try.prog 61).length))) ∧ n_a0 ≤ 9223372036854775807) (hg : (decide (n_a0 ≤ 1048576)) = true) : ansV Try.prog (mkΓ [(23, con laws_toFind_con)]) 18446744073709551616 Try.f11 [([4], [3])] [.l 0] [.sl b_a0 n_a0 a0 61] = some (.a .x, .newS n_a0 a0 59, true) := by
  have hn : n_a0 ≤ 1048576 := of_decide_eq_true hg
  have hm : (lay Try.prog 61).length = 2 := by kernel_rfl
  have hb : bytesOf Try.prog 59 = 2 := by kernel_rfl
  obtain ⟨s1, s2, s3⟩ := h_a0
  rw [hm] at s1 s2
  have hq : (lay Try.prog 61)[0]? = some 0 := by kernel_rfl
  refine (laws_toFindS_ans 18446744073709551616 b_a0 n_a0 a0).trans ?_
  have hgd : (decide (0 ≤ (n_a0 : Int)) && ((n_a0 : Int) == (n_a0 : Int) && decide ((bytesOf Try.prog 59 : Int) * (n_a0 : Int) ≤ 281474976710656))) = true := by
    rw [hb, decide_eq_true (show (0 : Int) ≤ n_a0 by omega), beq_self_eq_true, decide_eq_true (show (((2 : Nat) : Int)) * (n_a0 : Int) ≤ 281474976710656 by omega)]; rfl
  rw [hgd, cond_true]
  have hs : a0.size = (madeCells (zc Try.prog 59) ((n_a0 : Int).toNat * 2)).size := by rw [size_madeCells, Int.toNat_natCast]; exact s1
  generalize (madeCells (zc Try.prog 59) ((n_a0 : Int).toNat * 2)) = Z at hs ⊢
  have h := iter_all (g := laws_toFindS_g0 Try.prog b_a0 n_a0 a0) (fun k => ((k : Int), upto a0 Z (k * 2))) (m := n_a0) (x := ((n_a0 : Int), upto a0 Z (n_a0 * 2))) (N := 18446744073709551616) (fun k hk => by
    have h1 : decide ((k : Int) < (n_a0 : Int)) = true := decide_eq_true (by omega)
    have h0 : decide (0 ≤ (k : Int)) = true := decide_eq_true (by omega)
    have h3 : IntKind.i64.wrap ((k : Int) + 1) = ((k + 1 : Nat) : Int) := by rw [IntWalk.i64_in _ (by omega)]; omega
    have h5 : spl (upto a0 Z (k * 2)) (k * 2) (a0.extract (k * 2) (k * 2 + 2)).toList = upto a0 Z ((k + 1) * 2) := by
      rw [Nat.add_mul]; exact upto_spl hs (by have : (k + 1) * 2 ≤ n_a0 * 2 := Nat.mul_le_mul_right _ hk; omega) rfl
    simp only [laws_toFindS_g0, h1, h0, Bool.and_self, Int.toNat_natCast, cond_true, h3, h5]) (by
    have h1 : decide ((n_a0 : Int) < (n_a0 : Int)) = false := decide_eq_false (by omega)
    simp only [laws_toFindS_g0, h1, cond_false]) (by omega)
  rw [upto_all hs s1] at h
  simp only [Nat.zero_mul, upto_zero hs] at h
  have h' : iterO (laws_toFindS_g0 Try.prog b_a0 n_a0 a0) 18446744073709551616 ((0 : Int), Z) = some ((n_a0 : Int), a0) := h
  rw [h']
  show some (_, Eff.newS ((n_a0 : Int).toNat) a0 59, true) = _
  rw [Int.toNat_natCast]
noncomputable def laws_toFindS_con : Con := fun args h => match args, h with
  | [.l 0], [.sl b_a0 n_a0 a0 61] => some (.a .x, .newS n_a0 a0 59, decide (n_a0 ≤ 1048576))
  | _, _ => none
theorem laws_toFindS_enter : ∀ args w, (callFunc 11 args).run Try.prog w = .ok (.enter 11 args) w := enter_ok (fn := Try.f11) (by kernel_rfl) (by kernel_rfl) (by kernel_rfl)
theorem laws_toFindS_ok : ConOk Try.prog 11 laws_toFindS_con := (ans_ok (N := 18446744073709551616) (by kernel_rfl) (mkΓ_cons (con_ok laws_toFind_ok) laws_toFind_enter mkΓ_nil) (fn := Try.f11) (by kernel_rfl) (by kernel_rfl) [([4], [3])]).of (by
  intro ρ h w args vals r e hA hH hr
  unfold laws_toFindS_con at hr
  split at hr
  · rename_i b_a0 n_a0 a0
    obtain ⟨rfl, hg⟩ := Prod.mk.inj (Option.some.inj hr)
    obtain ⟨rfl, hg2⟩ := Prod.mk.inj hg
    exact laws_toFindS_main b_a0 n_a0 a0 (hH.slw 0 rfl) hg2
  · cases hr)

theorem laws_eqFind_ans (N : Nat) (a0 : Array Value) (a1 : Array Value) : ansV Try.prog (mkΓ []) N Try.f25 [] [.g a0 59, .g a1 59] [] = (bif ((num a0 0) != (num a1 0)) then (some (.a (.b (false)), .none, true))
    else (bif ((num a0 1) != (num a1 1)) then (some (.a (.b (false)), .none, true))
      else (some (.a (.b (true)), .none, true)))) := by kernel_rfl

theorem laws_eqFind_main (a0 : Array Value) (a1 : Array Value) (h_a0 : WT Try.prog 59 a0) (h_a1 : WT Try.prog 59 a1) (hg : (true) = true) : ansV Try.prog (mkΓ []) 1000 Try.f25 [] [.g a0 59, .g a1 59] [] = some (.a (.b (sameB a0 a1)), .none, true) := by
  have hz : a0.size = 2 := by rw [h_a0.layLen]; kernel_rfl
  have hy : a1.size = 2 := by rw [h_a1.layLen]; kernel_rfl
  refine (laws_eqFind_ans 1000 a0 a1).trans ?_
  cases hb : sameB a0 a1
  · have hne := sameB_false.1 hb
    cases h0 : (num a0 0 != num a1 0)
    · skip
      cases h1 : (num a0 1 != num a1 1)
      · skip
        exfalso
        refine hne (arr_ext fun i => ?_)
        by_cases c0 : i = 0
        · subst c0
          rw [(h_a0.int (k := .i8) (o := 0) (by kernel_rfl)).1, (h_a1.int (k := .i8) (o := 0) (by kernel_rfl)).1, num_eq h0]
        by_cases c1 : i = 1
        · subst c1
          rw [(h_a0.int (k := .i8) (o := 1) (by kernel_rfl)).1, (h_a1.int (k := .i8) (o := 1) (by kernel_rfl)).1, num_eq h1]
        rw [Array.getElem?_eq_none (by omega), Array.getElem?_eq_none (by omega)]
      · rfl
    · rfl
  · rw [sameB_iff.1 hb]
    simp only [bne_self_eq_false, cond_false, sameB_self, Bool.not_true]
noncomputable def laws_eqFind_con : Con := fun args h => match args, h with
  | [.g a0 59, .g a1 59], [] => some (.a (.b (sameB a0 a1)), .none, true)
  | _, _ => none
theorem laws_eqFind_enter : ∀ args w, (callFunc 25 args).run Try.prog w = .ok (.enter 25 args) w := enter_ok (fn := Try.f25) (by kernel_rfl) (by kernel_rfl) (by kernel_rfl)
theorem laws_eqFind_ok : ConOk Try.prog 25 laws_eqFind_con := (ans_ok (N := 1000) (by kernel_rfl) mkΓ_nil (fn := Try.f25) (by kernel_rfl) (by kernel_rfl) []).of (by
  intro ρ h w args vals r e hA hH hr
  unfold laws_eqFind_con at hr
  split at hr
  · rename_i a0 a1
    obtain ⟨rfl, hg⟩ := Prod.mk.inj (Option.some.inj hr)
    obtain ⟨rfl, hg2⟩ := Prod.mk.inj hg
    exact laws_eqFind_main a0 a1 (hA.wt 0 rfl) (hA.wt 1 rfl) hg2
  · cases hr)

noncomputable def laws_eqFindS_e0 : Bool × Int → LS
  | (y0_4, y0_5) => ([.a (.b (y0_4)), .a (.i .i64 (y0_5))], [])

noncomputable def laws_eqFindS_x0 : (Stp (Bool × Int) (Bool × Int)) → Exit × LS
  | .more t => (.ret, laws_eqFindS_e0 t)
  | .done t => ((.exit 0), laws_eqFindS_e0 t)

noncomputable def laws_eqFindS_g0 (P : Program) (b_a0 : Option (Option Addr)) (n_a0 : Nat) (a0 : Array Value) (b_a1 : Option (Option Addr)) (n_a1 : Nat) (a1 : Array Value) : Bool × Int → Option (Stp (Bool × Int) (Stp (Bool × Int) (Bool × Int)))
  | (y0_4, y0_5) => bif decide (y0_5 < (n_a0 : Int)) then (bif (decide (0 ≤ y0_5) && decide (y0_5 < (n_a0 : Int))) then (bif (decide (0 ≤ y0_5) && decide (y0_5 < (n_a1 : Int))) then (bif (!(sameB (a0.extract ((y0_5).toNat * 2) (((y0_5).toNat * 2) + 2)) (a1.extract ((y0_5).toNat * 2) (((y0_5).toNat * 2) + 2)))) then (some (.done (.more (false, y0_5))))
          else (some (.more (y0_4, (IntKind.i64.wrap (y0_5 + (1 : Int)))))))
        else (none))
      else (none))
    else (some (.done (.done (y0_4, y0_5))))

theorem laws_eqFindS_s0 (N : Nat) (b_a0 : Option (Option Addr)) (n_a0 : Nat) (a0 : Array Value) (b_a1 : Option (Option Addr)) (n_a1 : Nat) (a1 : Array Value) : ∀ t : Bool × Int, stepV Try.prog (mkΓ [(25, con laws_eqFind_con)]) N (cAt (codeOf Try.f13) [1, 1, 0, 1, 0, 0]) (pAt (mkPlan (codeOf Try.f13) [([4, 5], [])]).1 [1, 1, 0, 1, 0]) [4, 5] [] (⟨[.a (.l 0), .a (.l 1), .a (.u), .a (.u), .a (.b (false)), .a (.i .i64 (0 : Int)), .a (.l 0), .a (.i .i64 (n_a0 : Int)), .a (.l 1), .a (.i .i64 (n_a1 : Int)), .a (.b (((n_a0 : Int) != (n_a1 : Int)))), .a (.u), .a (.u), .a (.u), .a (.u), .a (.u), .a (.u), .a (.u), .a (.u), .a (.u), .a (.u), .a (.u), .a (.u), .a (.u), .a (.u), .a (.u), .a (.u)], [.sl b_a0 n_a0 a0 59, .sl b_a1 n_a1 a1 59], []⟩ : St) (laws_eqFindS_e0 t) = mapS laws_eqFindS_e0 laws_eqFindS_x0 (laws_eqFindS_g0 Try.prog b_a0 n_a0 a0 b_a1 n_a1 a1 t) := by
  rintro ⟨y0_4, y0_5⟩
  have h : stepV Try.prog (mkΓ [(25, con laws_eqFind_con)]) N (cAt (codeOf Try.f13) [1, 1, 0, 1, 0, 0]) (pAt (mkPlan (codeOf Try.f13) [([4, 5], [])]).1 [1, 1, 0, 1, 0]) [4, 5] [] (⟨[.a (.l 0), .a (.l 1), .a (.u), .a (.u), .a (.b (false)), .a (.i .i64 (0 : Int)), .a (.l 0), .a (.i .i64 (n_a0 : Int)), .a (.l 1), .a (.i .i64 (n_a1 : Int)), .a (.b (((n_a0 : Int) != (n_a1 : Int)))), .a (.u), .a (.u), .a (.u), .a (.u), .a (.u), .a (.u), .a (.u), .a (.u), .a (.u), .a (.u), .a (.u), .a (.u), .a (.u), .a (.u), .a (.u), .a (.u)], [.sl b_a0 n_a0 a0 59, .sl b_a1 n_a1 a1 59], []⟩ : St) ([.a (.b (y0_4)), .a (.i .i64 (y0_5))], []) = (bif decide (y0_5 < (n_a0 : Int)) then (bif (decide (0 ≤ y0_5) && decide (y0_5 < (n_a0 : Int))) then (bif (decide (0 ≤ y0_5) && decide (y0_5 < (n_a1 : Int))) then (bif (!(sameB (a0.extract ((y0_5).toNat * 2) (((y0_5).toNat * 2) + 2)) (a1.extract ((y0_5).toNat * 2) (((y0_5).toNat * 2) + 2)))) then (some (.done (.ret, ([.a (.b (false)), .a (.i .i64 (y0_5))], []))))
          else (some (.more ([.a (.b (y0_4)), .a (.i .i64 (IntKind.i64.wrap (y0_5 + (1 : Int))))], []))))
        else (none))
      else (none))
    else (some (.done ((.exit 0), ([.a (.b (y0_4)), .a (.i .i64 (y0_5))], []))))) := by kernel_rfl
  refine h.trans ?_
  simp only [laws_eqFindS_g0, mapS_cond, mapS_more, mapS_done, mapS_none, laws_eqFindS_e0, laws_eqFindS_x0]

noncomputable def laws_eqFindS_k0_0 (P : Program) (N : Nat) (b_a0 : Option (Option Addr)) (n_a0 : Nat) (a0 : Array Value) (b_a1 : Option (Option Addr)) (n_a1 : Nat) (a1 : Array Value) (z0_4 : Bool) (z0_5 : Int) : Option (SV × Eff × Bool) := some (.a (.b (z0_4)), .none, true)

theorem laws_eqFindS_k0_0_eq (N : Nat) (b_a0 : Option (Option Addr)) (n_a0 : Nat) (a0 : Array Value) (b_a1 : Option (Option Addr)) (n_a1 : Nat) (a1 : Array Value) (z0_4 : Bool) (z0_5 : Int) : (kBlock 0 (kSeq (veC Try.prog (mkΓ [(25, con laws_eqFind_con)]) N (cAt (codeOf Try.f13) [1, 1, 1]) (pAt (mkPlan (codeOf Try.f13) [([4, 5], [])]).1 [1, 1, 1]) (SV × Eff × Bool)) (finK Try.prog [.sl b_a0 n_a0 a0 59, .sl b_a1 n_a1 a1 59] [.tmp 4]))) .ret (left (writes (cAt (codeOf Try.f13) [1, 1, 0, 1, 0, 0])) [4, 5] [] (⟨[.a (.l 0), .a (.l 1), .a (.u), .a (.u), .a (.b (false)), .a (.i .i64 (0 : Int)), .a (.l 0), .a (.i .i64 (n_a0 : Int)), .a (.l 1), .a (.i .i64 (n_a1 : Int)), .a (.b (((n_a0 : Int) != (n_a1 : Int)))), .a (.u), .a (.u), .a (.u), .a (.u), .a (.u), .a (.u), .a (.u), .a (.u), .a (.u), .a (.u), .a (.u), .a (.u), .a (.u), .a (.u), .a (.u), .a (.u)], [.sl b_a0 n_a0 a0 59, .sl b_a1 n_a1 a1 59], []⟩ : St) ([.a (.b (z0_4)), .a (.i .i64 (z0_5))], [])) = laws_eqFindS_k0_0 Try.prog N b_a0 n_a0 a0 b_a1 n_a1 a1 z0_4 z0_5 := by
  have h : (kBlock 0 (kSeq (veC Try.prog (mkΓ [(25, con laws_eqFind_con)]) N (cAt (codeOf Try.f13) [1, 1, 1]) (pAt (mkPlan (codeOf Try.f13) [([4, 5], [])]).1 [1, 1, 1]) (SV × Eff × Bool)) (finK Try.prog [.sl b_a0 n_a0 a0 59, .sl b_a1 n_a1 a1 59] [.tmp 4]))) .ret (left (writes (cAt (codeOf Try.f13) [1, 1, 0, 1, 0, 0])) [4, 5] [] (⟨[.a (.l 0), .a (.l 1), .a (.u), .a (.u), .a (.b (false)), .a (.i .i64 (0 : Int)), .a (.l 0), .a (.i .i64 (n_a0 : Int)), .a (.l 1), .a (.i .i64 (n_a1 : Int)), .a (.b (((n_a0 : Int) != (n_a1 : Int)))), .a (.u), .a (.u), .a (.u), .a (.u), .a (.u), .a (.u), .a (.u), .a (.u), .a (.u), .a (.u), .a (.u), .a (.u), .a (.u), .a (.u), .a (.u), .a (.u)], [.sl b_a0 n_a0 a0 59, .sl b_a1 n_a1 a1 59], []⟩ : St) ([.a (.b (z0_4)), .a (.i .i64 (z0_5))], [])) = (some (.a (.b (z0_4)), .none, true)) := by kernel_rfl
  refine h.trans ?_
  rfl

noncomputable def laws_eqFindS_k0_1 (P : Program) (N : Nat) (b_a0 : Option (Option Addr)) (n_a0 : Nat) (a0 : Array Value) (b_a1 : Option (Option Addr)) (n_a1 : Nat) (a1 : Array Value) (z0_4 : Bool) (z0_5 : Int) : Option (SV × Eff × Bool) := some (.a (.b (true)), .none, true)

theorem laws_eqFindS_k0_1_eq (N : Nat) (b_a0 : Option (Option Addr)) (n_a0 : Nat) (a0 : Array Value) (b_a1 : Option (Option Addr)) (n_a1 : Nat) (a1 : Array Value) (z0_4 : Bool) (z0_5 : Int) : (kBlock 0 (kSeq (veC Try.prog (mkΓ [(25, con laws_eqFind_con)]) N (cAt (codeOf Try.f13) [1, 1, 1]) (pAt (mkPlan (codeOf Try.f13) [([4, 5], [])]).1 [1, 1, 1]) (SV × Eff × Bool)) (finK Try.prog [.sl b_a0 n_a0 a0 59, .sl b_a1 n_a1 a1 59] [.tmp 4]))) (.exit 0) (left (writes (cAt (codeOf Try.f13) [1, 1, 0, 1, 0, 0])) [4, 5] [] (⟨[.a (.l 0), .a (.l 1), .a (.u), .a (.u), .a (.b (false)), .a (.i .i64 (0 : Int)), .a (.l 0), .a (.i .i64 (n_a0 : Int)), .a (.l 1), .a (.i .i64 (n_a1 : Int)), .a (.b (((n_a0 : Int) != (n_a1 : Int)))), .a (.u), .a (.u), .a (.u), .a (.u), .a (.u), .a (.u), .a (.u), .a (.u), .a (.u), .a (.u), .a (.u), .a (.u), .a (.u), .a (.u), .a (.u), .a (.u)], [.sl b_a0 n_a0 a0 59, .sl b_a1 n_a1 a1 59], []⟩ : St) ([.a (.b (z0_4)), .a (.i .i64 (z0_5))], [])) = laws_eqFindS_k0_1 Try.prog N b_a0 n_a0 a0 b_a1 n_a1 a1 z0_4 z0_5 := by
  have h : (kBlock 0 (kSeq (veC Try.prog (mkΓ [(25, con laws_eqFind_con)]) N (cAt (codeOf Try.f13) [1, 1, 1]) (pAt (mkPlan (codeOf Try.f13) [([4, 5], [])]).1 [1, 1, 1]) (SV × Eff × Bool)) (finK Try.prog [.sl b_a0 n_a0 a0 59, .sl b_a1 n_a1 a1 59] [.tmp 4]))) (.exit 0) (left (writes (cAt (codeOf Try.f13) [1, 1, 0, 1, 0, 0])) [4, 5] [] (⟨[.a (.l 0), .a (.l 1), .a (.u), .a (.u), .a (.b (false)), .a (.i .i64 (0 : Int)), .a (.l 0), .a (.i .i64 (n_a0 : Int)), .a (.l 1), .a (.i .i64 (n_a1 : Int)), .a (.b (((n_a0 : Int) != (n_a1 : Int)))), .a (.u), .a (.u), .a (.u), .a (.u), .a (.u), .a (.u), .a (.u), .a (.u), .a (.u), .a (.u), .a (.u), .a (.u), .a (.u), .a (.u), .a (.u), .a (.u)], [.sl b_a0 n_a0 a0 59, .sl b_a1 n_a1 a1 59], []⟩ : St) ([.a (.b (z0_4)), .a (.i .i64 (z0_5))], [])) = (some (.a (.b (true)), .none, true)) := by kernel_rfl
  refine h.trans ?_
  rfl

theorem laws_eqFindS_n0 (N : Nat) (b_a0 : Option (Option Addr)) (n_a0 : Nat) (a0 : Array Value) (b_a1 : Option (Option Addr)) (n_a1 : Nat) (a1 : Array Value) : bindX (iterO (stepV Try.prog (mkΓ [(25, con laws_eqFind_con)]) N (cAt (codeOf Try.f13) [1, 1, 0, 1, 0, 0]) (pAt (mkPlan (codeOf Try.f13) [([4, 5], [])]).1 [1, 1, 0, 1, 0]) [4, 5] [] (⟨[.a (.l 0), .a (.l 1), .a (.u), .a (.u), .a (.b (false)), .a (.i .i64 (0 : Int)), .a (.l 0), .a (.i .i64 (n_a0 : Int)), .a (.l 1), .a (.i .i64 (n_a1 : Int)), .a (.b (((n_a0 : Int) != (n_a1 : Int)))), .a (.u), .a (.u), .a (.u), .a (.u), .a (.u), .a (.u), .a (.u), .a (.u), .a (.u), .a (.u), .a (.u), .a (.u), .a (.u), .a (.u), .a (.u), .a (.u)], [.sl b_a0 n_a0 a0 59, .sl b_a1 n_a1 a1 59], []⟩ : St)) N ([.a (.b (false)), .a (.i .i64 (0 : Int))], [])) (fun e s => (kBlock 0 (kSeq (veC Try.prog (mkΓ [(25, con laws_eqFind_con)]) N (cAt (codeOf Try.f13) [1, 1, 1]) (pAt (mkPlan (codeOf Try.f13) [([4, 5], [])]).1 [1, 1, 1]) (SV × Eff × Bool)) (finK Try.prog [.sl b_a0 n_a0 a0 59, .sl b_a1 n_a1 a1 59] [.tmp 4]))) e (left (writes (cAt (codeOf Try.f13) [1, 1, 0, 1, 0, 0])) [4, 5] [] (⟨[.a (.l 0), .a (.l 1), .a (.u), .a (.u), .a (.b (false)), .a (.i .i64 (0 : Int)), .a (.l 0), .a (.i .i64 (n_a0 : Int)), .a (.l 1), .a (.i .i64 (n_a1 : Int)), .a (.b (((n_a0 : Int) != (n_a1 : Int)))), .a (.u), .a (.u), .a (.u), .a (.u), .a (.u), .a (.u), .a (.u), .a (.u), .a (.u), .a (.u), .a (.u), .a (.u), .a (.u), .a (.u), .a (.u), .a (.u)], [.sl b_a0 n_a0 a0 59, .sl b_a1 n_a1 a1 59], []⟩ : St) s)) = nodeX (iterO (laws_eqFindS_g0 Try.prog b_a0 n_a0 a0 b_a1 n_a1 a1) N (false, (0 : Int))) (st2 (fun x => laws_eqFindS_k0_0 Try.prog N b_a0 n_a0 a0 b_a1 n_a1 a1 x.1 x.2) (fun x => laws_eqFindS_k0_1 Try.prog N b_a0 n_a0 a0 b_a1 n_a1 a1 x.1 x.2)) := by
  refine loop_node laws_eqFindS_e0 laws_eqFindS_x0 _ _ (laws_eqFindS_s0 N b_a0 n_a0 a0 b_a1 n_a1 a1) N (false, (0 : Int)) _ _ ?_
  intro x
  cases x with
  | more x => exact laws_eqFindS_k0_0_eq N b_a0 n_a0 a0 b_a1 n_a1 a1 x.1 x.2
  | done x => exact laws_eqFindS_k0_1_eq N b_a0 n_a0 a0 b_a1 n_a1 a1 x.1 x.2

theorem laws_eqFindS_ans (N : Nat) (b_a0 : Option (Option Addr)) (n_a0 : Nat) (a0 : Array Value) (b_a1 : Option (Option Addr)) (n_a1 : Nat) (a1 : Array Value) : ansV Try.prog (mkΓ [(25, con laws_eqFind_con)]) N Try.f13 [([4, 5], [])] [.l 0, .l 1] [.sl b_a0 n_a0 a0 59, .sl b_a1 n_a1 a1 59] = (bif ((n_a0 : Int) != (n_a1 : Int)) then (some (.a (.b (false)), .none, true))
    else (nodeX (iterO (laws_eqFindS_g0 Try.prog b_a0 n_a0 a0 b_a1 n_a1 a1) N (false, (0 : Int))) (st2 (fun x => laws_eqFindS_k0_0 Try.prog N b_a0 n_a0 a0 b_a1 n_a1 a1 x.1 x.2) (fun x => laws_eqFindS_k0_1 Try.prog N b_a0 n_a0 a0 b_a1 n_a1 a1 x.1 x.2)))) := by
  have h : ansV Try.prog (mkΓ [(25, con laws_eqFind_con)]) N Try.f13 [([4, 5], [])] [.l 0, .l 1] [.sl b_a0 n_a0 a0 59, .sl b_a1 n_a1 a1 59] = (bif ((n_a0 : Int) != (n_a1 : Int)) then (some (.a (.b (false)), .none, true))
    else (bindX (iterO (stepV Try.prog (mkΓ [(25, con laws_eqFind_con)]) N (cAt (codeOf Try.f13) [1, 1, 0, 1, 0, 0]) (pAt (mkPlan (codeOf Try.f13) [([4, 5], [])]).1 [1, 1, 0, 1, 0]) [4, 5] [] (⟨[.a (.l 0), .a (.l 1), .a (.u), .a (.u), .a (.b (false)), .a (.i .i64 (0 : Int)), .a (.l 0), .a (.i .i64 (n_a0 : Int)), .a (.l 1), .a (.i .i64 (n_a1 : Int)), .a (.b (((n_a0 : Int) != (n_a1 : Int)))), .a (.u), .a (.u), .a (.u), .a (.u), .a (.u), .a (.u), .a (.u), .a (.u), .a (.u), .a (.u), .a (.u), .a (.u), .a (.u), .a (.u), .a (.u), .a (.u)], [.sl b_a0 n_a0 a0 59, .sl b_a1 n_a1 a1 59], []⟩ : St)) N ([.a (.b (false)), .a (.i .i64 (0 : Int))], [])) (fun e s => (kBlock 0 (kSeq (veC Try.prog (mkΓ [(25, con laws_eqFind_con)]) N (cAt (codeOf Try.f13) [1, 1, 1]) (pAt (mkPlan (codeOf Try.f13) [([4, 5], [])]).1 [1, 1, 1]) (SV × Eff × Bool)) (finK Try.prog [.sl b_a0 n_a0 a0 59, .sl b_a1 n_a1 a1 59] [.tmp 4]))) e (left (writes (cAt (codeOf Try.f13) [1, 1, 0, 1, 0, 0])) [4, 5] [] (⟨[.a (.l 0), .a (.l 1), .a (.u), .a (.u), .a (.b (false)), .a (.i .i64 (0 : Int)), .a (.l 0), .a (.i .i64 (n_a0 : Int)), .a (.l 1), .a (.i .i64 (n_a1 : Int)), .a (.b (((n_a0 : Int) != (n_a1 : Int)))), .a (.u), .a (.u), .a (.u), .a (.u), .a (.u), .a (.u), .a (.u), .a (.u), .a (.u), .a (.u), .a (.u), .a (.u), .a (.u), .a (.u), .a (.u), .a (.u)], [.sl b_a0 n_a0 a0 59, .sl b_a1 n_a1 a1 59], []⟩ : St) s)))) := by kernel_rfl
  refine h.trans ?_
  simp only [laws_eqFindS_n0]

theorem laws_eqFindS_main (b_a0 : Option (Option Addr)) (n_a0 : Nat) (a0 : Array Value) (b_a1 : Option (Option Addr)) (n_a1 : Nat) (a1 : Array Value) (h_a0 : a0.size = n_a0 * (lay Try.prog 59).length ∧ (∀ k, k < n_a0 → WT Try.prog 59 (a0.extract (k * (lay Try.prog 59).length) (k * (lay Try.prog 59).length + (lay Try.prog 59).length))) ∧ n_a0 ≤ 9223372036854775807) (h_a1 : a1.size = n_a1 * (lay Try.prog 59).length ∧ (∀ k, k < n_a1 → WT Try.prog 59 (a1.extract (k * (lay Try.prog 59).length) (k * (lay Try.prog 59).length + (lay Try.prog 59).length))) ∧ n_a1 ≤ 9223372036854775807) (hg : (true) = true) : ansV Try.prog (mkΓ [(25, con laws_eqFind_con)]) 18446744073709551616 Try.f13 [([4, 5], [])] [.l 0, .l 1] [.sl b_a0 n_a0 a0 59, .sl b_a1 n_a1 a1 59] = some (.a (.b ((decide (n_a0 = n_a1) && sameB a0 a1))), .none, true) := by
  have hm : (lay Try.prog 59).length = 2 := by kernel_rfl
  obtain ⟨s1, s2, s3⟩ := h_a0
  obtain ⟨t1, t2, t3⟩ := h_a1
  rw [hm] at s1 s2 t1 t2
  have hq : (lay Try.prog 59)[0]? = some 0 := by kernel_rfl
  refine (laws_eqFindS_ans 18446744073709551616 b_a0 n_a0 a0 b_a1 n_a1 a1).trans ?_
  by_cases hl : n_a0 = n_a1
  case neg =>
    rw [decide_eq_false hl, show ((n_a0 : Int) != (n_a1 : Int)) = true from bne_iff_ne.2 (by omega)]
    rfl
  subst hl
  rw [decide_eq_true rfl, show ((n_a0 : Int) != (n_a0 : Int)) = false from bne_self_eq_false _]
  simp only [cond_false, Bool.true_and]
  have hb : sameB a0 a1 = true ↔ ∀ k, k < n_a0 → (fun k => sameB (a0.extract (k * 2) (k * 2 + 2)) (a1.extract (k * 2) (k * 2 + 2))) k = true := by
    constructor
    · intro h k hk
      rw [sameB_iff.1 h]
      exact sameB_self _
    · intro h
      refine sameB_iff.2 ?_
      exact ext_parts (n := n_a0) (m := 2) (by omega) s1 t1 (fun k hk => sameB_iff.1 (h k hk))
  refine (iter_first (g := laws_eqFindS_g0 Try.prog b_a0 n_a0 a0 b_a1 n_a0 a1) (fun k => (false, (k : Int))) (fun k => sameB (a0.extract (k * 2) (k * 2 + 2)) (a1.extract (k * 2) (k * 2 + 2))) n_a0 (N := 18446744073709551616) (xd := .done (false, (n_a0 : Int))) (by omega) (fun k hk hp => by
    have h1 : decide ((k : Int) < (n_a0 : Int)) = true := decide_eq_true (by omega)
    have h0 : decide (0 ≤ (k : Int)) = true := decide_eq_true (by omega)
    have h3 : IntKind.i64.wrap ((k : Int) + 1) = ((k + 1 : Nat) : Int) := by rw [IntWalk.i64_in _ (by omega)]; omega
    have hp' : sameB (a0.extract (k * 2) (k * 2 + 2)) (a1.extract (k * 2) (k * 2 + 2)) = true := hp
    simp only [laws_eqFindS_g0, h1, h0, Bool.and_self, Int.toNat_natCast, cond_true, h3, hp', Bool.not_true, cond_false]) (by
    have h1 : decide ((n_a0 : Int) < (n_a0 : Int)) = false := decide_eq_false (by omega)
    simp only [laws_eqFindS_g0, h1, cond_false]) (sameB a0 a1) hb (some (.a (.b true), .none, true)) (some (.a (.b false), .none, true)) rfl (fun k hk hp => by
    refine ⟨.more (false, (k : Int)), ?_, rfl⟩
    have h1 : decide ((k : Int) < (n_a0 : Int)) = true := decide_eq_true (by omega)
    have h0 : decide (0 ≤ (k : Int)) = true := decide_eq_true (by omega)
    have hp' : sameB (a0.extract (k * 2) (k * 2 + 2)) (a1.extract (k * 2) (k * 2 + 2)) = false := hp
    simp only [laws_eqFindS_g0, h1, h0, Bool.and_self, Int.toNat_natCast, cond_true, hp', Bool.not_false])).trans ?_
  cases sameB a0 a1 <;> rfl
noncomputable def laws_eqFindS_con : Con := fun args h => match args, h with
  | [.l 0, .l 1], [.sl b_a0 n_a0 a0 59, .sl b_a1 n_a1 a1 59] => some (.a (.b ((decide (n_a0 = n_a1) && sameB a0 a1))), .none, true)
  | _, _ => none
theorem laws_eqFindS_enter : ∀ args w, (callFunc 13 args).run Try.prog w = .ok (.enter 13 args) w := enter_ok (fn := Try.f13) (by kernel_rfl) (by kernel_rfl) (by kernel_rfl)
theorem laws_eqFindS_ok : ConOk Try.prog 13 laws_eqFindS_con := (ans_ok (N := 18446744073709551616) (by kernel_rfl) (mkΓ_cons (con_ok laws_eqFind_ok) laws_eqFind_enter mkΓ_nil) (fn := Try.f13) (by kernel_rfl) (by kernel_rfl) [([4, 5], [])]).of (by
  intro ρ h w args vals r e hA hH hr
  unfold laws_eqFindS_con at hr
  split at hr
  · rename_i b_a0 n_a0 a0 b_a1 n_a1 a1
    obtain ⟨rfl, hg⟩ := Prod.mk.inj (Option.some.inj hr)
    obtain ⟨rfl, hg2⟩ := Prod.mk.inj hg
    exact laws_eqFindS_main b_a0 n_a0 a0 b_a1 n_a1 a1 (hH.slw 0 rfl) (hH.slw 1 rfl) hg2
  · cases hr)

noncomputable def spec_SameFinds_e0 : Bool × Int → LS
  | (y0_4, y0_5) => ([.a (.b (y0_4)), .a (.i .i64 (y0_5))], [])

noncomputable def spec_SameFinds_x0 : (Stp (Bool × Int) (Bool × Int)) → Exit × LS
  | .more t => (.ret, spec_SameFinds_e0 t)
  | .done t => ((.exit 0), spec_SameFinds_e0 t)

noncomputable def spec_SameFinds_g0 (P : Program) (b_a0 : Option (Option Addr)) (n_a0 : Nat) (a0 : Array Value) (b_a1 : Option (Option Addr)) (n_a1 : Nat) (a1 : Array Value) : Bool × Int → Option (Stp (Bool × Int) (Stp (Bool × Int) (Bool × Int)))
  | (y0_4, y0_5) => bif decide (y0_5 < (n_a0 : Int)) then (bif (decide (0 ≤ y0_5) && decide (y0_5 < (n_a0 : Int))) then (bif (decide (0 ≤ y0_5) && decide (y0_5 < (n_a1 : Int))) then (bif (!(sameB (a0.extract ((y0_5).toNat * 2) (((y0_5).toNat * 2) + 2)) (a1.extract ((y0_5).toNat * 2) (((y0_5).toNat * 2) + 2)))) then (some (.done (.more (false, y0_5))))
          else (some (.more (y0_4, (IntKind.i64.wrap (y0_5 + (1 : Int)))))))
        else (none))
      else (none))
    else (some (.done (.done (y0_4, y0_5))))

theorem spec_SameFinds_s0 (N : Nat) (b_a0 : Option (Option Addr)) (n_a0 : Nat) (a0 : Array Value) (b_a1 : Option (Option Addr)) (n_a1 : Nat) (a1 : Array Value) : ∀ t : Bool × Int, stepV Try.prog (mkΓ []) N (cAt (codeOf Try.f10) [1, 1, 0, 1, 0, 0]) (pAt (mkPlan (codeOf Try.f10) [([4, 5], [])]).1 [1, 1, 0, 1, 0]) [4, 5] [] (⟨[.a (.l 0), .a (.l 1), .a (.u), .a (.u), .a (.b (false)), .a (.i .i64 (0 : Int)), .a (.l 0), .a (.i .i64 (n_a0 : Int)), .a (.l 1), .a (.i .i64 (n_a1 : Int)), .a (.b (((n_a0 : Int) != (n_a1 : Int)))), .a (.u), .a (.u), .a (.u), .a (.u), .a (.u), .a (.u), .a (.u), .a (.u), .a (.u), .a (.u), .a (.u), .a (.u), .a (.u), .a (.u), .a (.u)], [.sl b_a0 n_a0 a0 59, .sl b_a1 n_a1 a1 59], []⟩ : St) (spec_SameFinds_e0 t) = mapS spec_SameFinds_e0 spec_SameFinds_x0 (spec_SameFinds_g0 Try.prog b_a0 n_a0 a0 b_a1 n_a1 a1 t) := by
  rintro ⟨y0_4, y0_5⟩
  have h : stepV Try.prog (mkΓ []) N (cAt (codeOf Try.f10) [1, 1, 0, 1, 0, 0]) (pAt (mkPlan (codeOf Try.f10) [([4, 5], [])]).1 [1, 1, 0, 1, 0]) [4, 5] [] (⟨[.a (.l 0), .a (.l 1), .a (.u), .a (.u), .a (.b (false)), .a (.i .i64 (0 : Int)), .a (.l 0), .a (.i .i64 (n_a0 : Int)), .a (.l 1), .a (.i .i64 (n_a1 : Int)), .a (.b (((n_a0 : Int) != (n_a1 : Int)))), .a (.u), .a (.u), .a (.u), .a (.u), .a (.u), .a (.u), .a (.u), .a (.u), .a (.u), .a (.u), .a (.u), .a (.u), .a (.u), .a (.u), .a (.u)], [.sl b_a0 n_a0 a0 59, .sl b_a1 n_a1 a1 59], []⟩ : St) ([.a (.b (y0_4)), .a (.i .i64 (y0_5))], []) = (bif decide (y0_5 < (n_a0 : Int)) then (bif (decide (0 ≤ y0_5) && decide (y0_5 < (n_a0 : Int))) then (bif (decide (0 ≤ y0_5) && decide (y0_5 < (n_a1 : Int))) then (bif (!(sameB (a0.extract ((y0_5).toNat * 2) (((y0_5).toNat * 2) + 2)) (a1.extract ((y0_5).toNat * 2) (((y0_5).toNat * 2) + 2)))) then (some (.done (.ret, ([.a (.b (false)), .a (.i .i64 (y0_5))], []))))
          else (some (.more ([.a (.b (y0_4)), .a (.i .i64 (IntKind.i64.wrap (y0_5 + (1 : Int))))], []))))
        else (none))
      else (none))
    else (some (.done ((.exit 0), ([.a (.b (y0_4)), .a (.i .i64 (y0_5))], []))))) := by kernel_rfl
  refine h.trans ?_
  simp only [spec_SameFinds_g0, mapS_cond, mapS_more, mapS_done, mapS_none, spec_SameFinds_e0, spec_SameFinds_x0]

noncomputable def spec_SameFinds_k0_0 (P : Program) (N : Nat) (b_a0 : Option (Option Addr)) (n_a0 : Nat) (a0 : Array Value) (b_a1 : Option (Option Addr)) (n_a1 : Nat) (a1 : Array Value) (z0_4 : Bool) (z0_5 : Int) : Option (SV × Eff × Bool) := some (.a (.b (z0_4)), .none, true)

theorem spec_SameFinds_k0_0_eq (N : Nat) (b_a0 : Option (Option Addr)) (n_a0 : Nat) (a0 : Array Value) (b_a1 : Option (Option Addr)) (n_a1 : Nat) (a1 : Array Value) (z0_4 : Bool) (z0_5 : Int) : (kBlock 0 (kSeq (veC Try.prog (mkΓ []) N (cAt (codeOf Try.f10) [1, 1, 1]) (pAt (mkPlan (codeOf Try.f10) [([4, 5], [])]).1 [1, 1, 1]) (SV × Eff × Bool)) (finK Try.prog [.sl b_a0 n_a0 a0 59, .sl b_a1 n_a1 a1 59] [.tmp 4]))) .ret (left (writes (cAt (codeOf Try.f10) [1, 1, 0, 1, 0, 0])) [4, 5] [] (⟨[.a (.l 0), .a (.l 1), .a (.u), .a (.u), .a (.b (false)), .a (.i .i64 (0 : Int)), .a (.l 0), .a (.i .i64 (n_a0 : Int)), .a (.l 1), .a (.i .i64 (n_a1 : Int)), .a (.b (((n_a0 : Int) != (n_a1 : Int)))), .a (.u), .a (.u), .a (.u), .a (.u), .a (.u), .a (.u), .a (.u), .a (.u), .a (.u), .a (.u), .a (.u), .a (.u), .a (.u), .a (.u), .a (.u)], [.sl b_a0 n_a0 a0 59, .sl b_a1 n_a1 a1 59], []⟩ : St) ([.a (.b (z0_4)), .a (.i .i64 (z0_5))], [])) = spec_SameFinds_k0_0 Try.prog N b_a0 n_a0 a0 b_a1 n_a1 a1 z0_4 z0_5 := by
  have h : (kBlock 0 (kSeq (veC Try.prog (mkΓ []) N (cAt (codeOf Try.f10) [1, 1, 1]) (pAt (mkPlan (codeOf Try.f10) [([4, 5], [])]).1 [1, 1, 1]) (SV × Eff × Bool)) (finK Try.prog [.sl b_a0 n_a0 a0 59, .sl b_a1 n_a1 a1 59] [.tmp 4]))) .ret (left (writes (cAt (codeOf Try.f10) [1, 1, 0, 1, 0, 0])) [4, 5] [] (⟨[.a (.l 0), .a (.l 1), .a (.u), .a (.u), .a (.b (false)), .a (.i .i64 (0 : Int)), .a (.l 0), .a (.i .i64 (n_a0 : Int)), .a (.l 1), .a (.i .i64 (n_a1 : Int)), .a (.b (((n_a0 : Int) != (n_a1 : Int)))), .a (.u), .a (.u), .a (.u), .a (.u), .a (.u), .a (.u), .a (.u), .a (.u), .a (.u), .a (.u), .a (.u), .a (.u), .a (.u), .a (.u), .a (.u)], [.sl b_a0 n_a0 a0 59, .sl b_a1 n_a1 a1 59], []⟩ : St) ([.a (.b (z0_4)), .a (.i .i64 (z0_5))], [])) = (some (.a (.b (z0_4)), .none, true)) := by kernel_rfl
  refine h.trans ?_
  rfl

noncomputable def spec_SameFinds_k0_1 (P : Program) (N : Nat) (b_a0 : Option (Option Addr)) (n_a0 : Nat) (a0 : Array Value) (b_a1 : Option (Option Addr)) (n_a1 : Nat) (a1 : Array Value) (z0_4 : Bool) (z0_5 : Int) : Option (SV × Eff × Bool) := some (.a (.b (true)), .none, true)

theorem spec_SameFinds_k0_1_eq (N : Nat) (b_a0 : Option (Option Addr)) (n_a0 : Nat) (a0 : Array Value) (b_a1 : Option (Option Addr)) (n_a1 : Nat) (a1 : Array Value) (z0_4 : Bool) (z0_5 : Int) : (kBlock 0 (kSeq (veC Try.prog (mkΓ []) N (cAt (codeOf Try.f10) [1, 1, 1]) (pAt (mkPlan (codeOf Try.f10) [([4, 5], [])]).1 [1, 1, 1]) (SV × Eff × Bool)) (finK Try.prog [.sl b_a0 n_a0 a0 59, .sl b_a1 n_a1 a1 59] [.tmp 4]))) (.exit 0) (left (writes (cAt (codeOf Try.f10) [1, 1, 0, 1, 0, 0])) [4, 5] [] (⟨[.a (.l 0), .a (.l 1), .a (.u), .a (.u), .a (.b (false)), .a (.i .i64 (0 : Int)), .a (.l 0), .a (.i .i64 (n_a0 : Int)), .a (.l 1), .a (.i .i64 (n_a1 : Int)), .a (.b (((n_a0 : Int) != (n_a1 : Int)))), .a (.u), .a (.u), .a (.u), .a (.u), .a (.u), .a (.u), .a (.u), .a (.u), .a (.u), .a (.u), .a (.u), .a (.u), .a (.u), .a (.u), .a (.u)], [.sl b_a0 n_a0 a0 59, .sl b_a1 n_a1 a1 59], []⟩ : St) ([.a (.b (z0_4)), .a (.i .i64 (z0_5))], [])) = spec_SameFinds_k0_1 Try.prog N b_a0 n_a0 a0 b_a1 n_a1 a1 z0_4 z0_5 := by
  have h : (kBlock 0 (kSeq (veC Try.prog (mkΓ []) N (cAt (codeOf Try.f10) [1, 1, 1]) (pAt (mkPlan (codeOf Try.f10) [([4, 5], [])]).1 [1, 1, 1]) (SV × Eff × Bool)) (finK Try.prog [.sl b_a0 n_a0 a0 59, .sl b_a1 n_a1 a1 59] [.tmp 4]))) (.exit 0) (left (writes (cAt (codeOf Try.f10) [1, 1, 0, 1, 0, 0])) [4, 5] [] (⟨[.a (.l 0), .a (.l 1), .a (.u), .a (.u), .a (.b (false)), .a (.i .i64 (0 : Int)), .a (.l 0), .a (.i .i64 (n_a0 : Int)), .a (.l 1), .a (.i .i64 (n_a1 : Int)), .a (.b (((n_a0 : Int) != (n_a1 : Int)))), .a (.u), .a (.u), .a (.u), .a (.u), .a (.u), .a (.u), .a (.u), .a (.u), .a (.u), .a (.u), .a (.u), .a (.u), .a (.u), .a (.u), .a (.u)], [.sl b_a0 n_a0 a0 59, .sl b_a1 n_a1 a1 59], []⟩ : St) ([.a (.b (z0_4)), .a (.i .i64 (z0_5))], [])) = (some (.a (.b (true)), .none, true)) := by kernel_rfl
  refine h.trans ?_
  rfl

theorem spec_SameFinds_n0 (N : Nat) (b_a0 : Option (Option Addr)) (n_a0 : Nat) (a0 : Array Value) (b_a1 : Option (Option Addr)) (n_a1 : Nat) (a1 : Array Value) : bindX (iterO (stepV Try.prog (mkΓ []) N (cAt (codeOf Try.f10) [1, 1, 0, 1, 0, 0]) (pAt (mkPlan (codeOf Try.f10) [([4, 5], [])]).1 [1, 1, 0, 1, 0]) [4, 5] [] (⟨[.a (.l 0), .a (.l 1), .a (.u), .a (.u), .a (.b (false)), .a (.i .i64 (0 : Int)), .a (.l 0), .a (.i .i64 (n_a0 : Int)), .a (.l 1), .a (.i .i64 (n_a1 : Int)), .a (.b (((n_a0 : Int) != (n_a1 : Int)))), .a (.u), .a (.u), .a (.u), .a (.u), .a (.u), .a (.u), .a (.u), .a (.u), .a (.u), .a (.u), .a (.u), .a (.u), .a (.u), .a (.u), .a (.u)], [.sl b_a0 n_a0 a0 59, .sl b_a1 n_a1 a1 59], []⟩ : St)) N ([.a (.b (false)), .a (.i .i64 (0 : Int))], [])) (fun e s => (kBlock 0 (kSeq (veC Try.prog (mkΓ []) N (cAt (codeOf Try.f10) [1, 1, 1]) (pAt (mkPlan (codeOf Try.f10) [([4, 5], [])]).1 [1, 1, 1]) (SV × Eff × Bool)) (finK Try.prog [.sl b_a0 n_a0 a0 59, .sl b_a1 n_a1 a1 59] [.tmp 4]))) e (left (writes (cAt (codeOf Try.f10) [1, 1, 0, 1, 0, 0])) [4, 5] [] (⟨[.a (.l 0), .a (.l 1), .a (.u), .a (.u), .a (.b (false)), .a (.i .i64 (0 : Int)), .a (.l 0), .a (.i .i64 (n_a0 : Int)), .a (.l 1), .a (.i .i64 (n_a1 : Int)), .a (.b (((n_a0 : Int) != (n_a1 : Int)))), .a (.u), .a (.u), .a (.u), .a (.u), .a (.u), .a (.u), .a (.u), .a (.u), .a (.u), .a (.u), .a (.u), .a (.u), .a (.u), .a (.u), .a (.u)], [.sl b_a0 n_a0 a0 59, .sl b_a1 n_a1 a1 59], []⟩ : St) s)) = nodeX (iterO (spec_SameFinds_g0 Try.prog b_a0 n_a0 a0 b_a1 n_a1 a1) N (false, (0 : Int))) (st2 (fun x => spec_SameFinds_k0_0 Try.prog N b_a0 n_a0 a0 b_a1 n_a1 a1 x.1 x.2) (fun x => spec_SameFinds_k0_1 Try.prog N b_a0 n_a0 a0 b_a1 n_a1 a1 x.1 x.2)) := by
  refine loop_node spec_SameFinds_e0 spec_SameFinds_x0 _ _ (spec_SameFinds_s0 N b_a0 n_a0 a0 b_a1 n_a1 a1) N (false, (0 : Int)) _ _ ?_
  intro x
  cases x with
  | more x => exact spec_SameFinds_k0_0_eq N b_a0 n_a0 a0 b_a1 n_a1 a1 x.1 x.2
  | done x => exact spec_SameFinds_k0_1_eq N b_a0 n_a0 a0 b_a1 n_a1 a1 x.1 x.2

theorem spec_SameFinds_ans (N : Nat) (b_a0 : Option (Option Addr)) (n_a0 : Nat) (a0 : Array Value) (b_a1 : Option (Option Addr)) (n_a1 : Nat) (a1 : Array Value) : ansV Try.prog (mkΓ []) N Try.f10 [([4, 5], [])] [.l 0, .l 1] [.sl b_a0 n_a0 a0 59, .sl b_a1 n_a1 a1 59] = (bif ((n_a0 : Int) != (n_a1 : Int)) then (some (.a (.b (false)), .none, true))
    else (nodeX (iterO (spec_SameFinds_g0 Try.prog b_a0 n_a0 a0 b_a1 n_a1 a1) N (false, (0 : Int))) (st2 (fun x => spec_SameFinds_k0_0 Try.prog N b_a0 n_a0 a0 b_a1 n_a1 a1 x.1 x.2) (fun x => spec_SameFinds_k0_1 Try.prog N b_a0 n_a0 a0 b_a1 n_a1 a1 x.1 x.2)))) := by
  have h : ansV Try.prog (mkΓ []) N Try.f10 [([4, 5], [])] [.l 0, .l 1] [.sl b_a0 n_a0 a0 59, .sl b_a1 n_a1 a1 59] = (bif ((n_a0 : Int) != (n_a1 : Int)) then (some (.a (.b (false)), .none, true))
    else (bindX (iterO (stepV Try.prog (mkΓ []) N (cAt (codeOf Try.f10) [1, 1, 0, 1, 0, 0]) (pAt (mkPlan (codeOf Try.f10) [([4, 5], [])]).1 [1, 1, 0, 1, 0]) [4, 5] [] (⟨[.a (.l 0), .a (.l 1), .a (.u), .a (.u), .a (.b (false)), .a (.i .i64 (0 : Int)), .a (.l 0), .a (.i .i64 (n_a0 : Int)), .a (.l 1), .a (.i .i64 (n_a1 : Int)), .a (.b (((n_a0 : Int) != (n_a1 : Int)))), .a (.u), .a (.u), .a (.u), .a (.u), .a (.u), .a (.u), .a (.u), .a (.u), .a (.u), .a (.u), .a (.u), .a (.u), .a (.u), .a (.u), .a (.u)], [.sl b_a0 n_a0 a0 59, .sl b_a1 n_a1 a1 59], []⟩ : St)) N ([.a (.b (false)), .a (.i .i64 (0 : Int))], [])) (fun e s => (kBlock 0 (kSeq (veC Try.prog (mkΓ []) N (cAt (codeOf Try.f10) [1, 1, 1]) (pAt (mkPlan (codeOf Try.f10) [([4, 5], [])]).1 [1, 1, 1]) (SV × Eff × Bool)) (finK Try.prog [.sl b_a0 n_a0 a0 59, .sl b_a1 n_a1 a1 59] [.tmp 4]))) e (left (writes (cAt (codeOf Try.f10) [1, 1, 0, 1, 0, 0])) [4, 5] [] (⟨[.a (.l 0), .a (.l 1), .a (.u), .a (.u), .a (.b (false)), .a (.i .i64 (0 : Int)), .a (.l 0), .a (.i .i64 (n_a0 : Int)), .a (.l 1), .a (.i .i64 (n_a1 : Int)), .a (.b (((n_a0 : Int) != (n_a1 : Int)))), .a (.u), .a (.u), .a (.u), .a (.u), .a (.u), .a (.u), .a (.u), .a (.u), .a (.u), .a (.u), .a (.u), .a (.u), .a (.u), .a (.u), .a (.u)], [.sl b_a0 n_a0 a0 59, .sl b_a1 n_a1 a1 59], []⟩ : St) s)))) := by kernel_rfl
  refine h.trans ?_
  simp only [spec_SameFinds_n0]

theorem spec_SameFinds_main (b_a0 : Option (Option Addr)) (n_a0 : Nat) (a0 : Array Value) (b_a1 : Option (Option Addr)) (n_a1 : Nat) (a1 : Array Value) (h_a0 : a0.size = n_a0 * (lay Try.prog 59).length ∧ (∀ k, k < n_a0 → WT Try.prog 59 (a0.extract (k * (lay Try.prog 59).length) (k * (lay Try.prog 59).length + (lay Try.prog 59).length))) ∧ n_a0 ≤ 9223372036854775807) (h_a1 : a1.size = n_a1 * (lay Try.prog 59).length ∧ (∀ k, k < n_a1 → WT Try.prog 59 (a1.extract (k * (lay Try.prog 59).length) (k * (lay Try.prog 59).length + (lay Try.prog 59).length))) ∧ n_a1 ≤ 9223372036854775807) (hg : (true) = true) : ansV Try.prog (mkΓ []) 18446744073709551616 Try.f10 [([4, 5], [])] [.l 0, .l 1] [.sl b_a0 n_a0 a0 59, .sl b_a1 n_a1 a1 59] = some (.a (.b ((decide (n_a0 = n_a1) && sameB a0 a1))), .none, true) := by
  have hm : (lay Try.prog 59).length = 2 := by kernel_rfl
  obtain ⟨s1, s2, s3⟩ := h_a0
  obtain ⟨t1, t2, t3⟩ := h_a1
  rw [hm] at s1 s2 t1 t2
  have hq : (lay Try.prog 59)[0]? = some 0 := by kernel_rfl
  refine (spec_SameFinds_ans 18446744073709551616 b_a0 n_a0 a0 b_a1 n_a1 a1).trans ?_
  by_cases hl : n_a0 = n_a1
  case neg =>
    rw [decide_eq_false hl, show ((n_a0 : Int) != (n_a1 : Int)) = true from bne_iff_ne.2 (by omega)]
    rfl
  subst hl
  rw [decide_eq_true rfl, show ((n_a0 : Int) != (n_a0 : Int)) = false from bne_self_eq_false _]
  simp only [cond_false, Bool.true_and]
  have hb : sameB a0 a1 = true ↔ ∀ k, k < n_a0 → (fun k => sameB (a0.extract (k * 2) (k * 2 + 2)) (a1.extract (k * 2) (k * 2 + 2))) k = true := by
    constructor
    · intro h k hk
      rw [sameB_iff.1 h]
      exact sameB_self _
    · intro h
      refine sameB_iff.2 ?_
      exact ext_parts (n := n_a0) (m := 2) (by omega) s1 t1 (fun k hk => sameB_iff.1 (h k hk))
  refine (iter_first (g := spec_SameFinds_g0 Try.prog b_a0 n_a0 a0 b_a1 n_a0 a1) (fun k => (false, (k : Int))) (fun k => sameB (a0.extract (k * 2) (k * 2 + 2)) (a1.extract (k * 2) (k * 2 + 2))) n_a0 (N := 18446744073709551616) (xd := .done (false, (n_a0 : Int))) (by omega) (fun k hk hp => by
    have h1 : decide ((k : Int) < (n_a0 : Int)) = true := decide_eq_true (by omega)
    have h0 : decide (0 ≤ (k : Int)) = true := decide_eq_true (by omega)
    have h3 : IntKind.i64.wrap ((k : Int) + 1) = ((k + 1 : Nat) : Int) := by rw [IntWalk.i64_in _ (by omega)]; omega
    have hp' : sameB (a0.extract (k * 2) (k * 2 + 2)) (a1.extract (k * 2) (k * 2 + 2)) = true := hp
    simp only [spec_SameFinds_g0, h1, h0, Bool.and_self, Int.toNat_natCast, cond_true, h3, hp', Bool.not_true, cond_false]) (by
    have h1 : decide ((n_a0 : Int) < (n_a0 : Int)) = false := decide_eq_false (by omega)
    simp only [spec_SameFinds_g0, h1, cond_false]) (sameB a0 a1) hb (some (.a (.b true), .none, true)) (some (.a (.b false), .none, true)) rfl (fun k hk hp => by
    refine ⟨.more (false, (k : Int)), ?_, rfl⟩
    have h1 : decide ((k : Int) < (n_a0 : Int)) = true := decide_eq_true (by omega)
    have h0 : decide (0 ≤ (k : Int)) = true := decide_eq_true (by omega)
    have hp' : sameB (a0.extract (k * 2) (k * 2 + 2)) (a1.extract (k * 2) (k * 2 + 2)) = false := hp
    simp only [spec_SameFinds_g0, h1, h0, Bool.and_self, Int.toNat_natCast, cond_true, hp', Bool.not_false])).trans ?_
  cases sameB a0 a1 <;> rfl
noncomputable def spec_SameFinds_con : Con := fun args h => match args, h with
  | [.l 0, .l 1], [.sl b_a0 n_a0 a0 59, .sl b_a1 n_a1 a1 59] => some (.a (.b ((decide (n_a0 = n_a1) && sameB a0 a1))), .none, true)
  | _, _ => none
theorem spec_SameFinds_enter : ∀ args w, (callFunc 10 args).run Try.prog w = .ok (.enter 10 args) w := enter_ok (fn := Try.f10) (by kernel_rfl) (by kernel_rfl) (by kernel_rfl)
theorem spec_SameFinds_ok : ConOk Try.prog 10 spec_SameFinds_con := (ans_ok (N := 18446744073709551616) (by kernel_rfl) mkΓ_nil (fn := Try.f10) (by kernel_rfl) (by kernel_rfl) [([4, 5], [])]).of (by
  intro ρ h w args vals r e hA hH hr
  unfold spec_SameFinds_con at hr
  split at hr
  · rename_i b_a0 n_a0 a0 b_a1 n_a1 a1
    obtain ⟨rfl, hg⟩ := Prod.mk.inj (Option.some.inj hr)
    obtain ⟨rfl, hg2⟩ := Prod.mk.inj hg
    exact spec_SameFinds_main b_a0 n_a0 a0 b_a1 n_a1 a1 (hH.slw 0 rfl) (hH.slw 1 rfl) hg2
  · cases hr)

noncomputable def slices_Equal__impl_Find_impl_Find_e0 : Bool × Int → LS
  | (y0_4, y0_13) => ([.a (.b (y0_4)), .a (.i .i64 (y0_13))], [])

noncomputable def slices_Equal__impl_Find_impl_Find_x0 : (Stp (Bool × Int) (Bool × Int)) → Exit × LS
  | .more t => (.ret, slices_Equal__impl_Find_impl_Find_e0 t)
  | .done t => ((.exit 0), slices_Equal__impl_Find_impl_Find_e0 t)

noncomputable def slices_Equal__impl_Find_impl_Find_g0 (P : Program) (b_a0 : Option (Option Addr)) (n_a0 : Nat) (a0 : Array Value) (b_a1 : Option (Option Addr)) (n_a1 : Nat) (a1 : Array Value) : Bool × Int → Option (Stp (Bool × Int) (Stp (Bool × Int) (Bool × Int)))
  | (y0_4, y0_13) => bif decide (y0_13 < (n_a0 : Int)) then (bif (decide (0 ≤ y0_13) && decide (y0_13 < (n_a0 : Int))) then (bif (decide (0 ≤ y0_13) && decide (y0_13 < (n_a1 : Int))) then (bif (!(sameB (a0.extract ((y0_13).toNat * 2) (((y0_13).toNat * 2) + 2)) (a1.extract ((y0_13).toNat * 2) (((y0_13).toNat * 2) + 2)))) then (some (.done (.more (false, y0_13))))
          else (some (.more (y0_4, (IntKind.i64.wrap (y0_13 + (1 : Int)))))))
        else (none))
      else (none))
    else (some (.done (.done (y0_4, y0_13))))

theorem slices_Equal__impl_Find_impl_Find_s0 (N : Nat) (b_a0 : Option (Option Addr)) (n_a0 : Nat) (a0 : Array Value) (b_a1 : Option (Option Addr)) (n_a1 : Nat) (a1 : Array Value) : ∀ t : Bool × Int, stepV Try.prog (mkΓ []) N (cAt (codeOf Try.f24) [1, 1, 0, 1, 0, 0]) (pAt (mkPlan (codeOf Try.f24) [([4, 13], [])]).1 [1, 1, 0, 1, 0]) [4, 13] [] (⟨[.a (.l 0), .a (.l 1), .a (.u), .a (.u), .a (.b (false)), .a (.u), .a (.l 0), .a (.i .i64 (n_a0 : Int)), .a (.l 1), .a (.i .i64 (n_a1 : Int)), .a (.b (((n_a0 : Int) != (n_a1 : Int)))), .a (.l 0), .a (.i .i64 (n_a0 : Int)), .a (.i .i64 (0 : Int)), .a (.u), .a (.u), .a (.u), .a (.u), .a (.u), .a (.u), .a (.u), .a (.u), .a (.u), .a (.u), .a (.u), .a (.u)], [.sl b_a0 n_a0 a0 59, .sl b_a1 n_a1 a1 59], []⟩ : St) (slices_Equal__impl_Find_impl_Find_e0 t) = mapS slices_Equal__impl_Find_impl_Find_e0 slices_Equal__impl_Find_impl_Find_x0 (slices_Equal__impl_Find_impl_Find_g0 Try.prog b_a0 n_a0 a0 b_a1 n_a1 a1 t) := by
  rintro ⟨y0_4, y0_13⟩
  have h : stepV Try.prog (mkΓ []) N (cAt (codeOf Try.f24) [1, 1, 0, 1, 0, 0]) (pAt (mkPlan (codeOf Try.f24) [([4, 13], [])]).1 [1, 1, 0, 1, 0]) [4, 13] [] (⟨[.a (.l 0), .a (.l 1), .a (.u), .a (.u), .a (.b (false)), .a (.u), .a (.l 0), .a (.i .i64 (n_a0 : Int)), .a (.l 1), .a (.i .i64 (n_a1 : Int)), .a (.b (((n_a0 : Int) != (n_a1 : Int)))), .a (.l 0), .a (.i .i64 (n_a0 : Int)), .a (.i .i64 (0 : Int)), .a (.u), .a (.u), .a (.u), .a (.u), .a (.u), .a (.u), .a (.u), .a (.u), .a (.u), .a (.u), .a (.u), .a (.u)], [.sl b_a0 n_a0 a0 59, .sl b_a1 n_a1 a1 59], []⟩ : St) ([.a (.b (y0_4)), .a (.i .i64 (y0_13))], []) = (bif decide (y0_13 < (n_a0 : Int)) then (bif (decide (0 ≤ y0_13) && decide (y0_13 < (n_a0 : Int))) then (bif (decide (0 ≤ y0_13) && decide (y0_13 < (n_a1 : Int))) then (bif (!(sameB (a0.extract ((y0_13).toNat * 2) (((y0_13).toNat * 2) + 2)) (a1.extract ((y0_13).toNat * 2) (((y0_13).toNat * 2) + 2)))) then (some (.done (.ret, ([.a (.b (false)), .a (.i .i64 (y0_13))], []))))
          else (some (.more ([.a (.b (y0_4)), .a (.i .i64 (IntKind.i64.wrap (y0_13 + (1 : Int))))], []))))
        else (none))
      else (none))
    else (some (.done ((.exit 0), ([.a (.b (y0_4)), .a (.i .i64 (y0_13))], []))))) := by kernel_rfl
  refine h.trans ?_
  simp only [slices_Equal__impl_Find_impl_Find_g0, mapS_cond, mapS_more, mapS_done, mapS_none, slices_Equal__impl_Find_impl_Find_e0, slices_Equal__impl_Find_impl_Find_x0]

noncomputable def slices_Equal__impl_Find_impl_Find_k0_0 (P : Program) (N : Nat) (b_a0 : Option (Option Addr)) (n_a0 : Nat) (a0 : Array Value) (b_a1 : Option (Option Addr)) (n_a1 : Nat) (a1 : Array Value) (z0_4 : Bool) (z0_13 : Int) : Option (SV × Eff × Bool) := some (.a (.b (z0_4)), .none, true)

theorem slices_Equal__impl_Find_impl_Find_k0_0_eq (N : Nat) (b_a0 : Option (Option Addr)) (n_a0 : Nat) (a0 : Array Value) (b_a1 : Option (Option Addr)) (n_a1 : Nat) (a1 : Array Value) (z0_4 : Bool) (z0_13 : Int) : (kBlock 0 (kSeq (veC Try.prog (mkΓ []) N (cAt (codeOf Try.f24) [1, 1, 1]) (pAt (mkPlan (codeOf Try.f24) [([4, 13], [])]).1 [1, 1, 1]) (SV × Eff × Bool)) (finK Try.prog [.sl b_a0 n_a0 a0 59, .sl b_a1 n_a1 a1 59] [.tmp 4]))) .ret (left (writes (cAt (codeOf Try.f24) [1, 1, 0, 1, 0, 0])) [4, 13] [] (⟨[.a (.l 0), .a (.l 1), .a (.u), .a (.u), .a (.b (false)), .a (.u), .a (.l 0), .a (.i .i64 (n_a0 : Int)), .a (.l 1), .a (.i .i64 (n_a1 : Int)), .a (.b (((n_a0 : Int) != (n_a1 : Int)))), .a (.l 0), .a (.i .i64 (n_a0 : Int)), .a (.i .i64 (0 : Int)), .a (.u), .a (.u), .a (.u), .a (.u), .a (.u), .a (.u), .a (.u), .a (.u), .a (.u), .a (.u), .a (.u), .a (.u)], [.sl b_a0 n_a0 a0 59, .sl b_a1 n_a1 a1 59], []⟩ : St) ([.a (.b (z0_4)), .a (.i .i64 (z0_13))], [])) = slices_Equal__impl_Find_impl_Find_k0_0 Try.prog N b_a0 n_a0 a0 b_a1 n_a1 a1 z0_4 z0_13 := by
  have h : (kBlock 0 (kSeq (veC Try.prog (mkΓ []) N (cAt (codeOf Try.f24) [1, 1, 1]) (pAt (mkPlan (codeOf Try.f24) [([4, 13], [])]).1 [1, 1, 1]) (SV × Eff × Bool)) (finK Try.prog [.sl b_a0 n_a0 a0 59, .sl b_a1 n_a1 a1 59] [.tmp 4]))) .ret (left (writes (cAt (codeOf Try.f24) [1, 1, 0, 1, 0, 0])) [4, 13] [] (⟨[.a (.l 0), .a (.l 1), .a (.u), .a (.u), .a (.b (false)), .a (.u), .a (.l 0), .a (.i .i64 (n_a0 : Int)), .a (.l 1), .a (.i .i64 (n_a1 : Int)), .a (.b (((n_a0 : Int) != (n_a1 : Int)))), .a (.l 0), .a (.i .i64 (n_a0 : Int)), .a (.i .i64 (0 : Int)), .a (.u), .a (.u), .a (.u), .a (.u), .a (.u), .a (.u), .a (.u), .a (.u), .a (.u), .a (.u), .a (.u), .a (.u)], [.sl b_a0 n_a0 a0 59, .sl b_a1 n_a1 a1 59], []⟩ : St) ([.a (.b (z0_4)), .a (.i .i64 (z0_13))], [])) = (some (.a (.b (z0_4)), .none, true)) := by kernel_rfl
  refine h.trans ?_
  rfl

noncomputable def slices_Equal__impl_Find_impl_Find_k0_1 (P : Program) (N : Nat) (b_a0 : Option (Option Addr)) (n_a0 : Nat) (a0 : Array Value) (b_a1 : Option (Option Addr)) (n_a1 : Nat) (a1 : Array Value) (z0_4 : Bool) (z0_13 : Int) : Option (SV × Eff × Bool) := some (.a (.b (true)), .none, true)

theorem slices_Equal__impl_Find_impl_Find_k0_1_eq (N : Nat) (b_a0 : Option (Option Addr)) (n_a0 : Nat) (a0 : Array Value) (b_a1 : Option (Option Addr)) (n_a1 : Nat) (a1 : Array Value) (z0_4 : Bool) (z0_13 : Int) : (kBlock 0 (kSeq (veC Try.prog (mkΓ []) N (cAt (codeOf Try.f24) [1, 1, 1]) (pAt (mkPlan (codeOf Try.f24) [([4, 13], [])]).1 [1, 1, 1]) (SV × Eff × Bool)) (finK Try.prog [.sl b_a0 n_a0 a0 59, .sl b_a1 n_a1 a1 59] [.tmp 4]))) (.exit 0) (left (writes (cAt (codeOf Try.f24) [1, 1, 0, 1, 0, 0])) [4, 13] [] (⟨[.a (.l 0), .a (.l 1), .a (.u), .a (.u), .a (.b (false)), .a (.u), .a (.l 0), .a (.i .i64 (n_a0 : Int)), .a (.l 1), .a (.i .i64 (n_a1 : Int)), .a (.b (((n_a0 : Int) != (n_a1 : Int)))), .a (.l 0), .a (.i .i64 (n_a0 : Int)), .a (.i .i64 (0 : Int)), .a (.u), .a (.u), .a (.u), .a (.u), .a (.u), .a (.u), .a (.u), .a (.u), .a (.u), .a (.u), .a (.u), .a (.u)], [.sl b_a0 n_a0 a0 59, .sl b_a1 n_a1 a1 59], []⟩ : St) ([.a (.b (z0_4)), .a (.i .i64 (z0_13))], [])) = slices_Equal__impl_Find_impl_Find_k0_1 Try.prog N b_a0 n_a0 a0 b_a1 n_a1 a1 z0_4 z0_13 := by
  have h : (kBlock 0 (kSeq (veC Try.prog (mkΓ []) N (cAt (codeOf Try.f24) [1, 1, 1]) (pAt (mkPlan (codeOf Try.f24) [([4, 13], [])]).1 [1, 1, 1]) (SV × Eff × Bool)) (finK Try.prog [.sl b_a0 n_a0 a0 59, .sl b_a1 n_a1 a1 59] [.tmp 4]))) (.exit 0) (left (writes (cAt (codeOf Try.f24) [1, 1, 0, 1, 0, 0])) [4, 13] [] (⟨[.a (.l 0), .a (.l 1), .a (.u), .a (.u), .a (.b (false)), .a (.u), .a (.l 0), .a (.i .i64 (n_a0 : Int)), .a (.l 1), .a (.i .i64 (n_a1 : Int)), .a (.b (((n_a0 : Int) != (n_a1 : Int)))), .a (.l 0), .a (.i .i64 (n_a0 : Int)), .a (.i .i64 (0 : Int)), .a (.u), .a (.u), .a (.u), .a (.u), .a (.u), .a (.u), .a (.u), .a (.u), .a (.u), .a (.u), .a (.u), .a (.u)], [.sl b_a0 n_a0 a0 59, .sl b_a1 n_a1 a1 59], []⟩ : St) ([.a (.b (z0_4)), .a (.i .i64 (z0_13))], [])) = (some (.a (.b (true)), .none, true)) := by kernel_rfl
  refine h.trans ?_
  rfl

theorem slices_Equal__impl_Find_impl_Find_n0 (N : Nat) (b_a0 : Option (Option Addr)) (n_a0 : Nat) (a0 : Array Value) (b_a1 : Option (Option Addr)) (n_a1 : Nat) (a1 : Array Value) : bindX (iterO (stepV Try.prog (mkΓ []) N (cAt (codeOf Try.f24) [1, 1, 0, 1, 0, 0]) (pAt (mkPlan (codeOf Try.f24) [([4, 13], [])]).1 [1, 1, 0, 1, 0]) [4, 13] [] (⟨[.a (.l 0), .a (.l 1), .a (.u), .a (.u), .a (.b (false)), .a (.u), .a (.l 0), .a (.i .i64 (n_a0 : Int)), .a (.l 1), .a (.i .i64 (n_a1 : Int)), .a (.b (((n_a0 : Int) != (n_a1 : Int)))), .a (.l 0), .a (.i .i64 (n_a0 : Int)), .a (.i .i64 (0 : Int)), .a (.u), .a (.u), .a (.u), .a (.u), .a (.u), .a (.u), .a (.u), .a (.u), .a (.u), .a (.u), .a (.u), .a (.u)], [.sl b_a0 n_a0 a0 59, .sl b_a1 n_a1 a1 59], []⟩ : St)) N ([.a (.b (false)), .a (.i .i64 (0 : Int))], [])) (fun e s => (kBlock 0 (kSeq (veC Try.prog (mkΓ []) N (cAt (codeOf Try.f24) [1, 1, 1]) (pAt (mkPlan (codeOf Try.f24) [([4, 13], [])]).1 [1, 1, 1]) (SV × Eff × Bool)) (finK Try.prog [.sl b_a0 n_a0 a0 59, .sl b_a1 n_a1 a1 59] [.tmp 4]))) e (left (writes (cAt (codeOf Try.f24) [1, 1, 0, 1, 0, 0])) [4, 13] [] (⟨[.a (.l 0), .a (.l 1), .a (.u), .a (.u), .a (.b (false)), .a (.u), .a (.l 0), .a (.i .i64 (n_a0 : Int)), .a (.l 1), .a (.i .i64 (n_a1 : Int)), .a (.b (((n_a0 : Int) != (n_a1 : Int)))), .a (.l 0), .a (.i .i64 (n_a0 : Int)), .a (.i .i64 (0 : Int)), .a (.u), .a (.u), .a (.u), .a (.u), .a (.u), .a (.u), .a (.u), .a (.u), .a (.u), .a (.u), .a (.u), .a (.u)], [.sl b_a0 n_a0 a0 59, .sl b_a1 n_a1 a1 59], []⟩ : St) s)) = nodeX (iterO (slices_Equal__impl_Find_impl_Find_g0 Try.prog b_a0 n_a0 a0 b_a1 n_a1 a1) N (false, (0 : Int))) (st2 (fun x => slices_Equal__impl_Find_impl_Find_k0_0 Try.prog N b_a0 n_a0 a0 b_a1 n_a1 a1 x.1 x.2) (fun x => slices_Equal__impl_Find_impl_Find_k0_1 Try.prog N b_a0 n_a0 a0 b_a1 n_a1 a1 x.1 x.2)) := by
  refine loop_node slices_Equal__impl_Find_impl_Find_e0 slices_Equal__impl_Find_impl_Find_x0 _ _ (slices_Equal__impl_Find_impl_Find_s0 N b_a0 n_a0 a0 b_a1 n_a1 a1) N (false, (0 : Int)) _ _ ?_
  intro x
  cases x with
  | more x => exact slices_Equal__impl_Find_impl_Find_k0_0_eq N b_a0 n_a0 a0 b_a1 n_a1 a1 x.1 x.2
  | done x => exact slices_Equal__impl_Find_impl_Find_k0_1_eq N b_a0 n_a0 a0 b_a1 n_a1 a1 x.1 x.2

theorem slices_Equal__impl_Find_impl_Find_ans (N : Nat) (b_a0 : Option (Option Addr)) (n_a0 : Nat) (a0 : Array Value) (b_a1 : Option (Option Addr)) (n_a1 : Nat) (a1 : Array Value) : ansV Try.prog (mkΓ []) N Try.f24 [([4, 13], [])] [.l 0, .l 1] [.sl b_a0 n_a0 a0 59, .sl b_a1 n_a1 a1 59] = (bif ((n_a0 : Int) != (n_a1 : Int)) then (some (.a (.b (false)), .none, true))
    else (nodeX (iterO (slices_Equal__impl_Find_impl_Find_g0 Try.prog b_a0 n_a0 a0 b_a1 n_a1 a1) N (false, (0 : Int))) (st2 (fun x => slices_Equal__impl_Find_impl_Find_k0_0 Try.prog N b_a0 n_a0 a0 b_a1 n_a1 a1 x.1 x.2) (fun x => slices_Equal__impl_Find_impl_Find_k0_1 Try.prog N b_a0 n_a0 a0 b_a1 n_a1 a1 x.1 x.2)))) := by
  have h : ansV Try.prog (mkΓ []) N Try.f24 [([4, 13], [])] [.l 0, .l 1] [.sl b_a0 n_a0 a0 59, .sl b_a1 n_a1 a1 59] = (bif ((n_a0 : Int) != (n_a1 : Int)) then (some (.a (.b (false)), .none, true))
    else (bindX (iterO (stepV Try.prog (mkΓ []) N (cAt (codeOf Try.f24) [1, 1, 0, 1, 0, 0]) (pAt (mkPlan (codeOf Try.f24) [([4, 13], [])]).1 [1, 1, 0, 1, 0]) [4, 13] [] (⟨[.a (.l 0), .a (.l 1), .a (.u), .a (.u), .a (.b (false)), .a (.u), .a (.l 0), .a (.i .i64 (n_a0 : Int)), .a (.l 1), .a (.i .i64 (n_a1 : Int)), .a (.b (((n_a0 : Int) != (n_a1 : Int)))), .a (.l 0), .a (.i .i64 (n_a0 : Int)), .a (.i .i64 (0 : Int)), .a (.u), .a (.u), .a (.u), .a (.u), .a (.u), .a (.u), .a (.u), .a (.u), .a (.u), .a (.u), .a (.u), .a (.u)], [.sl b_a0 n_a0 a0 59, .sl b_a1 n_a1 a1 59], []⟩ : St)) N ([.a (.b (false)), .a (.i .i64 (0 : Int))], [])) (fun e s => (kBlock 0 (kSeq (veC Try.prog (mkΓ []) N (cAt (codeOf Try.f24) [1, 1, 1]) (pAt (mkPlan (codeOf Try.f24) [([4, 13], [])]).1 [1, 1, 1]) (SV × Eff × Bool)) (finK Try.prog [.sl b_a0 n_a0 a0 59, .sl b_a1 n_a1 a1 59] [.tmp 4]))) e (left (writes (cAt (codeOf Try.f24) [1, 1, 0, 1, 0, 0])) [4, 13] [] (⟨[.a (.l 0), .a (.l 1), .a (.u), .a (.u), .a (.b (false)), .a (.u), .a (.l 0), .a (.i .i64 (n_a0 : Int)), .a (.l 1), .a (.i .i64 (n_a1 : Int)), .a (.b (((n_a0 : Int) != (n_a1 : Int)))), .a (.l 0), .a (.i .i64 (n_a0 : Int)), .a (.i .i64 (0 : Int)), .a (.u), .a (.u), .a (.u), .a (.u), .a (.u), .a (.u), .a (.u), .a (.u), .a (.u), .a (.u), .a (.u), .a (.u)], [.sl b_a0 n_a0 a0 59, .sl b_a1 n_a1 a1 59], []⟩ : St) s)))) := by kernel_rfl
  refine h.trans ?_
  simp only [slices_Equal__impl_Find_impl_Find_n0]

theorem slices_Equal__impl_Find_impl_Find_main (b_a0 : Option (Option Addr)) (n_a0 : Nat) (a0 : Array Value) (b_a1 : Option (Option Addr)) (n_a1 : Nat) (a1 : Array Value) (h_a0 : a0.size = n_a0 * (lay Try.prog 59).length ∧ (∀ k, k < n_a0 → WT Try.prog 59 (a0.extract (k * (lay Try.prog 59).length) (k * (lay Try.prog 59).length + (lay Try.prog 59).length))) ∧ n_a0 ≤ 9223372036854775807) (h_a1 : a1.size = n_a1 * (lay Try.prog 59).length ∧ (∀ k, k < n_a1 → WT Try.prog 59 (a1.extract (k * (lay Try.prog 59).length) (k * (lay Try.prog 59).length + (lay Try.prog 59).length))) ∧ n_a1 ≤ 9223372036854775807) (hg : (true) = true) : ansV Try.prog (mkΓ []) 18446744073709551616 Try.f24 [([4, 13], [])] [.l 0, .l 1] [.sl b_a0 n_a0 a0 59, .sl b_a1 n_a1 a1 59] = some (.a (.b ((decide (n_a0 = n_a1) && sameB a0 a1))), .none, true) := by
  have hm : (lay Try.prog 59).length = 2 := by kernel_rfl
  obtain ⟨s1, s2, s3⟩ := h_a0
  obtain ⟨t1, t2, t3⟩ := h_a1
  rw [hm] at s1 s2 t1 t2
  have hq : (lay Try.prog 59)[0]? = some 0 := by kernel_rfl
  refine (slices_Equal__impl_Find_impl_Find_ans 18446744073709551616 b_a0 n_a0 a0 b_a1 n_a1 a1).trans ?_
  by_cases hl : n_a0 = n_a1
  case neg =>
    rw [decide_eq_false hl, show ((n_a0 : Int) != (n_a1 : Int)) = true from bne_iff_ne.2 (by omega)]
    rfl
  subst hl
  rw [decide_eq_true rfl, show ((n_a0 : Int) != (n_a0 : Int)) = false from bne_self_eq_false _]
  simp only [cond_false, Bool.true_and]
  have hb : sameB a0 a1 = true ↔ ∀ k, k < n_a0 → (fun k => sameB (a0.extract (k * 2) (k * 2 + 2)) (a1.extract (k * 2) (k * 2 + 2))) k = true := by
    constructor
    · intro h k hk
      rw [sameB_iff.1 h]
      exact sameB_self _
    · intro h
      refine sameB_iff.2 ?_
      exact ext_parts (n := n_a0) (m := 2) (by omega) s1 t1 (fun k hk => sameB_iff.1 (h k hk))
  refine (iter_first (g := slices_Equal__impl_Find_impl_Find_g0 Try.prog b_a0 n_a0 a0 b_a1 n_a0 a1) (fun k => (false, (k : Int))) (fun k => sameB (a0.extract (k * 2) (k * 2 + 2)) (a1.extract (k * 2) (k * 2 + 2))) n_a0 (N := 18446744073709551616) (xd := .done (false, (n_a0 : Int))) (by omega) (fun k hk hp => by
    have h1 : decide ((k : Int) < (n_a0 : Int)) = true := decide_eq_true (by omega)
    have h0 : decide (0 ≤ (k : Int)) = true := decide_eq_true (by omega)
    have h3 : IntKind.i64.wrap ((k : Int) + 1) = ((k + 1 : Nat) : Int) := by rw [IntWalk.i64_in _ (by omega)]; omega
    have hp' : sameB (a0.extract (k * 2) (k * 2 + 2)) (a1.extract (k * 2) (k * 2 + 2)) = true := hp
    simp only [slices_Equal__impl_Find_impl_Find_g0, h1, h0, Bool.and_self, Int.toNat_natCast, cond_true, h3, hp', Bool.not_true, cond_false]) (by
    have h1 : decide ((n_a0 : Int) < (n_a0 : Int)) = false := decide_eq_false (by omega)
    simp only [slices_Equal__impl_Find_impl_Find_g0, h1, cond_false]) (sameB a0 a1) hb (some (.a (.b true), .none, true)) (some (.a (.b false), .none, true)) rfl (fun k hk hp => by
    refine ⟨.more (false, (k : Int)), ?_, rfl⟩
    have h1 : decide ((k : Int) < (n_a0 : Int)) = true := decide_eq_true (by omega)
    have h0 : decide (0 ≤ (k : Int)) = true := decide_eq_true (by omega)
    have hp' : sameB (a0.extract (k * 2) (k * 2 + 2)) (a1.extract (k * 2) (k * 2 + 2)) = false := hp
    simp only [slices_Equal__impl_Find_impl_Find_g0, h1, h0, Bool.and_self, Int.toNat_natCast, cond_true, hp', Bool.not_false])).trans ?_
  cases sameB a0 a1 <;> rfl
noncomputable def slices_Equal__impl_Find_impl_Find_con : Con := fun args h => match args, h with
  | [.l 0, .l 1], [.sl b_a0 n_a0 a0 59, .sl b_a1 n_a1 a1 59] => some (.a (.b ((decide (n_a0 = n_a1) && sameB a0 a1))), .none, true)
  | _, _ => none
theorem slices_Equal__impl_Find_impl_Find_enter : ∀ args w, (callFunc 24 args).run Try.prog w = .ok (.enter 24 args) w := enter_ok (fn := Try.f24) (by kernel_rfl) (by kernel_rfl) (by kernel_rfl)
theorem slices_Equal__impl_Find_impl_Find_ok : ConOk Try.prog 24 slices_Equal__impl_Find_impl_Find_con := (ans_ok (N := 18446744073709551616) (by kernel_rfl) mkΓ_nil (fn := Try.f24) (by kernel_rfl) (by kernel_rfl) [([4, 13], [])]).of (by
  intro ρ h w args vals r e hA hH hr
  unfold slices_Equal__impl_Find_impl_Find_con at hr
  split at hr
  · rename_i b_a0 n_a0 a0 b_a1 n_a1 a1
    obtain ⟨rfl, hg⟩ := Prod.mk.inj (Option.some.inj hr)
    obtain ⟨rfl, hg2⟩ := Prod.mk.inj hg
    exact slices_Equal__impl_Find_impl_Find_main b_a0 n_a0 a0 b_a1 n_a1 a1 (hH.slw 0 rfl) (hH.slw 1 rfl) hg2
  · cases hr)

theorem laws_szFindS_ans (N : Nat) (a1 : Int) (b_a0 : Option (Option Addr)) (n_a0 : Nat) (a0 : Array Value) : ansV Try.prog (mkΓ []) N Try.f9 [] [.l 0, .i .i64 (a1)] [.sl b_a0 n_a0 a0 61] = (bif decide ((IntKind.i64.wrap (a1 - (n_a0 : Int))) < (0 : Int)) then (some (.a (.i .i64 (-1 : Int)), .none, true))
    else (some (.a (.i .i64 (IntKind.i64.wrap (a1 - (n_a0 : Int)))), .none, true))) := by kernel_rfl

noncomputable def laws_szFindS_v0 (a1 : Int) (b_a0 : Option (Option Addr)) (n_a0 : Nat) (a0 : Array Value) : Int := (bif decide ((IntKind.i64.wrap (a1 - (n_a0 : Int))) < (0 : Int)) then (-1 : Int) else (IntKind.i64.wrap (a1 - (n_a0 : Int))))

theorem laws_szFindS_main (a1 : Int) (b_a0 : Option (Option Addr)) (n_a0 : Nat) (a0 : Array Value) (h_a1 : IntKind.i64.min ≤ a1 ∧ a1 ≤ IntKind.i64.max) (h_a0 : a0.size = n_a0 * (lay Try.prog 61).length ∧ (∀ k, k < n_a0 → WT Try.prog 61 (a0.extract (k * (lay Try.prog 61).length) (k * (lay Try.prog 61).length + (lay Try.prog 61).length))) ∧ n_a0 ≤ 9223372036854775807) (hg : (true) = true) : ansV Try.prog (mkΓ []) 1000 Try.f9 [] [.l 0, .i .i64 (a1)] [.sl b_a0 n_a0 a0 61] = some (.a (.i .i64 (laws_szFindS_v0 a1 b_a0 n_a0 a0)), .none, true) := by
  refine (laws_szFindS_ans 1000 a1 b_a0 n_a0 a0).trans ?_
  unfold laws_szFindS_v0
  revert hg
  generalize (decide ((IntKind.i64.wrap (a1 - (n_a0 : Int))) < (0 : Int))) = b2
  intro hg
  cases b2
  · skip
    first | (simp only [cond_true, cond_false, Bool.and_true, Bool.true_and, Bool.and_false, Bool.false_and]; done) | rfl | exact (nomatch (hg : false = true))
  · skip
    first | (simp only [cond_true, cond_false, Bool.and_true, Bool.true_and, Bool.and_false, Bool.false_and]; done) | rfl | exact (nomatch (hg : false = true))
noncomputable def laws_szFindS_con : Con := fun args h => match args, h with
  | [.l 0, .i .i64 a1], [.sl b_a0 n_a0 a0 61] => some (.a (.i .i64 (laws_szFindS_v0 a1 b_a0 n_a0 a0)), .none, true)
  | _, _ => none
theorem laws_szFindS_enter : ∀ args w, (callFunc 9 args).run Try.prog w = .ok (.enter 9 args) w := enter_ok (fn := Try.f9) (by kernel_rfl) (by kernel_rfl) (by kernel_rfl)
theorem laws_szFindS_ok : ConOk Try.prog 9 laws_szFindS_con := (ans_ok (N := 1000) (by kernel_rfl) mkΓ_nil (fn := Try.f9) (by kernel_rfl) (by kernel_rfl) []).of (by
  intro ρ h w args vals r e hA hH hr
  unfold laws_szFindS_con at hr
  split at hr
  · rename_i a1 b_a0 n_a0 a0
    obtain ⟨rfl, hg⟩ := Prod.mk.inj (Option.some.inj hr)
    obtain ⟨rfl, hg2⟩ := Prod.mk.inj hg
    exact laws_szFindS_main a1 b_a0 n_a0 a0 (hA.rng 1 rfl) (hH.slw 0 rfl) hg2
  · cases hr)

theorem impl_SameFinds_ans (N : Nat) (b_a0 : Option (Option Addr)) (n_a0 : Nat) (a0 : Array Value) (b_a1 : Option (Option Addr)) (n_a1 : Nat) (a1 : Array Value) : ansV Try.prog (mkΓ [(24, con slices_Equal__impl_Find_impl_Find_con)]) N Try.f12 [] [.l 0, .l 1] [.sl b_a0 n_a0 a0 59, .sl b_a1 n_a1 a1 59] = (some (.a (.b ((decide (n_a0 = n_a1) && sameB a0 a1))), .none, true)) := by kernel_rfl



theorem impl_SameFinds_main (b_a0 : Option (Option Addr)) (n_a0 : Nat) (a0 : Array Value) (b_a1 : Option (Option Addr)) (n_a1 : Nat) (a1 : Array Value) (h_a0 : a0.size = n_a0 * (lay Try.prog 59).length ∧ (∀ k, k < n_a0 → WT Try.prog 59 (a0.extract (k * (lay Try.prog 59).length) (k * (lay Try.prog 59).length + (lay Try.prog 59).length))) ∧ n_a0 ≤ 9223372036854775807) (h_a1 : a1.size = n_a1 * (lay Try.prog 59).length ∧ (∀ k, k < n_a1 → WT Try.prog 59 (a1.extract (k * (lay Try.prog 59).length) (k * (lay Try.prog 59).length + (lay Try.prog 59).length))) ∧ n_a1 ≤ 9223372036854775807) (hg : (true) = true) : ansV Try.prog (mkΓ [(24, con slices_Equal__impl_Find_impl_Find_con)]) 1000 Try.f12 [] [.l 0, .l 1] [.sl b_a0 n_a0 a0 59, .sl b_a1 n_a1 a1 59] = some (.a (.b ((decide (n_a0 = n_a1) && sameB a0 a1))), .none, true) := by
  refine (impl_SameFinds_ans 1000 b_a0 n_a0 a0 b_a1 n_a1 a1).trans ?_
  rfl
noncomputable def impl_SameFinds_con : Con := fun args h => match args, h with
  | [.l 0, .l 1], [.sl b_a0 n_a0 a0 59, .sl b_a1 n_a1 a1 59] => some (.a (.b ((decide (n_a0 = n_a1) && sameB a0 a1))), .none, true)
  | _, _ => none
theorem impl_SameFinds_enter : ∀ args w, (callFunc 12 args).run Try.prog w = .ok (.enter 12 args) w := enter_ok (fn := Try.f12) (by kernel_rfl) (by kernel_rfl) (by kernel_rfl)
theorem impl_SameFinds_ok : ConOk Try.prog 12 impl_SameFinds_con := (ans_ok (N := 1000) (by kernel_rfl) (mkΓ_cons (con_ok slices_Equal__impl_Find_impl_Find_ok) slices_Equal__impl_Find_impl_Find_enter mkΓ_nil) (fn := Try.f12) (by kernel_rfl) (by kernel_rfl) []).of (by
  intro ρ h w args vals r e hA hH hr
  unfold impl_SameFinds_con at hr
  split at hr
  · rename_i b_a0 n_a0 a0 b_a1 n_a1 a1
    obtain ⟨rfl, hg⟩ := Prod.mk.inj (Option.some.inj hr)
    obtain ⟨rfl, hg2⟩ := Prod.mk.inj hg
    exact impl_SameFinds_main b_a0 n_a0 a0 b_a1 n_a1 a1 (hH.slw 0 rfl) (hH.slw 1 rfl) hg2
  · cases hr)

end
end Go.Proofs.Ytikgcaljiljikaa
