/- Slices copied and compared. -/
import Derived.Test.YtafmhcdelokmbaaProg
import Derived.Test.YtafmhcdelokmbaaVeGrid
namespace Go.Proofs.Ytafmhcdelokmbaa
open Go.ChangeShapes Go.WideShapes Go.ChangeAt Go.RowKit Ve
set_option linter.unusedVariables false
set_option linter.unusedSimpArgs false
set_option maxRecDepth 100000
noncomputable section

theorem ext_num {C : Array Value} {b m o : Nat} (ho : o < m) : num (C.extract b (b + m)) o = num C (b + o) := by
  have e2 : (C.extract b (b + m))[o]? = C[b + o]? := by
    simp only [Array.getElem?_extract]
    by_cases h : b + o < C.size
    · rw [if_pos (by omega)]
    · rw [if_neg (by omega), Array.getElem?_eq_none (by omega)]
  unfold num; rw [e2]
theorem sl_int {P : Program} {e : TypeId} {n m : Nat} {C : Array Value} (h : ∀ k, k < n → WT P e (C.extract (k * m) (k * m + m))) {k o : Nat} {kd : IntKind} (hk : k < n) (ho : o < m) (hq : (lay P e)[o]? = some (kN kd)) :
    C[k * m + o]? = some (.int kd (num C (k * m + o))) ∧ kd.min ≤ num C (k * m + o) ∧ num C (k * m + o) ≤ kd.max := by
  have hw := (h k hk).int hq
  rw [ext_num ho] at hw
  refine ⟨?_, hw.2⟩
  have := hw.1
  rw [Array.getElem?_extract] at this
  split at this
  · exact this
  · cases this

noncomputable def laws_toInt64S_e0 (n_a0 : Nat) : Int × Array Value → LS
  | (y0_4, r0_3) => ([.a (.i .i64 (y0_4))], [.sl none ((n_a0 : Int).toNat) r0_3 2])

noncomputable def laws_toInt64S_x0 (n_a0 : Nat) : Int × Array Value → Exit × LS
  | t => ((.exit 0), (laws_toInt64S_e0 n_a0) t)

noncomputable def laws_toInt64S_g0 (P : Program) (b_a0 : Option (Option Addr)) (n_a0 : Nat) (a0 : Array Value) : Int × Array Value → Option (Stp (Int × Array Value) (Int × Array Value))
  | (y0_4, r0_3) => bif decide (y0_4 < (n_a0 : Int)) then (bif (decide (0 ≤ y0_4) && decide (y0_4 < (n_a0 : Int))) then (bif (decide (0 ≤ y0_4) && decide (y0_4 < (((n_a0 : Int).toNat) : Int))) then (some (.more ((IntKind.i64.wrap (y0_4 + (1 : Int))), (r0_3.setIfInBounds ((y0_4).toNat * 1) (.int .i64 (num a0 ((y0_4).toNat * 1)))))))
        else (none))
      else (none))
    else (some (.done (y0_4, r0_3)))

theorem laws_toInt64S_s0 (N : Nat) (b_a0 : Option (Option Addr)) (n_a0 : Nat) (a0 : Array Value) : ∀ t : Int × Array Value, stepV Try.prog (mkΓ []) N (cAt (codeOf Try.f45) [1, 1, 0, 1, 0, 0]) (pAt (mkPlan (codeOf Try.f45) [([4], [3])]).1 [1, 1, 0, 1, 0]) [4] [3] (⟨[.a (.l 0), .a (.u), .a (.v (.slice none 0 0)), .a (.l 3), .a (.i .i64 (0 : Int)), .a (.l 0), .a (.i .i64 (n_a0 : Int)), .a (.l 3), .a (.u), .a (.u), .a (.u), .a (.u), .a (.u), .a (.u), .a (.u), .a (.u), .a (.u), .a (.u), .a (.u), .a (.u), .a (.u), .a (.u)], [.sl b_a0 n_a0 a0 2, .no, .no, .sl none ((n_a0 : Int).toNat) (madeCells (zc Try.prog 2) ((n_a0 : Int).toNat * 1)) 2, .no], []⟩ : St) ((laws_toInt64S_e0 n_a0) t) = mapS (laws_toInt64S_e0 n_a0) (laws_toInt64S_x0 n_a0) (laws_toInt64S_g0 Try.prog b_a0 n_a0 a0 t) := by
  rintro ⟨y0_4, r0_3⟩
  have h : stepV Try.prog (mkΓ []) N (cAt (codeOf Try.f45) [1, 1, 0, 1, 0, 0]) (pAt (mkPlan (codeOf Try.f45) [([4], [3])]).1 [1, 1, 0, 1, 0]) [4] [3] (⟨[.a (.l 0), .a (.u), .a (.v (.slice none 0 0)), .a (.l 3), .a (.i .i64 (0 : Int)), .a (.l 0), .a (.i .i64 (n_a0 : Int)), .a (.l 3), .a (.u), .a (.u), .a (.u), .a (.u), .a (.u), .a (.u), .a (.u), .a (.u), .a (.u), .a (.u), .a (.u), .a (.u), .a (.u), .a (.u)], [.sl b_a0 n_a0 a0 2, .no, .no, .sl none ((n_a0 : Int).toNat) (madeCells (zc Try.prog 2) ((n_a0 : Int).toNat * 1)) 2, .no], []⟩ : St) ([.a (.i .i64 (y0_4))], [.sl none ((n_a0 : Int).toNat) r0_3 2]) = (bif decide (y0_4 < (n_a0 : Int)) then (bif (decide (0 ≤ y0_4) && decide (y0_4 < (n_a0 : Int))) then (bif (decide (0 ≤ y0_4) && decide (y0_4 < (((n_a0 : Int).toNat) : Int))) then (some (.more ([.a (.i .i64 (IntKind.i64.wrap (y0_4 + (1 : Int))))], [.sl none ((n_a0 : Int).toNat) (r0_3.setIfInBounds ((y0_4).toNat * 1) (.int .i64 (num a0 ((y0_4).toNat * 1)))) 2])))
        else (none))
      else (none))
    else (some (.done ((.exit 0), ([.a (.i .i64 (y0_4))], [.sl none ((n_a0 : Int).toNat) r0_3 2]))))) := by kernel_rfl
  refine h.trans ?_
  simp only [laws_toInt64S_g0, mapS_cond, mapS_more, mapS_done, mapS_none, laws_toInt64S_e0, laws_toInt64S_x0]

noncomputable def laws_toInt64S_k0_0 (P : Program) (N : Nat) (b_a0 : Option (Option Addr)) (n_a0 : Nat) (a0 : Array Value) (z0_4 : Int) (q0_3 : Array Value) : Option (SV × Eff × Bool) := some (.a .x, .newS ((n_a0 : Int).toNat) q0_3 2, true)

theorem laws_toInt64S_k0_0_eq (N : Nat) (b_a0 : Option (Option Addr)) (n_a0 : Nat) (a0 : Array Value) (z0_4 : Int) (q0_3 : Array Value) : (kBlock 0 (kSeq (veC Try.prog (mkΓ []) N (cAt (codeOf Try.f45) [1, 1, 1]) (pAt (mkPlan (codeOf Try.f45) [([4], [3])]).1 [1, 1, 1]) (SV × Eff × Bool)) (finK Try.prog [.sl b_a0 n_a0 a0 2] [.tmp 2]))) (.exit 0) (left (writes (cAt (codeOf Try.f45) [1, 1, 0, 1, 0, 0])) [4] [3] (⟨[.a (.l 0), .a (.u), .a (.v (.slice none 0 0)), .a (.l 3), .a (.i .i64 (0 : Int)), .a (.l 0), .a (.i .i64 (n_a0 : Int)), .a (.l 3), .a (.u), .a (.u), .a (.u), .a (.u), .a (.u), .a (.u), .a (.u), .a (.u), .a (.u), .a (.u), .a (.u), .a (.u), .a (.u), .a (.u)], [.sl b_a0 n_a0 a0 2, .no, .no, .sl none ((n_a0 : Int).toNat) (madeCells (zc Try.prog 2) ((n_a0 : Int).toNat * 1)) 2, .no], []⟩ : St) ([.a (.i .i64 (z0_4))], [.sl none ((n_a0 : Int).toNat) q0_3 2])) = laws_toInt64S_k0_0 Try.prog N b_a0 n_a0 a0 z0_4 q0_3 := by
  have h : (kBlock 0 (kSeq (veC Try.prog (mkΓ []) N (cAt (codeOf Try.f45) [1, 1, 1]) (pAt (mkPlan (codeOf Try.f45) [([4], [3])]).1 [1, 1, 1]) (SV × Eff × Bool)) (finK Try.prog [.sl b_a0 n_a0 a0 2] [.tmp 2]))) (.exit 0) (left (writes (cAt (codeOf Try.f45) [1, 1, 0, 1, 0, 0])) [4] [3] (⟨[.a (.l 0), .a (.u), .a (.v (.slice none 0 0)), .a (.l 3), .a (.i .i64 (0 : Int)), .a (.l 0), .a (.i .i64 (n_a0 : Int)), .a (.l 3), .a (.u), .a (.u), .a (.u), .a (.u), .a (.u), .a (.u), .a (.u), .a (.u), .a (.u), .a (.u), .a (.u), .a (.u), .a (.u), .a (.u)], [.sl b_a0 n_a0 a0 2, .no, .no, .sl none ((n_a0 : Int).toNat) (madeCells (zc Try.prog 2) ((n_a0 : Int).toNat * 1)) 2, .no], []⟩ : St) ([.a (.i .i64 (z0_4))], [.sl none ((n_a0 : Int).toNat) q0_3 2])) = (some (.a .x, .newS ((n_a0 : Int).toNat) q0_3 2, true)) := by kernel_rfl
  refine h.trans ?_
  rfl

theorem laws_toInt64S_n0 (N : Nat) (b_a0 : Option (Option Addr)) (n_a0 : Nat) (a0 : Array Value) : bindX (iterO (stepV Try.prog (mkΓ []) N (cAt (codeOf Try.f45) [1, 1, 0, 1, 0, 0]) (pAt (mkPlan (codeOf Try.f45) [([4], [3])]).1 [1, 1, 0, 1, 0]) [4] [3] (⟨[.a (.l 0), .a (.u), .a (.v (.slice none 0 0)), .a (.l 3), .a (.i .i64 (0 : Int)), .a (.l 0), .a (.i .i64 (n_a0 : Int)), .a (.l 3), .a (.u), .a (.u), .a (.u), .a (.u), .a (.u), .a (.u), .a (.u), .a (.u), .a (.u), .a (.u), .a (.u), .a (.u), .a (.u), .a (.u)], [.sl b_a0 n_a0 a0 2, .no, .no, .sl none ((n_a0 : Int).toNat) (madeCells (zc Try.prog 2) ((n_a0 : Int).toNat * 1)) 2, .no], []⟩ : St)) N ([.a (.i .i64 (0 : Int))], [.sl none ((n_a0 : Int).toNat) (madeCells (zc Try.prog 2) ((n_a0 : Int).toNat * 1)) 2])) (fun e s => (kBlock 0 (kSeq (veC Try.prog (mkΓ []) N (cAt (codeOf Try.f45) [1, 1, 1]) (pAt (mkPlan (codeOf Try.f45) [([4], [3])]).1 [1, 1, 1]) (SV × Eff × Bool)) (finK Try.prog [.sl b_a0 n_a0 a0 2] [.tmp 2]))) e (left (writes (cAt (codeOf Try.f45) [1, 1, 0, 1, 0, 0])) [4] [3] (⟨[.a (.l 0), .a (.u), .a (.v (.slice none 0 0)), .a (.l 3), .a (.i .i64 (0 : Int)), .a (.l 0), .a (.i .i64 (n_a0 : Int)), .a (.l 3), .a (.u), .a (.u), .a (.u), .a (.u), .a (.u), .a (.u), .a (.u), .a (.u), .a (.u), .a (.u), .a (.u), .a (.u), .a (.u), .a (.u)], [.sl b_a0 n_a0 a0 2, .no, .no, .sl none ((n_a0 : Int).toNat) (madeCells (zc Try.prog 2) ((n_a0 : Int).toNat * 1)) 2, .no], []⟩ : St) s)) = nodeX (iterO (laws_toInt64S_g0 Try.prog b_a0 n_a0 a0) N ((0 : Int), (madeCells (zc Try.prog 2) ((n_a0 : Int).toNat * 1)))) (fun x => laws_toInt64S_k0_0 Try.prog N b_a0 n_a0 a0 x.1 x.2) := by
  refine loop_node (laws_toInt64S_e0 n_a0) (laws_toInt64S_x0 n_a0) _ _ (laws_toInt64S_s0 N b_a0 n_a0 a0) N ((0 : Int), (madeCells (zc Try.prog 2) ((n_a0 : Int).toNat * 1))) _ _ ?_
  intro x; exact laws_toInt64S_k0_0_eq N b_a0 n_a0 a0 x.1 x.2

theorem laws_toInt64S_ans (N : Nat) (b_a0 : Option (Option Addr)) (n_a0 : Nat) (a0 : Array Value) : ansV Try.prog (mkΓ []) N Try.f45 [([4], [3])] [.l 0] [.sl b_a0 n_a0 a0 2] = (bif (decide (0 ≤ (n_a0 : Int)) && ((n_a0 : Int) == (n_a0 : Int) && decide ((bytesOf Try.prog 2 : Int) * (n_a0 : Int) ≤ 281474976710656))) then (nodeX (iterO (laws_toInt64S_g0 Try.prog b_a0 n_a0 a0) N ((0 : Int), (madeCells (zc Try.prog 2) ((n_a0 : Int).toNat * 1)))) (fun x => laws_toInt64S_k0_0 Try.prog N b_a0 n_a0 a0 x.1 x.2))
    else (none)) := by
  have h : ansV Try.prog (mkΓ []) N Try.f45 [([4], [3])] [.l 0] [.sl b_a0 n_a0 a0 2] = (bif (decide (0 ≤ (n_a0 : Int)) && ((n_a0 : Int) == (n_a0 : Int) && decide ((bytesOf Try.prog 2 : Int) * (n_a0 : Int) ≤ 281474976710656))) then (bindX (iterO (stepV Try.prog (mkΓ []) N (cAt (codeOf Try.f45) [1, 1, 0, 1, 0, 0]) (pAt (mkPlan (codeOf Try.f45) [([4], [3])]).1 [1, 1, 0, 1, 0]) [4] [3] (⟨[.a (.l 0), .a (.u), .a (.v (.slice none 0 0)), .a (.l 3), .a (.i .i64 (0 : Int)), .a (.l 0), .a (.i .i64 (n_a0 : Int)), .a (.l 3), .a (.u), .a (.u), .a (.u), .a (.u), .a (.u), .a (.u), .a (.u), .a (.u), .a (.u), .a (.u), .a (.u), .a (.u), .a (.u), .a (.u)], [.sl b_a0 n_a0 a0 2, .no, .no, .sl none ((n_a0 : Int).toNat) (madeCells (zc Try.prog 2) ((n_a0 : Int).toNat * 1)) 2, .no], []⟩ : St)) N ([.a (.i .i64 (0 : Int))], [.sl none ((n_a0 : Int).toNat) (madeCells (zc Try.prog 2) ((n_a0 : Int).toNat * 1)) 2])) (fun e s => (kBlock 0 (kSeq (veC Try.prog (mkΓ []) N (cAt (codeOf Try.f45) [1, 1, 1]) (pAt (mkPlan (codeOf Try.f45) [([4], [3])]).1 [1, 1, 1]) (SV × Eff × Bool)) (finK Try.prog [.sl b_a0 n_a0 a0 2] [.tmp 2]))) e (left (writes (cAt (codeOf Try.f45) [1, 1, 0, 1, 0, 0])) [4] [3] (⟨[.a (.l 0), .a (.u), .a (.v (.slice none 0 0)), .a (.l 3), .a (.i .i64 (0 : Int)), .a (.l 0), .a (.i .i64 (n_a0 : Int)), .a (.l 3), .a (.u), .a (.u), .a (.u), .a (.u), .a (.u), .a (.u), .a (.u), .a (.u), .a (.u), .a (.u), .a (.u), .a (.u), .a (.u), .a (.u)], [.sl b_a0 n_a0 a0 2, .no, .no, .sl none ((n_a0 : Int).toNat) (madeCells (zc Try.prog 2) ((n_a0 : Int).toNat * 1)) 2, .no], []⟩ : St) s)))
    else (none)) := by kernel_rfl
  refine h.trans ?_
  simp only [laws_toInt64S_n0]

theorem laws_toInt64S_main (b_a0 : Option (Option Addr)) (n_a0 : Nat) (a0 : Array Value) (h_a0 : a0.size = n_a0 * (lay Try.prog 2).length ∧ (∀ k, k < n_a0 → WT Try.prog 2 (a0.extract (k * (lay Try.prog 2).length) (k * (lay Try.prog 2).length + (lay Try.prog 2).length))) ∧ n_a0 ≤ 9223372036854775807) (hg : (decide (n_a0 ≤ 1048576)) = true) : ansV Try.prog (mkΓ []) 18446744073709551616 Try.f45 [([4], [3])] [.l 0] [.sl b_a0 n_a0 a0 2] = some (.a .x, .newS n_a0 a0 2, true) := by
  have hn : n_a0 ≤ 1048576 := of_decide_eq_true hg
  have hm : (lay Try.prog 2).length = 1 := by kernel_rfl
  have hb : bytesOf Try.prog 2 = 8 := by kernel_rfl
  obtain ⟨s1, s2, s3⟩ := h_a0
  rw [hm] at s1 s2
  have hq : (lay Try.prog 2)[0]? = some 3 := by kernel_rfl
  refine (laws_toInt64S_ans 18446744073709551616 b_a0 n_a0 a0).trans ?_
  have hgd : (decide (0 ≤ (n_a0 : Int)) && ((n_a0 : Int) == (n_a0 : Int) && decide ((bytesOf Try.prog 2 : Int) * (n_a0 : Int) ≤ 281474976710656))) = true := by
    rw [hb, decide_eq_true (show (0 : Int) ≤ n_a0 by omega), beq_self_eq_true, decide_eq_true (show (((8 : Nat) : Int)) * (n_a0 : Int) ≤ 281474976710656 by omega)]; rfl
  rw [hgd, cond_true]
  have hs : a0.size = (madeCells (zc Try.prog 2) ((n_a0 : Int).toNat * 1)).size := by rw [size_madeCells, Int.toNat_natCast]; exact s1
  generalize (madeCells (zc Try.prog 2) ((n_a0 : Int).toNat * 1)) = Z at hs ⊢
  have h := iter_all (g := laws_toInt64S_g0 Try.prog b_a0 n_a0 a0) (fun k => ((k : Int), upto a0 Z (k * 1))) (m := n_a0) (x := ((n_a0 : Int), upto a0 Z (n_a0 * 1))) (N := 18446744073709551616) (fun k hk => by
    have h1 : decide ((k : Int) < (n_a0 : Int)) = true := decide_eq_true (by omega)
    have h0 : decide (0 ≤ (k : Int)) = true := decide_eq_true (by omega)
    have h3 : IntKind.i64.wrap ((k : Int) + 1) = ((k + 1 : Nat) : Int) := by rw [IntWalk.i64_in _ (by omega)]; omega
    have h5 : (upto a0 Z (k * 1)).setIfInBounds (k * 1) (.int .i64 (num a0 (k * 1))) = upto a0 Z ((k + 1) * 1) := by
      rw [Nat.add_mul]; exact upto_set hs (sl_int (kd := .i64) (o := 0) s2 hk (by omega) hq).1
    simp only [laws_toInt64S_g0, h1, h0, Bool.and_self, Int.toNat_natCast, cond_true, h3, h5]) (by
    have h1 : decide ((n_a0 : Int) < (n_a0 : Int)) = false := decide_eq_false (by omega)
    simp only [laws_toInt64S_g0, h1, cond_false]) (by omega)
  rw [upto_all hs s1] at h
  simp only [Nat.zero_mul, upto_zero hs] at h
  have h' : iterO (laws_toInt64S_g0 Try.prog b_a0 n_a0 a0) 18446744073709551616 ((0 : Int), Z) = some ((n_a0 : Int), a0) := h
  rw [h']
  show some (_, Eff.newS ((n_a0 : Int).toNat) a0 2, true) = _
  rw [Int.toNat_natCast]
noncomputable def laws_toInt64S_con : Con := fun args h => match args, h with
  | [.l 0], [.sl b_a0 n_a0 a0 2] => some (.a .x, .newS n_a0 a0 2, decide (n_a0 ≤ 1048576))
  | _, _ => none
theorem laws_toInt64S_enter : ∀ args w, (callFunc 45 args).run Try.prog w = .ok (.enter 45 args) w := enter_ok (fn := Try.f45) (by kernel_rfl) (by kernel_rfl) (by kernel_rfl)
theorem laws_toInt64S_ok : ConOk Try.prog 45 laws_toInt64S_con := (ans_ok (N := 18446744073709551616) (by kernel_rfl) mkΓ_nil (fn := Try.f45) (by kernel_rfl) (by kernel_rfl) [([4], [3])]).of (by
  intro ρ h w args vals r e hA hH hr
  unfold laws_toInt64S_con at hr
  split at hr
  · rename_i b_a0 n_a0 a0
    obtain ⟨rfl, hg⟩ := Prod.mk.inj (Option.some.inj hr)
    obtain ⟨rfl, hg2⟩ := Prod.mk.inj hg
    exact laws_toInt64S_main b_a0 n_a0 a0 (hH.slw 0 rfl) hg2
  · cases hr)

noncomputable def laws_eqInt64S_e0 : Bool × Int → LS
  | (y0_4, y0_5) => ([.a (.b (y0_4)), .a (.i .i64 (y0_5))], [])

noncomputable def laws_eqInt64S_x0 : (Stp (Bool × Int) (Bool × Int)) → Exit × LS
  | .more t => (.ret, laws_eqInt64S_e0 t)
  | .done t => ((.exit 0), laws_eqInt64S_e0 t)

noncomputable def laws_eqInt64S_g0 (P : Program) (b_a0 : Option (Option Addr)) (n_a0 : Nat) (a0 : Array Value) (b_a1 : Option (Option Addr)) (n_a1 : Nat) (a1 : Array Value) : Bool × Int → Option (Stp (Bool × Int) (Stp (Bool × Int) (Bool × Int)))
  | (y0_4, y0_5) => bif decide (y0_5 < (n_a0 : Int)) then (bif (decide (0 ≤ y0_5) && decide (y0_5 < (n_a0 : Int))) then (bif (decide (0 ≤ y0_5) && decide (y0_5 < (n_a1 : Int))) then (bif ((num a0 ((y0_5).toNat * 1)) != (num a1 ((y0_5).toNat * 1))) then (some (.done (.more (false, y0_5))))
          else (some (.more (y0_4, (IntKind.i64.wrap (y0_5 + (1 : Int)))))))
        else (none))
      else (none))
    else (some (.done (.done (y0_4, y0_5))))

theorem laws_eqInt64S_s0 (N : Nat) (b_a0 : Option (Option Addr)) (n_a0 : Nat) (a0 : Array Value) (b_a1 : Option (Option Addr)) (n_a1 : Nat) (a1 : Array Value) : ∀ t : Bool × Int, stepV Try.prog (mkΓ []) N (cAt (codeOf Try.f38) [1, 1, 0, 1, 0, 0]) (pAt (mkPlan (codeOf Try.f38) [([4, 5], [])]).1 [1, 1, 0, 1, 0]) [4, 5] [] (⟨[.a (.l 0), .a (.l 1), .a (.u), .a (.u), .a (.b (false)), .a (.i .i64 (0 : Int)), .a (.l 0), .a (.i .i64 (n_a0 : Int)), .a (.l 1), .a (.i .i64 (n_a1 : Int)), .a (.b (((n_a0 : Int) != (n_a1 : Int)))), .a (.u), .a (.u), .a (.u), .a (.u), .a (.u), .a (.u), .a (.u), .a (.u), .a (.u), .a (.u), .a (.u), .a (.u), .a (.u), .a (.u), .a (.u)], [.sl b_a0 n_a0 a0 2, .sl b_a1 n_a1 a1 2], []⟩ : St) (laws_eqInt64S_e0 t) = mapS laws_eqInt64S_e0 laws_eqInt64S_x0 (laws_eqInt64S_g0 Try.prog b_a0 n_a0 a0 b_a1 n_a1 a1 t) := by
  rintro ⟨y0_4, y0_5⟩
  have h : stepV Try.prog (mkΓ []) N (cAt (codeOf Try.f38) [1, 1, 0, 1, 0, 0]) (pAt (mkPlan (codeOf Try.f38) [([4, 5], [])]).1 [1, 1, 0, 1, 0]) [4, 5] [] (⟨[.a (.l 0), .a (.l 1), .a (.u), .a (.u), .a (.b (false)), .a (.i .i64 (0 : Int)), .a (.l 0), .a (.i .i64 (n_a0 : Int)), .a (.l 1), .a (.i .i64 (n_a1 : Int)), .a (.b (((n_a0 : Int) != (n_a1 : Int)))), .a (.u), .a (.u), .a (.u), .a (.u), .a (.u), .a (.u), .a (.u), .a (.u), .a (.u), .a (.u), .a (.u), .a (.u), .a (.u), .a (.u), .a (.u)], [.sl b_a0 n_a0 a0 2, .sl b_a1 n_a1 a1 2], []⟩ : St) ([.a (.b (y0_4)), .a (.i .i64 (y0_5))], []) = (bif decide (y0_5 < (n_a0 : Int)) then (bif (decide (0 ≤ y0_5) && decide (y0_5 < (n_a0 : Int))) then (bif (decide (0 ≤ y0_5) && decide (y0_5 < (n_a1 : Int))) then (bif ((num a0 ((y0_5).toNat * 1)) != (num a1 ((y0_5).toNat * 1))) then (some (.done (.ret, ([.a (.b (false)), .a (.i .i64 (y0_5))], []))))
          else (some (.more ([.a (.b (y0_4)), .a (.i .i64 (IntKind.i64.wrap (y0_5 + (1 : Int))))], []))))
        else (none))
      else (none))
    else (some (.done ((.exit 0), ([.a (.b (y0_4)), .a (.i .i64 (y0_5))], []))))) := by kernel_rfl
  refine h.trans ?_
  simp only [laws_eqInt64S_g0, mapS_cond, mapS_more, mapS_done, mapS_none, laws_eqInt64S_e0, laws_eqInt64S_x0]

noncomputable def laws_eqInt64S_k0_0 (P : Program) (N : Nat) (b_a0 : Option (Option Addr)) (n_a0 : Nat) (a0 : Array Value) (b_a1 : Option (Option Addr)) (n_a1 : Nat) (a1 : Array Value) (z0_4 : Bool) (z0_5 : Int) : Option (SV × Eff × Bool) := some (.a (.b (z0_4)), .none, true)

theorem laws_eqInt64S_k0_0_eq (N : Nat) (b_a0 : Option (Option Addr)) (n_a0 : Nat) (a0 : Array Value) (b_a1 : Option (Option Addr)) (n_a1 : Nat) (a1 : Array Value) (z0_4 : Bool) (z0_5 : Int) : (kBlock 0 (kSeq (veC Try.prog (mkΓ []) N (cAt (codeOf Try.f38) [1, 1, 1]) (pAt (mkPlan (codeOf Try.f38) [([4, 5], [])]).1 [1, 1, 1]) (SV × Eff × Bool)) (finK Try.prog [.sl b_a0 n_a0 a0 2, .sl b_a1 n_a1 a1 2] [.tmp 4]))) .ret (left (writes (cAt (codeOf Try.f38) [1, 1, 0, 1, 0, 0])) [4, 5] [] (⟨[.a (.l 0), .a (.l 1), .a (.u), .a (.u), .a (.b (false)), .a (.i .i64 (0 : Int)), .a (.l 0), .a (.i .i64 (n_a0 : Int)), .a (.l 1), .a (.i .i64 (n_a1 : Int)), .a (.b (((n_a0 : Int) != (n_a1 : Int)))), .a (.u), .a (.u), .a (.u), .a (.u), .a (.u), .a (.u), .a (.u), .a (.u), .a (.u), .a (.u), .a (.u), .a (.u), .a (.u), .a (.u), .a (.u)], [.sl b_a0 n_a0 a0 2, .sl b_a1 n_a1 a1 2], []⟩ : St) ([.a (.b (z0_4)), .a (.i .i64 (z0_5))], [])) = laws_eqInt64S_k0_0 Try.prog N b_a0 n_a0 a0 b_a1 n_a1 a1 z0_4 z0_5 := by
  have h : (kBlock 0 (kSeq (veC Try.prog (mkΓ []) N (cAt (codeOf Try.f38) [1, 1, 1]) (pAt (mkPlan (codeOf Try.f38) [([4, 5], [])]).1 [1, 1, 1]) (SV × Eff × Bool)) (finK Try.prog [.sl b_a0 n_a0 a0 2, .sl b_a1 n_a1 a1 2] [.tmp 4]))) .ret (left (writes (cAt (codeOf Try.f38) [1, 1, 0, 1, 0, 0])) [4, 5] [] (⟨[.a (.l 0), .a (.l 1), .a (.u), .a (.u), .a (.b (false)), .a (.i .i64 (0 : Int)), .a (.l 0), .a (.i .i64 (n_a0 : Int)), .a (.l 1), .a (.i .i64 (n_a1 : Int)), .a (.b (((n_a0 : Int) != (n_a1 : Int)))), .a (.u), .a (.u), .a (.u), .a (.u), .a (.u), .a (.u), .a (.u), .a (.u), .a (.u), .a (.u), .a (.u), .a (.u), .a (.u), .a (.u), .a (.u)], [.sl b_a0 n_a0 a0 2, .sl b_a1 n_a1 a1 2], []⟩ : St) ([.a (.b (z0_4)), .a (.i .i64 (z0_5))], [])) = (some (.a (.b (z0_4)), .none, true)) := by kernel_rfl
  refine h.trans ?_
  rfl

noncomputable def laws_eqInt64S_k0_1 (P : Program) (N : Nat) (b_a0 : Option (Option Addr)) (n_a0 : Nat) (a0 : Array Value) (b_a1 : Option (Option Addr)) (n_a1 : Nat) (a1 : Array Value) (z0_4 : Bool) (z0_5 : Int) : Option (SV × Eff × Bool) := some (.a (.b (true)), .none, true)

theorem laws_eqInt64S_k0_1_eq (N : Nat) (b_a0 : Option (Option Addr)) (n_a0 : Nat) (a0 : Array Value) (b_a1 : Option (Option Addr)) (n_a1 : Nat) (a1 : Array Value) (z0_4 : Bool) (z0_5 : Int) : (kBlock 0 (kSeq (veC Try.prog (mkΓ []) N (cAt (codeOf Try.f38) [1, 1, 1]) (pAt (mkPlan (codeOf Try.f38) [([4, 5], [])]).1 [1, 1, 1]) (SV × Eff × Bool)) (finK Try.prog [.sl b_a0 n_a0 a0 2, .sl b_a1 n_a1 a1 2] [.tmp 4]))) (.exit 0) (left (writes (cAt (codeOf Try.f38) [1, 1, 0, 1, 0, 0])) [4, 5] [] (⟨[.a (.l 0), .a (.l 1), .a (.u), .a (.u), .a (.b (false)), .a (.i .i64 (0 : Int)), .a (.l 0), .a (.i .i64 (n_a0 : Int)), .a (.l 1), .a (.i .i64 (n_a1 : Int)), .a (.b (((n_a0 : Int) != (n_a1 : Int)))), .a (.u), .a (.u), .a (.u), .a (.u), .a (.u), .a (.u), .a (.u), .a (.u), .a (.u), .a (.u), .a (.u), .a (.u), .a (.u), .a (.u), .a (.u)], [.sl b_a0 n_a0 a0 2, .sl b_a1 n_a1 a1 2], []⟩ : St) ([.a (.b (z0_4)), .a (.i .i64 (z0_5))], [])) = laws_eqInt64S_k0_1 Try.prog N b_a0 n_a0 a0 b_a1 n_a1 a1 z0_4 z0_5 := by
  have h : (kBlock 0 (kSeq (veC Try.prog (mkΓ []) N (cAt (codeOf Try.f38) [1, 1, 1]) (pAt (mkPlan (codeOf Try.f38) [([4, 5], [])]).1 [1, 1, 1]) (SV × Eff × Bool)) (finK Try.prog [.sl b_a0 n_a0 a0 2, .sl b_a1 n_a1 a1 2] [.tmp 4]))) (.exit 0) (left (writes (cAt (codeOf Try.f38) [1, 1, 0, 1, 0, 0])) [4, 5] [] (⟨[.a (.l 0), .a (.l 1), .a (.u), .a (.u), .a (.b (false)), .a (.i .i64 (0 : Int)), .a (.l 0), .a (.i .i64 (n_a0 : Int)), .a (.l 1), .a (.i .i64 (n_a1 : Int)), .a (.b (((n_a0 : Int) != (n_a1 : Int)))), .a (.u), .a (.u), .a (.u), .a (.u), .a (.u), .a (.u), .a (.u), .a (.u), .a (.u), .a (.u), .a (.u), .a (.u), .a (.u), .a (.u), .a (.u)], [.sl b_a0 n_a0 a0 2, .sl b_a1 n_a1 a1 2], []⟩ : St) ([.a (.b (z0_4)), .a (.i .i64 (z0_5))], [])) = (some (.a (.b (true)), .none, true)) := by kernel_rfl
  refine h.trans ?_
  rfl

theorem laws_eqInt64S_n0 (N : Nat) (b_a0 : Option (Option Addr)) (n_a0 : Nat) (a0 : Array Value) (b_a1 : Option (Option Addr)) (n_a1 : Nat) (a1 : Array Value) : bindX (iterO (stepV Try.prog (mkΓ []) N (cAt (codeOf Try.f38) [1, 1, 0, 1, 0, 0]) (pAt (mkPlan (codeOf Try.f38) [([4, 5], [])]).1 [1, 1, 0, 1, 0]) [4, 5] [] (⟨[.a (.l 0), .a (.l 1), .a (.u), .a (.u), .a (.b (false)), .a (.i .i64 (0 : Int)), .a (.l 0), .a (.i .i64 (n_a0 : Int)), .a (.l 1), .a (.i .i64 (n_a1 : Int)), .a (.b (((n_a0 : Int) != (n_a1 : Int)))), .a (.u), .a (.u), .a (.u), .a (.u), .a (.u), .a (.u), .a (.u), .a (.u), .a (.u), .a (.u), .a (.u), .a (.u), .a (.u), .a (.u), .a (.u)], [.sl b_a0 n_a0 a0 2, .sl b_a1 n_a1 a1 2], []⟩ : St)) N ([.a (.b (false)), .a (.i .i64 (0 : Int))], [])) (fun e s => (kBlock 0 (kSeq (veC Try.prog (mkΓ []) N (cAt (codeOf Try.f38) [1, 1, 1]) (pAt (mkPlan (codeOf Try.f38) [([4, 5], [])]).1 [1, 1, 1]) (SV × Eff × Bool)) (finK Try.prog [.sl b_a0 n_a0 a0 2, .sl b_a1 n_a1 a1 2] [.tmp 4]))) e (left (writes (cAt (codeOf Try.f38) [1, 1, 0, 1, 0, 0])) [4, 5] [] (⟨[.a (.l 0), .a (.l 1), .a (.u), .a (.u), .a (.b (false)), .a (.i .i64 (0 : Int)), .a (.l 0), .a (.i .i64 (n_a0 : Int)), .a (.l 1), .a (.i .i64 (n_a1 : Int)), .a (.b (((n_a0 : Int) != (n_a1 : Int)))), .a (.u), .a (.u), .a (.u), .a (.u), .a (.u), .a (.u), .a (.u), .a (.u), .a (.u), .a (.u), .a (.u), .a (.u), .a (.u), .a (.u), .a (.u)], [.sl b_a0 n_a0 a0 2, .sl b_a1 n_a1 a1 2], []⟩ : St) s)) = nodeX (iterO (laws_eqInt64S_g0 Try.prog b_a0 n_a0 a0 b_a1 n_a1 a1) N (false, (0 : Int))) (st2 (fun x => laws_eqInt64S_k0_0 Try.prog N b_a0 n_a0 a0 b_a1 n_a1 a1 x.1 x.2) (fun x => laws_eqInt64S_k0_1 Try.prog N b_a0 n_a0 a0 b_a1 n_a1 a1 x.1 x.2)) := by
  refine loop_node laws_eqInt64S_e0 laws_eqInt64S_x0 _ _ (laws_eqInt64S_s0 N b_a0 n_a0 a0 b_a1 n_a1 a1) N (false, (0 : Int)) _ _ ?_
  intro x
  cases x with
  | more x => exact laws_eqInt64S_k0_0_eq N b_a0 n_a0 a0 b_a1 n_a1 a1 x.1 x.2
  | done x => exact laws_eqInt64S_k0_1_eq N b_a0 n_a0 a0 b_a1 n_a1 a1 x.1 x.2

theorem laws_eqInt64S_ans (N : Nat) (b_a0 : Option (Option Addr)) (n_a0 : Nat) (a0 : Array Value) (b_a1 : Option (Option Addr)) (n_a1 : Nat) (a1 : Array Value) : ansV Try.prog (mkΓ []) N Try.f38 [([4, 5], [])] [.l 0, .l 1] [.sl b_a0 n_a0 a0 2, .sl b_a1 n_a1 a1 2] = (bif ((n_a0 : Int) != (n_a1 : Int)) then (some (.a (.b (false)), .none, true))
    else (nodeX (iterO (laws_eqInt64S_g0 Try.prog b_a0 n_a0 a0 b_a1 n_a1 a1) N (false, (0 : Int))) (st2 (fun x => laws_eqInt64S_k0_0 Try.prog N b_a0 n_a0 a0 b_a1 n_a1 a1 x.1 x.2) (fun x => laws_eqInt64S_k0_1 Try.prog N b_a0 n_a0 a0 b_a1 n_a1 a1 x.1 x.2)))) := by
  have h : ansV Try.prog (mkΓ []) N Try.f38 [([4, 5], [])] [.l 0, .l 1] [.sl b_a0 n_a0 a0 2, .sl b_a1 n_a1 a1 2] = (bif ((n_a0 : Int) != (n_a1 : Int)) then (some (.a (.b (false)), .none, true))
    else (bindX (iterO (stepV Try.prog (mkΓ []) N (cAt (codeOf Try.f38) [1, 1, 0, 1, 0, 0]) (pAt (mkPlan (codeOf Try.f38) [([4, 5], [])]).1 [1, 1, 0, 1, 0]) [4, 5] [] (⟨[.a (.l 0), .a (.l 1), .a (.u), .a (.u), .a (.b (false)), .a (.i .i64 (0 : Int)), .a (.l 0), .a (.i .i64 (n_a0 : Int)), .a (.l 1), .a (.i .i64 (n_a1 : Int)), .a (.b (((n_a0 : Int) != (n_a1 : Int)))), .a (.u), .a (.u), .a (.u), .a (.u), .a (.u), .a (.u), .a (.u), .a (.u), .a (.u), .a (.u), .a (.u), .a (.u), .a (.u), .a (.u), .a (.u)], [.sl b_a0 n_a0 a0 2, .sl b_a1 n_a1 a1 2], []⟩ : St)) N ([.a (.b (false)), .a (.i .i64 (0 : Int))], [])) (fun e s => (kBlock 0 (kSeq (veC Try.prog (mkΓ []) N (cAt (codeOf Try.f38) [1, 1, 1]) (pAt (mkPlan (codeOf Try.f38) [([4, 5], [])]).1 [1, 1, 1]) (SV × Eff × Bool)) (finK Try.prog [.sl b_a0 n_a0 a0 2, .sl b_a1 n_a1 a1 2] [.tmp 4]))) e (left (writes (cAt (codeOf Try.f38) [1, 1, 0, 1, 0, 0])) [4, 5] [] (⟨[.a (.l 0), .a (.l 1), .a (.u), .a (.u), .a (.b (false)), .a (.i .i64 (0 : Int)), .a (.l 0), .a (.i .i64 (n_a0 : Int)), .a (.l 1), .a (.i .i64 (n_a1 : Int)), .a (.b (((n_a0 : Int) != (n_a1 : Int)))), .a (.u), .a (.u), .a (.u), .a (.u), .a (.u), .a (.u), .a (.u), .a (.u), .a (.u), .a (.u), .a (.u), .a (.u), .a (.u), .a (.u), .a (.u)], [.sl b_a0 n_a0 a0 2, .sl b_a1 n_a1 a1 2], []⟩ : St) s)))) := by kernel_rfl
  refine h.trans ?_
  simp only [laws_eqInt64S_n0]

theorem laws_eqInt64S_main (b_a0 : Option (Option Addr)) (n_a0 : Nat) (a0 : Array Value) (b_a1 : Option (Option Addr)) (n_a1 : Nat) (a1 : Array Value) (h_a0 : a0.size = n_a0 * (lay Try.prog 2).length ∧ (∀ k, k < n_a0 → WT Try.prog 2 (a0.extract (k * (lay Try.prog 2).length) (k * (lay Try.prog 2).length + (lay Try.prog 2).length))) ∧ n_a0 ≤ 9223372036854775807) (h_a1 : a1.size = n_a1 * (lay Try.prog 2).length ∧ (∀ k, k < n_a1 → WT Try.prog 2 (a1.extract (k * (lay Try.prog 2).length) (k * (lay Try.prog 2).length + (lay Try.prog 2).length))) ∧ n_a1 ≤ 9223372036854775807) (hg : (true) = true) : ansV Try.prog (mkΓ []) 18446744073709551616 Try.f38 [([4, 5], [])] [.l 0, .l 1] [.sl b_a0 n_a0 a0 2, .sl b_a1 n_a1 a1 2] = some (.a (.b ((decide (n_a0 = n_a1) && sameB a0 a1))), .none, true) := by
  have hm : (lay Try.prog 2).length = 1 := by kernel_rfl
  obtain ⟨s1, s2, s3⟩ := h_a0
  obtain ⟨t1, t2, t3⟩ := h_a1
  rw [hm] at s1 s2 t1 t2
  have hq : (lay Try.prog 2)[0]? = some 3 := by kernel_rfl
  refine (laws_eqInt64S_ans 18446744073709551616 b_a0 n_a0 a0 b_a1 n_a1 a1).trans ?_
  by_cases hl : n_a0 = n_a1
  case neg =>
    rw [decide_eq_false hl, show ((n_a0 : Int) != (n_a1 : Int)) = true from bne_iff_ne.2 (by omega)]
    rfl
  subst hl
  rw [decide_eq_true rfl, show ((n_a0 : Int) != (n_a0 : Int)) = false from bne_self_eq_false _]
  simp only [cond_false, Bool.true_and]
  have hb : sameB a0 a1 = true ↔ ∀ k, k < n_a0 → (fun k => (num a0 (k * 1) == num a1 (k * 1))) k = true := by
    constructor
    · intro h k hk
      rw [sameB_iff.1 h]
      exact beq_self_eq_true _
    · intro h
      refine sameB_iff.2 ?_
      refine ext_parts (n := n_a0) (m := 1) (by omega) s1 t1 (fun k hk => ?_)
      have e0 := (sl_int (kd := .i64) (o := 0) s2 hk (by omega) hq).1
      have e1 := (sl_int (kd := .i64) (o := 0) t2 hk (by omega) hq).1
      rw [Nat.add_zero] at e0 e1
      rw [eq_of_beq (h k hk)] at e0
      refine arr_ext fun i => ?_
      rw [Array.getElem?_extract, Array.getElem?_extract, s1, t1]
      by_cases hi : i = 0
      · subst hi; simp only [Nat.add_zero]; rw [e0, e1]
      · rw [if_neg (by omega), if_neg (by omega)]
  refine (iter_first (g := laws_eqInt64S_g0 Try.prog b_a0 n_a0 a0 b_a1 n_a0 a1) (fun k => (false, (k : Int))) (fun k => (num a0 (k * 1) == num a1 (k * 1))) n_a0 (N := 18446744073709551616) (xd := .done (false, (n_a0 : Int))) (by omega) (fun k hk hp => by
    have h1 : decide ((k : Int) < (n_a0 : Int)) = true := decide_eq_true (by omega)
    have h0 : decide (0 ≤ (k : Int)) = true := decide_eq_true (by omega)
    have h3 : IntKind.i64.wrap ((k : Int) + 1) = ((k + 1 : Nat) : Int) := by rw [IntWalk.i64_in _ (by omega)]; omega
    have hp' : (num a0 (k * 1) == num a1 (k * 1)) = true := hp
    simp only [laws_eqInt64S_g0, h1, h0, Bool.and_self, Int.toNat_natCast, cond_true, h3, bne, hp', Bool.not_true, cond_false]) (by
    have h1 : decide ((n_a0 : Int) < (n_a0 : Int)) = false := decide_eq_false (by omega)
    simp only [laws_eqInt64S_g0, h1, cond_false]) (sameB a0 a1) hb (some (.a (.b true), .none, true)) (some (.a (.b false), .none, true)) rfl (fun k hk hp => by
    refine ⟨.more (false, (k : Int)), ?_, rfl⟩
    have h1 : decide ((k : Int) < (n_a0 : Int)) = true := decide_eq_true (by omega)
    have h0 : decide (0 ≤ (k : Int)) = true := decide_eq_true (by omega)
    have hp' : (num a0 (k * 1) == num a1 (k * 1)) = false := hp
    simp only [laws_eqInt64S_g0, h1, h0, Bool.and_self, Int.toNat_natCast, cond_true, bne, hp', Bool.not_false])).trans ?_
  cases sameB a0 a1 <;> rfl
noncomputable def laws_eqInt64S_con : Con := fun args h => match args, h with
  | [.l 0, .l 1], [.sl b_a0 n_a0 a0 2, .sl b_a1 n_a1 a1 2] => some (.a (.b ((decide (n_a0 = n_a1) && sameB a0 a1))), .none, true)
  | _, _ => none
theorem laws_eqInt64S_enter : ∀ args w, (callFunc 38 args).run Try.prog w = .ok (.enter 38 args) w := enter_ok (fn := Try.f38) (by kernel_rfl) (by kernel_rfl) (by kernel_rfl)
theorem laws_eqInt64S_ok : ConOk Try.prog 38 laws_eqInt64S_con := (ans_ok (N := 18446744073709551616) (by kernel_rfl) mkΓ_nil (fn := Try.f38) (by kernel_rfl) (by kernel_rfl) [([4, 5], [])]).of (by
  intro ρ h w args vals r e hA hH hr
  unfold laws_eqInt64S_con at hr
  split at hr
  · rename_i b_a0 n_a0 a0 b_a1 n_a1 a1
    obtain ⟨rfl, hg⟩ := Prod.mk.inj (Option.some.inj hr)
    obtain ⟨rfl, hg2⟩ := Prod.mk.inj hg
    exact laws_eqInt64S_main b_a0 n_a0 a0 b_a1 n_a1 a1 (hH.slw 0 rfl) (hH.slw 1 rfl) hg2
  · cases hr)

end
end Go.Proofs.Ytafmhcdelokmbaa
