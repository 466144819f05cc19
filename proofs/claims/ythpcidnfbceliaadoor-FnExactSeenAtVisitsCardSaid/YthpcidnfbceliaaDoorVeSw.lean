/- Lists of finds compared, marked and looked at again. -/
import Derived.Test.YthpcidnfbceliaaDoorProg
import Derived.Test.YthpcidnfbceliaaDoorVeSv
namespace Go.Proofs.YthpcidnfbceliaaDoor
open Go.ChangeShapes Go.WideShapes Go.ChangeAt Go.RowKit Ve
set_option linter.unusedVariables false
set_option linter.unusedSimpArgs false
set_option maxRecDepth 100000
noncomputable section

/-- So many cells with numbers that go up. -/
noncomputable def mkA (n : Nat) (k : Int) : Array Value := ⟨(List.range n).map fun i : Nat => .int .i64 (k + (i : Int))⟩
theorem mkA_size (n : Nat) (k : Int) : (mkA n k).size = n := by simp [mkA]
theorem mkA_at {n : Nat} {k : Int} {i : Nat} (h : i < n) : (mkA n k)[i]? = some (.int .i64 (k + (i : Int))) := by
  unfold mkA; simp [h]
theorem mkA_num {n : Nat} {k : Int} {i : Nat} (h : i < n) : num (mkA n k) i = k + (i : Int) := by unfold num; rw [mkA_at h]


/-- The same, in bytes. -/
noncomputable def mk8 (n : Nat) (k : Int) : Array Value := ⟨(List.range n).map fun i : Nat => .int .i8 (IntKind.i8.wrap (k + (i : Int)))⟩
theorem mk8_size (n : Nat) (k : Int) : (mk8 n k).size = n := by simp [mk8]
theorem mk8_at {n : Nat} {k : Int} {i : Nat} (h : i < n) : (mk8 n k)[i]? = some (.int .i8 (IntKind.i8.wrap (k + (i : Int)))) := by
  unfold mk8; simp [h]
theorem mk8_num {n : Nat} {k : Int} {i : Nat} (h : i < n) : num (mk8 n k) i = IntKind.i8.wrap (k + (i : Int)) := by unfold num; rw [mk8_at h]

noncomputable def laws_markFindS_t0 (a1 : Int) (n_a0 : Nat) (a0 : Array Value) : St := (⟨.a (.l 0) :: .a (.i .i64 (a1)) :: .a (.u) :: .a (.u) :: .a (.i .i64 (0 : Int)) :: .a (.i .i64 (0 : Int)) :: us 23 ([]), [.sl .lent n_a0 a0 64], []⟩ : St)

noncomputable def laws_markFindS_e0 (n_a0 : Nat) : Int × Int × Array Value → LS
  | (y0_1, y0_5, r0_0) => ([.a (.i .i64 (y0_1)), .a (.i .i64 (y0_5))], [.sl .lent n_a0 r0_0 64])

noncomputable def laws_markFindS_x0 (n_a0 : Nat) : Int × Int × Array Value → Exit × LS
  | t => ((.exit 0), (laws_markFindS_e0 n_a0) t)

noncomputable def laws_markFindS_g0 (P : Program) (a1 : Int) (n_a0 : Nat) (a0 : Array Value) : Int × Int × Array Value → Option (Stp (Int × Int × Array Value) (Int × Int × Array Value))
  | (y0_1, y0_5, r0_0) => bif decide (y0_5 < (n_a0 : Int)) then (bif (decide (0 ≤ y0_5) && decide (y0_5 < (n_a0 : Int))) then (bif (decide (0 ≤ y0_5) && decide (y0_5 < (n_a0 : Int))) then (some (.more ((IntKind.i64.wrap ((IntKind.i64.wrap (y0_1 + (1 : Int))) + (1 : Int))), (IntKind.i64.wrap (y0_5 + (1 : Int))), ((r0_0.setIfInBounds (((y0_5).toNat * 2) + 0) (.int .i8 (IntKind.i8.wrap y0_1))).setIfInBounds (((y0_5).toNat * 2) + 1) (.int .i8 (IntKind.i8.wrap (IntKind.i64.wrap (y0_1 + (1 : Int)))))))))
        else (none))
      else (none))
    else (some (.done (y0_1, y0_5, r0_0)))

theorem laws_markFindS_s0 (N : Nat) (a1 : Int) (n_a0 : Nat) (a0 : Array Value) : ∀ t : Int × Int × Array Value, stepV Tryd.prog (mkΓ []) N (cAt (codeOf Tryd.f13) [1, 0, 1, 0, 0]) (pAt (mkPlan (codeOf Tryd.f13) [([1, 5], [0])]).1 [1, 0, 1, 0]) [1, 5] [0] (laws_markFindS_t0 a1 n_a0 a0) ((laws_markFindS_e0 n_a0) t) = mapS (laws_markFindS_e0 n_a0) (laws_markFindS_x0 n_a0) (laws_markFindS_g0 Tryd.prog a1 n_a0 a0 t) := by
  rintro ⟨y0_1, y0_5, r0_0⟩
  refine Eq.trans (b := (bif decide (y0_5 < (n_a0 : Int)) then (bif (decide (0 ≤ y0_5) && decide (y0_5 < (n_a0 : Int))) then (bif (decide (0 ≤ y0_5) && decide (y0_5 < (n_a0 : Int))) then (some (.more ([.a (.i .i64 (IntKind.i64.wrap ((IntKind.i64.wrap (y0_1 + (1 : Int))) + (1 : Int)))), .a (.i .i64 (IntKind.i64.wrap (y0_5 + (1 : Int))))], [.sl .lent n_a0 ((r0_0.setIfInBounds (((y0_5).toNat * 2) + 0) (.int .i8 (IntKind.i8.wrap y0_1))).setIfInBounds (((y0_5).toNat * 2) + 1) (.int .i8 (IntKind.i8.wrap (IntKind.i64.wrap (y0_1 + (1 : Int)))))) 64])))
        else (none))
      else (none))
    else (some (.done ((.exit 0), ([.a (.i .i64 (y0_1)), .a (.i .i64 (y0_5))], [.sl .lent n_a0 r0_0 64])))))) (by kernel_rfl) ?_
  simp only [laws_markFindS_g0, mapS_cond, mapS_more, mapS_done, mapS_none, laws_markFindS_e0, laws_markFindS_x0]

noncomputable def laws_markFindS_k0_0 (P : Program) (N : Nat) (a1 : Int) (n_a0 : Nat) (a0 : Array Value) (z0_1 : Int) (z0_5 : Int) (q0_0 : Array Value) : Option (SV × Eff × Bool) := bif (Nat.blt 0 n_a0) then (some (.a (.i .i64 (z0_1)), .set 0 (.sl .lent n_a0 q0_0 64), true))
    else (none)

theorem laws_markFindS_k0_0_eq (N : Nat) (a1 : Int) (n_a0 : Nat) (a0 : Array Value) (z0_1 : Int) (z0_5 : Int) (q0_0 : Array Value) : (kBlock 0 (kSeq (veC Tryd.prog (mkΓ []) N (cAt (codeOf Tryd.f13) [1, 1]) (pAt (mkPlan (codeOf Tryd.f13) [([1, 5], [0])]).1 [1, 1]) (SV × Eff × Bool)) (finK Tryd.prog [.sl .lent n_a0 a0 64] [.tmp 4]))) (.exit 0) (left (writes (cAt (codeOf Tryd.f13) [1, 0, 1, 0, 0])) [1, 5] [0] (laws_markFindS_t0 a1 n_a0 a0) ([.a (.i .i64 (z0_1)), .a (.i .i64 (z0_5))], [.sl .lent n_a0 q0_0 64])) = laws_markFindS_k0_0 Tryd.prog N a1 n_a0 a0 z0_1 z0_5 q0_0 := by
  refine Eq.trans (b := (bif (Nat.blt 0 n_a0) then (some (.a (.i .i64 (z0_1)), .set 0 (.sl .lent n_a0 q0_0 64), true))
    else (none))) (by kernel_rfl) ?_
  rfl

theorem laws_markFindS_n0 (N : Nat) (a1 : Int) (n_a0 : Nat) (a0 : Array Value) : bindX (iterO (stepV Tryd.prog (mkΓ []) N (cAt (codeOf Tryd.f13) [1, 0, 1, 0, 0]) (pAt (mkPlan (codeOf Tryd.f13) [([1, 5], [0])]).1 [1, 0, 1, 0]) [1, 5] [0] (laws_markFindS_t0 a1 n_a0 a0)) N ([.a (.i .i64 (a1)), .a (.i .i64 (0 : Int))], [.sl .lent n_a0 a0 64])) (fun e s => (kBlock 0 (kSeq (veC Tryd.prog (mkΓ []) N (cAt (codeOf Tryd.f13) [1, 1]) (pAt (mkPlan (codeOf Tryd.f13) [([1, 5], [0])]).1 [1, 1]) (SV × Eff × Bool)) (finK Tryd.prog [.sl .lent n_a0 a0 64] [.tmp 4]))) e (left (writes (cAt (codeOf Tryd.f13) [1, 0, 1, 0, 0])) [1, 5] [0] (laws_markFindS_t0 a1 n_a0 a0) s)) = nodeX (iterO (laws_markFindS_g0 Tryd.prog a1 n_a0 a0) N (a1, (0 : Int), a0)) (fun x => laws_markFindS_k0_0 Tryd.prog N a1 n_a0 a0 x.1 x.2.1 x.2.2) := by
  refine loop_node (laws_markFindS_e0 n_a0) (laws_markFindS_x0 n_a0) _ _ (laws_markFindS_s0 N a1 n_a0 a0) N (a1, (0 : Int), a0) _ _ ?_
  intro x; exact laws_markFindS_k0_0_eq N a1 n_a0 a0 x.1 x.2.1 x.2.2

theorem laws_markFindS_ans (N : Nat) (a1 : Int) (n_a0 : Nat) (a0 : Array Value) : ansV Tryd.prog (mkΓ []) N Tryd.f13 [([1, 5], [0])] [.l 0, .i .i64 (a1)] [.sl .lent n_a0 a0 64] = (nodeX (iterO (laws_markFindS_g0 Tryd.prog a1 n_a0 a0) N (a1, (0 : Int), a0)) (fun x => laws_markFindS_k0_0 Tryd.prog N a1 n_a0 a0 x.1 x.2.1 x.2.2)) := by
  refine Eq.trans (b := (bindX (iterO (stepV Tryd.prog (mkΓ []) N (cAt (codeOf Tryd.f13) [1, 0, 1, 0, 0]) (pAt (mkPlan (codeOf Tryd.f13) [([1, 5], [0])]).1 [1, 0, 1, 0]) [1, 5] [0] (laws_markFindS_t0 a1 n_a0 a0)) N ([.a (.i .i64 (a1)), .a (.i .i64 (0 : Int))], [.sl .lent n_a0 a0 64])) (fun e s => (kBlock 0 (kSeq (veC Tryd.prog (mkΓ []) N (cAt (codeOf Tryd.f13) [1, 1]) (pAt (mkPlan (codeOf Tryd.f13) [([1, 5], [0])]).1 [1, 1]) (SV × Eff × Bool)) (finK Tryd.prog [.sl .lent n_a0 a0 64] [.tmp 4]))) e (left (writes (cAt (codeOf Tryd.f13) [1, 0, 1, 0, 0])) [1, 5] [0] (laws_markFindS_t0 a1 n_a0 a0) s)))) (by kernel_rfl) ?_
  simp only [laws_markFindS_n0 N a1 n_a0 a0]

theorem laws_markFindS_main0 (a1 : Int) (n_a0 : Nat) (a0 : Array Value) (h_a1 : IntKind.i64.min ≤ a1 ∧ a1 ≤ IntKind.i64.max) (h_a0 : a0.size = n_a0 * (lay Tryd.prog 64).length ∧ (∀ k, k < n_a0 → WT Tryd.prog 64 (a0.extract (k * (lay Tryd.prog 64).length) (k * (lay Tryd.prog 64).length + (lay Tryd.prog 64).length))) ∧ n_a0 ≤ 9223372036854775807) (hc0 : (Nat.beq n_a0 0) = false) (hg : (((Nat.ble n_a0 2000000) && (decide (0 ≤ a1) && decide (a1 ≤ 1000000)))) = true) : ansV Tryd.prog (mkΓ []) 18446744073709551616 Tryd.f13 [([1, 5], [0])] [.l 0, .i .i64 (a1)] [.sl .lent n_a0 a0 64] = some (.a (.i .i64 (a1 + ((n_a0 * 2 : Nat) : Int))), .set 0 (.sl .lent n_a0 (mk8 (n_a0 * 2) a1) 64), true) := by
  rw [Bool.and_eq_true, Bool.and_eq_true] at hg
  have hn : n_a0 ≤ 2000000 := Nat.le_of_ble_eq_true hg.1
  have hk0 : 0 ≤ a1 ∧ a1 ≤ 1000000 := ⟨of_decide_eq_true hg.2.1, of_decide_eq_true hg.2.2⟩
  have hm : (lay Tryd.prog 64).length = 2 := by kernel_rfl
  obtain ⟨s1, -, -⟩ := h_a0
  rw [hm] at s1
  have hs : (mk8 (n_a0 * 2) a1).size = a0.size := by rw [mk8_size, s1]
  have hpos : Nat.blt 0 n_a0 = true := by
    have : n_a0 ≠ 0 := fun h => by rw [h] at hc0; cases hc0
    simp [Nat.blt]; omega
  have h := iter_all (g := laws_markFindS_g0 Tryd.prog a1 n_a0 a0) (fun i => (a1 + ((i * 2 : Nat) : Int), (i : Int), upto (mk8 (n_a0 * 2) a1) a0 (i * 2))) (m := n_a0) (x := (a1 + ((n_a0 * 2 : Nat) : Int), (n_a0 : Int), upto (mk8 (n_a0 * 2) a1) a0 (n_a0 * 2))) (N := 18446744073709551616) (fun i hi => by
    have h1 : decide ((i : Int) < (n_a0 : Int)) = true := decide_eq_true (by omega)
    have h2 : decide (0 ≤ (i : Int)) = true := decide_eq_true (by omega)
    have h3 : IntKind.i64.wrap (a1 + ((i * 2 : Nat) : Int) + 1) = a1 + ((i * 2 + 1 : Nat) : Int) := by rw [IntWalk.i64_in _ (by omega)]; omega
    have h4 : IntKind.i64.wrap (a1 + ((i * 2 + 1 : Nat) : Int) + 1) = a1 + (((i + 1) * 2 : Nat) : Int) := by rw [IntWalk.i64_in _ (by omega)]; omega
    have h5 : IntKind.i64.wrap ((i : Int) + 1) = ((i + 1 : Nat) : Int) := by rw [IntWalk.i64_in _ (by omega)]; omega
    have h6 : (upto (mk8 (n_a0 * 2) a1) a0 (i * 2)).setIfInBounds (i * 2 + 0) (.int .i8 (IntKind.i8.wrap (a1 + ((i * 2 : Nat) : Int)))) = upto (mk8 (n_a0 * 2) a1) a0 (i * 2 + 1) := upto_set hs (mk8_at (by omega))
    have h7 : (upto (mk8 (n_a0 * 2) a1) a0 (i * 2 + 1)).setIfInBounds (i * 2 + 1) (.int .i8 (IntKind.i8.wrap (a1 + ((i * 2 + 1 : Nat) : Int)))) = upto (mk8 (n_a0 * 2) a1) a0 ((i + 1) * 2) := by
      rw [show (i + 1) * 2 = i * 2 + 1 + 1 by omega]
      exact upto_set hs (mk8_at (by omega))
    simp only [laws_markFindS_g0, h1, h2, h3, h4, h5, h6, h7, Int.toNat_natCast, Bool.and_self, cond_true]) (by
    have h1 : decide ((n_a0 : Int) < (n_a0 : Int)) = false := decide_eq_false (by omega)
    simp only [laws_markFindS_g0, h1, cond_false]) (by omega)
  refine (laws_markFindS_ans 18446744073709551616 a1 n_a0 a0).trans ?_
  have hz : upto (mk8 (n_a0 * 2) a1) a0 0 = a0 := upto_zero hs
  have hl : upto (mk8 (n_a0 * 2) a1) a0 (n_a0 * 2) = mk8 (n_a0 * 2) a1 := upto_all hs (mk8_size _ _)
  have h0 : a1 + (((0 * 2 : Nat)) : Int) = a1 := by omega
  have h' : iterO (laws_markFindS_g0 Tryd.prog a1 n_a0 a0) 18446744073709551616 (a1, (0 : Int), a0) = some (a1 + ((n_a0 * 2 : Nat) : Int), (n_a0 : Int), mk8 (n_a0 * 2) a1) := by
    have h2 := h
    simp only [Nat.zero_mul, hz, hl] at h2
    have e : a1 + ((0 : Nat) : Int) = a1 := by omega
    rw [e] at h2
    exact h2
  rw [h']
  simp only [nodeX, laws_markFindS_k0_0, hpos, cond_true]
theorem laws_markFindS_main1 (a1 : Int) (n_a0 : Nat) (a0 : Array Value) (h_a1 : IntKind.i64.min ≤ a1 ∧ a1 ≤ IntKind.i64.max) (h_a0 : a0.size = n_a0 * (lay Tryd.prog 64).length ∧ (∀ k, k < n_a0 → WT Tryd.prog 64 (a0.extract (k * (lay Tryd.prog 64).length) (k * (lay Tryd.prog 64).length + (lay Tryd.prog 64).length))) ∧ n_a0 ≤ 9223372036854775807) (hc0 : (Nat.beq n_a0 0) = true) (hg : (true) = true) : ansV Tryd.prog (mkΓ []) 1000 Tryd.f13 [([1, 5], [])] [.l 0, .i .i64 (a1)] [.sl .lent n_a0 a0 64] = some (.a (.i .i64 (a1)), .none, true) := by
  obtain rfl : n_a0 = 0 := Nat.eq_of_beq_eq_true hc0
  kernel_rfl
noncomputable def laws_markFindS_scon : SCon := fun args h => match args, h with
  | [.l 0, .i .i64 a1], [.sl .lent n_a0 a0 64] => .two (Nat.beq n_a0 0) (.one (some (.a (.i .i64 (a1)), .none, true))) (.one (some (.a (.i .i64 (a1 + ((n_a0 * 2 : Nat) : Int))), .set 0 (.sl .lent n_a0 (mk8 (n_a0 * 2) a1) 64), ((Nat.ble n_a0 2000000) && (decide (0 ≤ a1) && decide (a1 ≤ 1000000))))))
  | _, _ => .one none
theorem laws_markFindS_enter : ∀ args w, (callFunc 13 args).run Tryd.prog w = .ok (.enter 13 args) w := enter_ok (fn := Tryd.f13) (by kernel_rfl) (by kernel_rfl) (by kernel_rfl)
theorem laws_markFindS_sok : ConOk Tryd.prog 13 (fun args h => wayRes (laws_markFindS_scon args h)) := by
  intro ρ h w args vals r e hn hr hA hH
  dsimp only at hr
  unfold laws_markFindS_scon at hr
  split at hr
  · rename_i a1 n_a0 a0
    simp only [wayRes] at hr
    cases hc0 : (Nat.beq n_a0 0)
    · rw [hc0] at hr
      simp only [wayRes, cond_true, cond_false] at hr
      obtain ⟨rfl, hg⟩ := Prod.mk.inj (Option.some.inj hr)
      obtain ⟨rfl, hg2⟩ := Prod.mk.inj hg
      exact ((ans_ok (N := 18446744073709551616) (by kernel_rfl) mkΓ_nil (fn := Tryd.f13) (by kernel_rfl) (by kernel_rfl) [([1, 5], [0])])) ρ _ w _ vals _ _ hn ((laws_markFindS_main0 a1 n_a0 a0 (hA.rng 1 rfl) (hH.slw 0 rfl) hc0 hg2)) hA hH
    · rw [hc0] at hr
      simp only [wayRes, cond_true, cond_false] at hr
      obtain ⟨rfl, hg⟩ := Prod.mk.inj (Option.some.inj hr)
      obtain ⟨rfl, hg2⟩ := Prod.mk.inj hg
      exact ((ans_ok (N := 1000) (by kernel_rfl) mkΓ_nil (fn := Tryd.f13) (by kernel_rfl) (by kernel_rfl) [([1, 5], [])])) ρ _ w _ vals _ _ hn ((laws_markFindS_main1 a1 n_a0 a0 (hA.rng 1 rfl) (hH.slw 0 rfl) hc0 hg2)) hA hH
  · simp only [wayRes] at hr
    cases hr

noncomputable def laws_heldFindS_t0 (a1 : Int) (b_a0 : Option (Option Addr)) (n_a0 : Nat) (a0 : Array Value) : St := (⟨.a (.l 0) :: .a (.i .i64 (a1)) :: .a (.u) :: .a (.u) :: .a (.i .i64 (0 : Int)) :: .a (.i .i64 (0 : Int)) :: us 27 ([]), [.sl (.came b_a0) n_a0 a0 64], []⟩ : St)

noncomputable def laws_heldFindS_e0 : Int × Int × Int → LS
  | (y0_1, y0_4, y0_5) => ([.a (.i .i64 (y0_1)), .a (.i .i64 (y0_4)), .a (.i .i64 (y0_5))], [])

noncomputable def laws_heldFindS_x0 : (Stp (Int × Int × Int) (Int × Int × Int)) → Exit × LS
  | .more t => (.ret, laws_heldFindS_e0 t)
  | .done t => ((.exit 0), laws_heldFindS_e0 t)

noncomputable def laws_heldFindS_g0 (P : Program) (a1 : Int) (b_a0 : Option (Option Addr)) (n_a0 : Nat) (a0 : Array Value) : Int × Int × Int → Option (Stp (Int × Int × Int) (Stp (Int × Int × Int) (Int × Int × Int)))
  | (y0_1, y0_4, y0_5) => bif decide (y0_5 < (n_a0 : Int)) then (bif (decide (0 ≤ y0_5) && decide (y0_5 < (n_a0 : Int))) then (bif ((num a0 (((y0_5).toNat * 2) + 0)) != (IntKind.i8.wrap y0_1)) then (some (.done (.more (y0_1, (-1 : Int), y0_5))))
        else (bif (decide (0 ≤ y0_5) && decide (y0_5 < (n_a0 : Int))) then (bif ((num a0 (((y0_5).toNat * 2) + 1)) != (IntKind.i8.wrap (IntKind.i64.wrap (y0_1 + (1 : Int))))) then (some (.done (.more ((IntKind.i64.wrap (y0_1 + (1 : Int))), (-1 : Int), y0_5))))
            else (some (.more ((IntKind.i64.wrap ((IntKind.i64.wrap (y0_1 + (1 : Int))) + (1 : Int))), y0_4, (IntKind.i64.wrap (y0_5 + (1 : Int)))))))
          else (none)))
      else (none))
    else (some (.done (.done (y0_1, y0_4, y0_5))))

theorem laws_heldFindS_s0 (N : Nat) (a1 : Int) (b_a0 : Option (Option Addr)) (n_a0 : Nat) (a0 : Array Value) : ∀ t : Int × Int × Int, stepV Tryd.prog (mkΓ []) N (cAt (codeOf Tryd.f14) [1, 0, 1, 0, 0]) (pAt (mkPlan (codeOf Tryd.f14) [([1, 4, 5], [])]).1 [1, 0, 1, 0]) [1, 4, 5] [] (laws_heldFindS_t0 a1 b_a0 n_a0 a0) (laws_heldFindS_e0 t) = mapS laws_heldFindS_e0 laws_heldFindS_x0 (laws_heldFindS_g0 Tryd.prog a1 b_a0 n_a0 a0 t) := by
  rintro ⟨y0_1, y0_4, y0_5⟩
  refine Eq.trans (b := (bif decide (y0_5 < (n_a0 : Int)) then (bif (decide (0 ≤ y0_5) && decide (y0_5 < (n_a0 : Int))) then (bif ((num a0 (((y0_5).toNat * 2) + 0)) != (IntKind.i8.wrap y0_1)) then (some (.done (.ret, ([.a (.i .i64 (y0_1)), .a (.i .i64 (-1 : Int)), .a (.i .i64 (y0_5))], []))))
        else (bif (decide (0 ≤ y0_5) && decide (y0_5 < (n_a0 : Int))) then (bif ((num a0 (((y0_5).toNat * 2) + 1)) != (IntKind.i8.wrap (IntKind.i64.wrap (y0_1 + (1 : Int))))) then (some (.done (.ret, ([.a (.i .i64 (IntKind.i64.wrap (y0_1 + (1 : Int)))), .a (.i .i64 (-1 : Int)), .a (.i .i64 (y0_5))], []))))
            else (some (.more ([.a (.i .i64 (IntKind.i64.wrap ((IntKind.i64.wrap (y0_1 + (1 : Int))) + (1 : Int)))), .a (.i .i64 (y0_4)), .a (.i .i64 (IntKind.i64.wrap (y0_5 + (1 : Int))))], []))))
          else (none)))
      else (none))
    else (some (.done ((.exit 0), ([.a (.i .i64 (y0_1)), .a (.i .i64 (y0_4)), .a (.i .i64 (y0_5))], [])))))) (by kernel_rfl) ?_
  simp only [laws_heldFindS_g0, mapS_cond, mapS_more, mapS_done, mapS_none, laws_heldFindS_e0, laws_heldFindS_x0]

noncomputable def laws_heldFindS_k0_0 (P : Program) (N : Nat) (a1 : Int) (b_a0 : Option (Option Addr)) (n_a0 : Nat) (a0 : Array Value) (z0_1 : Int) (z0_4 : Int) (z0_5 : Int) : Option (SV × Eff × Bool) := some (.a (.i .i64 (z0_4)), .none, true)

theorem laws_heldFindS_k0_0_eq (N : Nat) (a1 : Int) (b_a0 : Option (Option Addr)) (n_a0 : Nat) (a0 : Array Value) (z0_1 : Int) (z0_4 : Int) (z0_5 : Int) : (kBlock 0 (kSeq (veC Tryd.prog (mkΓ []) N (cAt (codeOf Tryd.f14) [1, 1]) (pAt (mkPlan (codeOf Tryd.f14) [([1, 4, 5], [])]).1 [1, 1]) (SV × Eff × Bool)) (finK Tryd.prog [.sl (.came b_a0) n_a0 a0 64] [.tmp 4]))) .ret (left (writes (cAt (codeOf Tryd.f14) [1, 0, 1, 0, 0])) [1, 4, 5] [] (laws_heldFindS_t0 a1 b_a0 n_a0 a0) ([.a (.i .i64 (z0_1)), .a (.i .i64 (z0_4)), .a (.i .i64 (z0_5))], [])) = laws_heldFindS_k0_0 Tryd.prog N a1 b_a0 n_a0 a0 z0_1 z0_4 z0_5 := by
  refine Eq.trans (b := (some (.a (.i .i64 (z0_4)), .none, true))) (by kernel_rfl) ?_
  rfl

noncomputable def laws_heldFindS_k0_1 (P : Program) (N : Nat) (a1 : Int) (b_a0 : Option (Option Addr)) (n_a0 : Nat) (a0 : Array Value) (z0_1 : Int) (z0_4 : Int) (z0_5 : Int) : Option (SV × Eff × Bool) := some (.a (.i .i64 (z0_1)), .none, true)

theorem laws_heldFindS_k0_1_eq (N : Nat) (a1 : Int) (b_a0 : Option (Option Addr)) (n_a0 : Nat) (a0 : Array Value) (z0_1 : Int) (z0_4 : Int) (z0_5 : Int) : (kBlock 0 (kSeq (veC Tryd.prog (mkΓ []) N (cAt (codeOf Tryd.f14) [1, 1]) (pAt (mkPlan (codeOf Tryd.f14) [([1, 4, 5], [])]).1 [1, 1]) (SV × Eff × Bool)) (finK Tryd.prog [.sl (.came b_a0) n_a0 a0 64] [.tmp 4]))) (.exit 0) (left (writes (cAt (codeOf Tryd.f14) [1, 0, 1, 0, 0])) [1, 4, 5] [] (laws_heldFindS_t0 a1 b_a0 n_a0 a0) ([.a (.i .i64 (z0_1)), .a (.i .i64 (z0_4)), .a (.i .i64 (z0_5))], [])) = laws_heldFindS_k0_1 Tryd.prog N a1 b_a0 n_a0 a0 z0_1 z0_4 z0_5 := by
  refine Eq.trans (b := (some (.a (.i .i64 (z0_1)), .none, true))) (by kernel_rfl) ?_
  rfl

theorem laws_heldFindS_n0 (N : Nat) (a1 : Int) (b_a0 : Option (Option Addr)) (n_a0 : Nat) (a0 : Array Value) : bindX (iterO (stepV Tryd.prog (mkΓ []) N (cAt (codeOf Tryd.f14) [1, 0, 1, 0, 0]) (pAt (mkPlan (codeOf Tryd.f14) [([1, 4, 5], [])]).1 [1, 0, 1, 0]) [1, 4, 5] [] (laws_heldFindS_t0 a1 b_a0 n_a0 a0)) N ([.a (.i .i64 (a1)), .a (.i .i64 (0 : Int)), .a (.i .i64 (0 : Int))], [])) (fun e s => (kBlock 0 (kSeq (veC Tryd.prog (mkΓ []) N (cAt (codeOf Tryd.f14) [1, 1]) (pAt (mkPlan (codeOf Tryd.f14) [([1, 4, 5], [])]).1 [1, 1]) (SV × Eff × Bool)) (finK Tryd.prog [.sl (.came b_a0) n_a0 a0 64] [.tmp 4]))) e (left (writes (cAt (codeOf Tryd.f14) [1, 0, 1, 0, 0])) [1, 4, 5] [] (laws_heldFindS_t0 a1 b_a0 n_a0 a0) s)) = nodeX (iterO (laws_heldFindS_g0 Tryd.prog a1 b_a0 n_a0 a0) N (a1, (0 : Int), (0 : Int))) (st2 (fun x => laws_heldFindS_k0_0 Tryd.prog N a1 b_a0 n_a0 a0 x.1 x.2.1 x.2.2) (fun x => laws_heldFindS_k0_1 Tryd.prog N a1 b_a0 n_a0 a0 x.1 x.2.1 x.2.2)) := by
  refine loop_node laws_heldFindS_e0 laws_heldFindS_x0 _ _ (laws_heldFindS_s0 N a1 b_a0 n_a0 a0) N (a1, (0 : Int), (0 : Int)) _ _ ?_
  intro x
  cases x with
  | more x => exact laws_heldFindS_k0_0_eq N a1 b_a0 n_a0 a0 x.1 x.2.1 x.2.2
  | done x => exact laws_heldFindS_k0_1_eq N a1 b_a0 n_a0 a0 x.1 x.2.1 x.2.2

theorem laws_heldFindS_ans (N : Nat) (a1 : Int) (b_a0 : Option (Option Addr)) (n_a0 : Nat) (a0 : Array Value) : ansV Tryd.prog (mkΓ []) N Tryd.f14 [([1, 4, 5], [])] [.l 0, .i .i64 (a1)] [.sl (.came b_a0) n_a0 a0 64] = (nodeX (iterO (laws_heldFindS_g0 Tryd.prog a1 b_a0 n_a0 a0) N (a1, (0 : Int), (0 : Int))) (st2 (fun x => laws_heldFindS_k0_0 Tryd.prog N a1 b_a0 n_a0 a0 x.1 x.2.1 x.2.2) (fun x => laws_heldFindS_k0_1 Tryd.prog N a1 b_a0 n_a0 a0 x.1 x.2.1 x.2.2))) := by
  refine Eq.trans (b := (bindX (iterO (stepV Tryd.prog (mkΓ []) N (cAt (codeOf Tryd.f14) [1, 0, 1, 0, 0]) (pAt (mkPlan (codeOf Tryd.f14) [([1, 4, 5], [])]).1 [1, 0, 1, 0]) [1, 4, 5] [] (laws_heldFindS_t0 a1 b_a0 n_a0 a0)) N ([.a (.i .i64 (a1)), .a (.i .i64 (0 : Int)), .a (.i .i64 (0 : Int))], [])) (fun e s => (kBlock 0 (kSeq (veC Tryd.prog (mkΓ []) N (cAt (codeOf Tryd.f14) [1, 1]) (pAt (mkPlan (codeOf Tryd.f14) [([1, 4, 5], [])]).1 [1, 1]) (SV × Eff × Bool)) (finK Tryd.prog [.sl (.came b_a0) n_a0 a0 64] [.tmp 4]))) e (left (writes (cAt (codeOf Tryd.f14) [1, 0, 1, 0, 0])) [1, 4, 5] [] (laws_heldFindS_t0 a1 b_a0 n_a0 a0) s)))) (by kernel_rfl) ?_
  simp only [laws_heldFindS_n0 N a1 b_a0 n_a0 a0]

theorem laws_heldFindS_main (a1 : Int) (b_a0 : Option (Option Addr)) (n_a0 : Nat) (a0 : Array Value) (h_a1 : IntKind.i64.min ≤ a1 ∧ a1 ≤ IntKind.i64.max) (h_a0 : a0.size = n_a0 * (lay Tryd.prog 64).length ∧ (∀ k, k < n_a0 → WT Tryd.prog 64 (a0.extract (k * (lay Tryd.prog 64).length) (k * (lay Tryd.prog 64).length + (lay Tryd.prog 64).length))) ∧ n_a0 ≤ 9223372036854775807) (hg : (((Nat.ble n_a0 100000) && ((decide (0 ≤ a1) && decide (a1 ≤ 1000000)) && sameB a0 (mk8 (n_a0 * 2) a1)))) = true) : ansV Tryd.prog (mkΓ []) 18446744073709551616 Tryd.f14 [([1, 4, 5], [])] [.l 0, .i .i64 (a1)] [.sl (.came b_a0) n_a0 a0 64] = some (.a (.i .i64 (a1 + ((n_a0 * 2 : Nat) : Int))), .none, true) := by
  rw [Bool.and_eq_true, Bool.and_eq_true, Bool.and_eq_true] at hg
  have hn : n_a0 ≤ 100000 := Nat.le_of_ble_eq_true hg.1
  have hk0 : 0 ≤ a1 ∧ a1 ≤ 1000000 := ⟨of_decide_eq_true hg.2.1.1, of_decide_eq_true hg.2.1.2⟩
  have hA := sameB_iff.1 hg.2.2
  have hnum : ∀ i, i < n_a0 * 2 → (num a0 i != IntKind.i8.wrap (a1 + (i : Int))) = false := fun i hi => by rw [hA, mk8_num hi]; exact bne_self_eq_false _
  have h := iter_all (g := laws_heldFindS_g0 Tryd.prog a1 b_a0 n_a0 a0) (fun i => (a1 + ((i * 2 : Nat) : Int), (0 : Int), (i : Int))) (m := n_a0) (x := .done (a1 + ((n_a0 * 2 : Nat) : Int), (0 : Int), (n_a0 : Int))) (N := 18446744073709551616) (fun i hi => by
    have h1 : decide ((i : Int) < (n_a0 : Int)) = true := decide_eq_true (by omega)
    have h2 : decide (0 ≤ (i : Int)) = true := decide_eq_true (by omega)
    have h3 : IntKind.i64.wrap (a1 + ((i * 2 : Nat) : Int) + 1) = a1 + ((i * 2 + 1 : Nat) : Int) := by rw [IntWalk.i64_in _ (by omega)]; omega
    have h4 : IntKind.i64.wrap (a1 + ((i * 2 + 1 : Nat) : Int) + 1) = a1 + (((i + 1) * 2 : Nat) : Int) := by rw [IntWalk.i64_in _ (by omega)]; omega
    have h5 : IntKind.i64.wrap ((i : Int) + 1) = ((i + 1 : Nat) : Int) := by rw [IntWalk.i64_in _ (by omega)]; omega
    have h6 := hnum (i * 2 + 0) (by omega)
    have h7 := hnum (i * 2 + 1) (by omega)
    rw [show i * 2 + 0 = i * 2 by omega] at h6
    simp only [laws_heldFindS_g0, h1, h2, h3, h4, h5, h6, h7, Nat.add_zero, Int.toNat_natCast, Bool.and_self, cond_true, cond_false]) (by
    have h1 : decide ((n_a0 : Int) < (n_a0 : Int)) = false := decide_eq_false (by omega)
    simp only [laws_heldFindS_g0, h1, cond_false]) (by omega)
  refine (laws_heldFindS_ans 18446744073709551616 a1 b_a0 n_a0 a0).trans ?_
  have h' : iterO (laws_heldFindS_g0 Tryd.prog a1 b_a0 n_a0 a0) 18446744073709551616 (a1, (0 : Int), (0 : Int)) = some (.done (a1 + ((n_a0 * 2 : Nat) : Int), (0 : Int), (n_a0 : Int))) := by
    have h2 := h
    have e : a1 + ((0 * 2 : Nat) : Int) = a1 := by omega
    simp only [e] at h2
    exact h2
  rw [h']
  rfl
noncomputable def laws_heldFindS_con : Con := fun args h => match args, h with
  | [.l 0, .i .i64 a1], [.sl (.came b_a0) n_a0 a0 64] => some (.a (.i .i64 (a1 + ((n_a0 * 2 : Nat) : Int))), .none, ((Nat.ble n_a0 100000) && ((decide (0 ≤ a1) && decide (a1 ≤ 1000000)) && sameB a0 (mk8 (n_a0 * 2) a1))))
  | _, _ => none
theorem laws_heldFindS_enter : ∀ args w, (callFunc 14 args).run Tryd.prog w = .ok (.enter 14 args) w := enter_ok (fn := Tryd.f14) (by kernel_rfl) (by kernel_rfl) (by kernel_rfl)
theorem laws_heldFindS_ok : ConOk Tryd.prog 14 laws_heldFindS_con := (ans_ok (N := 18446744073709551616) (by kernel_rfl) mkΓ_nil (fn := Tryd.f14) (by kernel_rfl) (by kernel_rfl) [([1, 4, 5], [])]).of (by
  intro ρ h w args vals r e hA hH hr
  unfold laws_heldFindS_con at hr
  split at hr
  · rename_i a1 b_a0 n_a0 a0
    obtain ⟨rfl, hg⟩ := Prod.mk.inj (Option.some.inj hr)
    obtain ⟨rfl, hg2⟩ := Prod.mk.inj hg
    exact laws_heldFindS_main a1 b_a0 n_a0 a0 (hA.rng 1 rfl) (hH.slw 0 rfl) hg2
  · cases hr)

end
end Go.Proofs.YthpcidnfbceliaaDoor
