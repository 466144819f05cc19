/- Bounds that are checked, and what they prove. -/
import Derived.Test.YtmkkckhfghomfaaProg
import Derived.Test.YtmkkckhfghomfaaVeBnC
namespace Go.Proofs.Ytmkkckhfghomfaa
open Go.ChangeShapes Go.WideShapes Go.ChangeAt Go.RowKit Ve
set_option linter.unusedVariables false
set_option linter.unusedSimpArgs false
set_option maxRecDepth 100000
noncomputable section
noncomputable def laws_toInt64A36_e0 : Int × Array Value → LS
  | (y0_4, r0_2) => ([.a (.i .i64 (y0_4))], [.row r0_2 61])

noncomputable def laws_toInt64A36_x0 : Int × Array Value → Exit × LS
  | t => ((.exit 0), laws_toInt64A36_e0 t)

noncomputable def laws_toInt64A36_g0 (P : Program) (a0 : Array Value) : Int × Array Value → Option (Stp (Int × Array Value) (Int × Array Value))
  | (y0_4, r0_2) => bif decide (y0_4 < (36 : Int)) then (bif (decide (0 ≤ y0_4) && decide (y0_4 < 36)) then (bif (decide (0 ≤ y0_4) && decide (y0_4 < 36)) then (some (.more ((IntKind.i64.wrap (y0_4 + (1 : Int))), (r0_2.setIfInBounds ((y0_4).toNat * 1) (.int .i64 (num a0 ((y0_4).toNat * 1)))))))
        else (none))
      else (none))
    else (some (.done (y0_4, r0_2)))

theorem laws_toInt64A36_s0 (N : Nat) (a0 : Array Value) : ∀ t : Int × Array Value, stepV Try.prog (mkΓ []) N (cAt (codeOf Try.f59) [1, 1, 0, 1, 0, 0]) (pAt (mkPlan (codeOf Try.f59) [([4], [2])]).1 [1, 1, 0, 1, 0]) [4] [2] (⟨.a (.g a0 61) :: .a (.w 0) :: .a (.w 1) :: .a (.w 2) :: .a (.i .i64 (0 : Int)) :: us 10 ([]), [.row a0 61, .row (zc Try.prog 61) 61, .row (zc Try.prog 61) 61], []⟩ : St) (laws_toInt64A36_e0 t) = mapS laws_toInt64A36_e0 laws_toInt64A36_x0 (laws_toInt64A36_g0 Try.prog a0 t) := by
  rintro ⟨y0_4, r0_2⟩
  refine Eq.trans (b := (bif decide (y0_4 < (36 : Int)) then (bif (decide (0 ≤ y0_4) && decide (y0_4 < 36)) then (bif (decide (0 ≤ y0_4) && decide (y0_4 < 36)) then (some (.more ([.a (.i .i64 (IntKind.i64.wrap (y0_4 + (1 : Int))))], [.row (r0_2.setIfInBounds ((y0_4).toNat * 1) (.int .i64 (num a0 ((y0_4).toNat * 1)))) 61])))
        else (none))
      else (none))
    else (some (.done ((.exit 0), ([.a (.i .i64 (y0_4))], [.row r0_2 61])))))) (by kernel_rfl) ?_
  simp only [laws_toInt64A36_g0, mapS_cond, mapS_more, mapS_done, mapS_none, laws_toInt64A36_e0, laws_toInt64A36_x0]

noncomputable def laws_toInt64A36_k0_0 (P : Program) (N : Nat) (a0 : Array Value) (z0_4 : Int) (q0_2 : Array Value) : Option (SV × Eff × Bool) := some (.a (.g q0_2 61), .none, true)

theorem laws_toInt64A36_k0_0_eq (N : Nat) (a0 : Array Value) (z0_4 : Int) (q0_2 : Array Value) : (kBlock 0 (kSeq (veC Try.prog (mkΓ []) N (cAt (codeOf Try.f59) [1, 1, 1]) (pAt (mkPlan (codeOf Try.f59) [([4], [2])]).1 [1, 1, 1]) (SV × Eff × Bool)) (finK Try.prog [] [.cell 2 61]))) (.exit 0) (left (writes (cAt (codeOf Try.f59) [1, 1, 0, 1, 0, 0])) [4] [2] (⟨.a (.g a0 61) :: .a (.w 0) :: .a (.w 1) :: .a (.w 2) :: .a (.i .i64 (0 : Int)) :: us 10 ([]), [.row a0 61, .row (zc Try.prog 61) 61, .row (zc Try.prog 61) 61], []⟩ : St) ([.a (.i .i64 (z0_4))], [.row q0_2 61])) = laws_toInt64A36_k0_0 Try.prog N a0 z0_4 q0_2 := by
  refine Eq.trans (b := (some (.a (.g q0_2 61), .none, true))) (by kernel_rfl) ?_
  rfl

theorem laws_toInt64A36_n0 (N : Nat) (a0 : Array Value) : bindX (iterO (stepV Try.prog (mkΓ []) N (cAt (codeOf Try.f59) [1, 1, 0, 1, 0, 0]) (pAt (mkPlan (codeOf Try.f59) [([4], [2])]).1 [1, 1, 0, 1, 0]) [4] [2] (⟨.a (.g a0 61) :: .a (.w 0) :: .a (.w 1) :: .a (.w 2) :: .a (.i .i64 (0 : Int)) :: us 10 ([]), [.row a0 61, .row (zc Try.prog 61) 61, .row (zc Try.prog 61) 61], []⟩ : St)) N ([.a (.i .i64 (0 : Int))], [.row (zc Try.prog 61) 61])) (fun e s => (kBlock 0 (kSeq (veC Try.prog (mkΓ []) N (cAt (codeOf Try.f59) [1, 1, 1]) (pAt (mkPlan (codeOf Try.f59) [([4], [2])]).1 [1, 1, 1]) (SV × Eff × Bool)) (finK Try.prog [] [.cell 2 61]))) e (left (writes (cAt (codeOf Try.f59) [1, 1, 0, 1, 0, 0])) [4] [2] (⟨.a (.g a0 61) :: .a (.w 0) :: .a (.w 1) :: .a (.w 2) :: .a (.i .i64 (0 : Int)) :: us 10 ([]), [.row a0 61, .row (zc Try.prog 61) 61, .row (zc Try.prog 61) 61], []⟩ : St) s)) = nodeX (iterO (laws_toInt64A36_g0 Try.prog a0) N ((0 : Int), (zc Try.prog 61))) (fun x => laws_toInt64A36_k0_0 Try.prog N a0 x.1 x.2) := by
  refine loop_node laws_toInt64A36_e0 laws_toInt64A36_x0 _ _ (laws_toInt64A36_s0 N a0) N ((0 : Int), (zc Try.prog 61)) _ _ ?_
  intro x; exact laws_toInt64A36_k0_0_eq N a0 x.1 x.2

theorem laws_toInt64A36_ans (N : Nat) (a0 : Array Value) : ansV Try.prog (mkΓ []) N Try.f59 [([4], [2])] [.g a0 61] [] = (nodeX (iterO (laws_toInt64A36_g0 Try.prog a0) N ((0 : Int), (zc Try.prog 61))) (fun x => laws_toInt64A36_k0_0 Try.prog N a0 x.1 x.2)) := by
  refine Eq.trans (b := (bindX (iterO (stepV Try.prog (mkΓ []) N (cAt (codeOf Try.f59) [1, 1, 0, 1, 0, 0]) (pAt (mkPlan (codeOf Try.f59) [([4], [2])]).1 [1, 1, 0, 1, 0]) [4] [2] (⟨.a (.g a0 61) :: .a (.w 0) :: .a (.w 1) :: .a (.w 2) :: .a (.i .i64 (0 : Int)) :: us 10 ([]), [.row a0 61, .row (zc Try.prog 61) 61, .row (zc Try.prog 61) 61], []⟩ : St)) N ([.a (.i .i64 (0 : Int))], [.row (zc Try.prog 61) 61])) (fun e s => (kBlock 0 (kSeq (veC Try.prog (mkΓ []) N (cAt (codeOf Try.f59) [1, 1, 1]) (pAt (mkPlan (codeOf Try.f59) [([4], [2])]).1 [1, 1, 1]) (SV × Eff × Bool)) (finK Try.prog [] [.cell 2 61]))) e (left (writes (cAt (codeOf Try.f59) [1, 1, 0, 1, 0, 0])) [4] [2] (⟨.a (.g a0 61) :: .a (.w 0) :: .a (.w 1) :: .a (.w 2) :: .a (.i .i64 (0 : Int)) :: us 10 ([]), [.row a0 61, .row (zc Try.prog 61) 61, .row (zc Try.prog 61) 61], []⟩ : St) s)))) (by kernel_rfl) ?_
  simp only [laws_toInt64A36_n0 N a0]

theorem laws_toInt64A36_main (a0 : Array Value) (h_a0 : WT Try.prog 61 a0) (hg : (true) = true) : ansV Try.prog (mkΓ []) 1000 Try.f59 [([4], [2])] [.g a0 61] [] = some (.a (.g a0 61), .none, true) := by
  have hs : a0.size = (zc Try.prog 61).size := by rw [h_a0.layLen]; kernel_rfl
  have hz : a0.size = 36 := by rw [h_a0.layLen]; kernel_rfl
  have hL : ∀ k, k < 36 → (lay Try.prog 61)[k * 1]? = some 3 := by
    intro k hk
    have h : (List.range 36).all (fun k => (lay Try.prog 61)[k * 1]? == some 3) = true := by kernel_rfl
    exact eq_of_beq (List.all_eq_true.1 h k (List.mem_range.2 hk))
  have h := iter_all (g := laws_toInt64A36_g0 Try.prog a0) (fun k => ((k : Int), upto a0 (zc Try.prog 61) (k * 1))) (m := 36) (x := (((36 : Nat) : Int), upto a0 (zc Try.prog 61) (36 * 1))) (N := 1000) (fun k hk => by
    have h1 : decide ((k : Int) < 36) = true := decide_eq_true (by omega)
    have h0 : decide (0 ≤ (k : Int)) = true := decide_eq_true (by omega)
    have h3 : IntKind.i64.wrap ((k : Int) + 1) = ((k + 1 : Nat) : Int) := by rw [IntWalk.i64_in _ (by omega)]; omega
    have h4 : ((k : Int)).toNat = k := Int.toNat_natCast k
    have h5 : (upto a0 (zc Try.prog 61) (k * 1)).setIfInBounds (k * 1) (.int .i64 (num a0 (k * 1))) = upto a0 (zc Try.prog 61) ((k + 1) * 1) := by
      rw [Nat.add_mul]; exact upto_set hs (h_a0.int (k := .i64) (hL k hk)).1
    simp only [laws_toInt64A36_g0, h1, h0, Bool.and_self, h4, cond_true, h3, h5]) (by
    have h1 : decide (((36 : Nat) : Int) < 36) = false := by decide
    simp only [laws_toInt64A36_g0, h1, cond_false]) (by omega)
  simp only [Nat.zero_mul, upto_zero hs, upto_all hs hz] at h
  refine (laws_toInt64A36_ans 1000 a0).trans ?_
  have h' : iterO (laws_toInt64A36_g0 Try.prog a0) 1000 ((0 : Int), (zc Try.prog 61)) = some (((36 : Nat) : Int), a0) := h
  rw [h']
  rfl
noncomputable def laws_toInt64A36_con : Con := fun args h => match args, h with
  | [.g a0 61], [] => some (.a (.g a0 61), .none, true)
  | _, _ => none
theorem laws_toInt64A36_enter : ∀ args w, (callFunc 59 args).run Try.prog w = .ok (.enter 59 args) w := enter_ok (fn := Try.f59) (by kernel_rfl) (by kernel_rfl) (by kernel_rfl)
theorem laws_toInt64A36_ok : ConOk Try.prog 59 laws_toInt64A36_con := (ans_ok (N := 1000) (by kernel_rfl) mkΓ_nil (fn := Try.f59) (by kernel_rfl) (by kernel_rfl) [([4], [2])]).of (by
  intro ρ h w args vals r e hA hH hr
  unfold laws_toInt64A36_con at hr
  split at hr
  · rename_i a0
    obtain ⟨rfl, hg⟩ := Prod.mk.inj (Option.some.inj hr)
    obtain ⟨rfl, hg2⟩ := Prod.mk.inj hg
    exact laws_toInt64A36_main a0 (hA.wt 0 rfl) hg2
  · cases hr)

noncomputable def laws_toBounds_e0 (n_a0 : Nat) : Int × Array Value → LS
  | (y0_4, r0_3) => ([.a (.i .i64 (y0_4))], [.sl .own ((n_a0 : Int).toNat) r0_3 61])

noncomputable def laws_toBounds_x0 (n_a0 : Nat) : Int × Array Value → Exit × LS
  | t => ((.exit 0), (laws_toBounds_e0 n_a0) t)

noncomputable def laws_toBounds_g0 (P : Program) (b_a0 : Option (Option Addr)) (n_a0 : Nat) (a0 : Array Value) : Int × Array Value → Option (Stp (Int × Array Value) (Int × Array Value))
  | (y0_4, r0_3) => bif decide (y0_4 < (n_a0 : Int)) then (bif (decide (0 ≤ y0_4) && decide (y0_4 < (n_a0 : Int))) then (bif (decide (0 ≤ y0_4) && decide (y0_4 < (((n_a0 : Int).toNat) : Int))) then (some (.more ((IntKind.i64.wrap (y0_4 + (1 : Int))), (spl r0_3 ((y0_4).toNat * 36) (a0.extract ((y0_4).toNat * 36) (((y0_4).toNat * 36) + 36)).toList))))
        else (none))
      else (none))
    else (some (.done (y0_4, r0_3)))

theorem laws_toBounds_s0 (N : Nat) (b_a0 : Option (Option Addr)) (n_a0 : Nat) (a0 : Array Value) : ∀ t : Int × Array Value, stepV Try.prog (mkΓ [(59, con laws_toInt64A36_con)]) N (cAt (codeOf Try.f25) [1, 1, 0, 1, 0, 0]) (pAt (mkPlan (codeOf Try.f25) [([4], [3])]).1 [1, 1, 0, 1, 0]) [4] [3] (⟨.a (.l 0) :: .a (.u) :: .a (.v (.slice none 0 0)) :: .a (.l 3) :: .a (.i .i64 (0 : Int)) :: .a (.l 0) :: .a (.i .i64 (n_a0 : Int)) :: .a (.l 3) :: us 15 ([]), [.sl (.came b_a0) n_a0 a0 61, .no, .no, .sl .own ((n_a0 : Int).toNat) (madeCells (zc Try.prog 61) ((n_a0 : Int).toNat * 36)) 61, .no], []⟩ : St) ((laws_toBounds_e0 n_a0) t) = mapS (laws_toBounds_e0 n_a0) (laws_toBounds_x0 n_a0) (laws_toBounds_g0 Try.prog b_a0 n_a0 a0 t) := by
  rintro ⟨y0_4, r0_3⟩
  refine Eq.trans (b := (bif decide (y0_4 < (n_a0 : Int)) then (bif (decide (0 ≤ y0_4) && decide (y0_4 < (n_a0 : Int))) then (bif (decide (0 ≤ y0_4) && decide (y0_4 < (((n_a0 : Int).toNat) : Int))) then (some (.more ([.a (.i .i64 (IntKind.i64.wrap (y0_4 + (1 : Int))))], [.sl .own ((n_a0 : Int).toNat) (spl r0_3 ((y0_4).toNat * 36) (a0.extract ((y0_4).toNat * 36) (((y0_4).toNat * 36) + 36)).toList) 61])))
        else (none))
      else (none))
    else (some (.done ((.exit 0), ([.a (.i .i64 (y0_4))], [.sl .own ((n_a0 : Int).toNat) r0_3 61])))))) (by kernel_rfl) ?_
  simp only [laws_toBounds_g0, mapS_cond, mapS_more, mapS_done, mapS_none, laws_toBounds_e0, laws_toBounds_x0]

noncomputable def laws_toBounds_k0_0 (P : Program) (N : Nat) (b_a0 : Option (Option Addr)) (n_a0 : Nat) (a0 : Array Value) (z0_4 : Int) (q0_3 : Array Value) : Option (SV × Eff × Bool) := some (.a .x, .newS none ((n_a0 : Int).toNat) q0_3 61, true)

theorem laws_toBounds_k0_0_eq (N : Nat) (b_a0 : Option (Option Addr)) (n_a0 : Nat) (a0 : Array Value) (z0_4 : Int) (q0_3 : Array Value) : (kBlock 0 (kSeq (veC Try.prog (mkΓ [(59, con laws_toInt64A36_con)]) N (cAt (codeOf Try.f25) [1, 1, 1]) (pAt (mkPlan (codeOf Try.f25) [([4], [3])]).1 [1, 1, 1]) (SV × Eff × Bool)) (finK Try.prog [.sl (.came b_a0) n_a0 a0 61] [.tmp 2]))) (.exit 0) (left (writes (cAt (codeOf Try.f25) [1, 1, 0, 1, 0, 0])) [4] [3] (⟨.a (.l 0) :: .a (.u) :: .a (.v (.slice none 0 0)) :: .a (.l 3) :: .a (.i .i64 (0 : Int)) :: .a (.l 0) :: .a (.i .i64 (n_a0 : Int)) :: .a (.l 3) :: us 15 ([]), [.sl (.came b_a0) n_a0 a0 61, .no, .no, .sl .own ((n_a0 : Int).toNat) (madeCells (zc Try.prog 61) ((n_a0 : Int).toNat * 36)) 61, .no], []⟩ : St) ([.a (.i .i64 (z0_4))], [.sl .own ((n_a0 : Int).toNat) q0_3 61])) = laws_toBounds_k0_0 Try.prog N b_a0 n_a0 a0 z0_4 q0_3 := by
  refine Eq.trans (b := (some (.a .x, .newS none ((n_a0 : Int).toNat) q0_3 61, true))) (by kernel_rfl) ?_
  rfl

theorem laws_toBounds_n0 (N : Nat) (b_a0 : Option (Option Addr)) (n_a0 : Nat) (a0 : Array Value) : bindX (iterO (stepV Try.prog (mkΓ [(59, con laws_toInt64A36_con)]) N (cAt (codeOf Try.f25) [1, 1, 0, 1, 0, 0]) (pAt (mkPlan (codeOf Try.f25) [([4], [3])]).1 [1, 1, 0, 1, 0]) [4] [3] (⟨.a (.l 0) :: .a (.u) :: .a (.v (.slice none 0 0)) :: .a (.l 3) :: .a (.i .i64 (0 : Int)) :: .a (.l 0) :: .a (.i .i64 (n_a0 : Int)) :: .a (.l 3) :: us 15 ([]), [.sl (.came b_a0) n_a0 a0 61, .no, .no, .sl .own ((n_a0 : Int).toNat) (madeCells (zc Try.prog 61) ((n_a0 : Int).toNat * 36)) 61, .no], []⟩ : St)) N ([.a (.i .i64 (0 : Int))], [.sl .own ((n_a0 : Int).toNat) (madeCells (zc Try.prog 61) ((n_a0 : Int).toNat * 36)) 61])) (fun e s => (kBlock 0 (kSeq (veC Try.prog (mkΓ [(59, con laws_toInt64A36_con)]) N (cAt (codeOf Try.f25) [1, 1, 1]) (pAt (mkPlan (codeOf Try.f25) [([4], [3])]).1 [1, 1, 1]) (SV × Eff × Bool)) (finK Try.prog [.sl (.came b_a0) n_a0 a0 61] [.tmp 2]))) e (left (writes (cAt (codeOf Try.f25) [1, 1, 0, 1, 0, 0])) [4] [3] (⟨.a (.l 0) :: .a (.u) :: .a (.v (.slice none 0 0)) :: .a (.l 3) :: .a (.i .i64 (0 : Int)) :: .a (.l 0) :: .a (.i .i64 (n_a0 : Int)) :: .a (.l 3) :: us 15 ([]), [.sl (.came b_a0) n_a0 a0 61, .no, .no, .sl .own ((n_a0 : Int).toNat) (madeCells (zc Try.prog 61) ((n_a0 : Int).toNat * 36)) 61, .no], []⟩ : St) s)) = nodeX (iterO (laws_toBounds_g0 Try.prog b_a0 n_a0 a0) N ((0 : Int), (madeCells (zc Try.prog 61) ((n_a0 : Int).toNat * 36)))) (fun x => laws_toBounds_k0_0 Try.prog N b_a0 n_a0 a0 x.1 x.2) := by
  refine loop_node (laws_toBounds_e0 n_a0) (laws_toBounds_x0 n_a0) _ _ (laws_toBounds_s0 N b_a0 n_a0 a0) N ((0 : Int), (madeCells (zc Try.prog 61) ((n_a0 : Int).toNat * 36))) _ _ ?_
  intro x; exact laws_toBounds_k0_0_eq N b_a0 n_a0 a0 x.1 x.2

theorem laws_toBounds_ans (N : Nat) (b_a0 : Option (Option Addr)) (n_a0 : Nat) (a0 : Array Value) : ansV Try.prog (mkΓ [(59, con laws_toInt64A36_con)]) N Try.f25 [([4], [3])] [.l 0] [.sl (.came b_a0) n_a0 a0 61] = (bif (decide (0 ≤ (n_a0 : Int)) && ((n_a0 : Int) == (n_a0 : Int) && decide ((bytesOf Try.prog 61 : Int) * (n_a0 : Int) ≤ 281474976710656))) then (nodeX (iterO (laws_toBounds_g0 Try.prog b_a0 n_a0 a0) N ((0 : Int), (madeCells (zc Try.prog 61) ((n_a0 : Int).toNat * 36)))) (fun x => laws_toBounds_k0_0 Try.prog N b_a0 n_a0 a0 x.1 x.2))
    else (none)) := by
  refine Eq.trans (b := (bif (decide (0 ≤ (n_a0 : Int)) && ((n_a0 : Int) == (n_a0 : Int) && decide ((bytesOf Try.prog 61 : Int) * (n_a0 : Int) ≤ 281474976710656))) then (bindX (iterO (stepV Try.prog (mkΓ [(59, con laws_toInt64A36_con)]) N (cAt (codeOf Try.f25) [1, 1, 0, 1, 0, 0]) (pAt (mkPlan (codeOf Try.f25) [([4], [3])]).1 [1, 1, 0, 1, 0]) [4] [3] (⟨.a (.l 0) :: .a (.u) :: .a (.v (.slice none 0 0)) :: .a (.l 3) :: .a (.i .i64 (0 : Int)) :: .a (.l 0) :: .a (.i .i64 (n_a0 : Int)) :: .a (.l 3) :: us 15 ([]), [.sl (.came b_a0) n_a0 a0 61, .no, .no, .sl .own ((n_a0 : Int).toNat) (madeCells (zc Try.prog 61) ((n_a0 : Int).toNat * 36)) 61, .no], []⟩ : St)) N ([.a (.i .i64 (0 : Int))], [.sl .own ((n_a0 : Int).toNat) (madeCells (zc Try.prog 61) ((n_a0 : Int).toNat * 36)) 61])) (fun e s => (kBlock 0 (kSeq (veC Try.prog (mkΓ [(59, con laws_toInt64A36_con)]) N (cAt (codeOf Try.f25) [1, 1, 1]) (pAt (mkPlan (codeOf Try.f25) [([4], [3])]).1 [1, 1, 1]) (SV × Eff × Bool)) (finK Try.prog [.sl (.came b_a0) n_a0 a0 61] [.tmp 2]))) e (left (writes (cAt (codeOf Try.f25) [1, 1, 0, 1, 0, 0])) [4] [3] (⟨.a (.l 0) :: .a (.u) :: .a (.v (.slice none 0 0)) :: .a (.l 3) :: .a (.i .i64 (0 : Int)) :: .a (.l 0) :: .a (.i .i64 (n_a0 : Int)) :: .a (.l 3) :: us 15 ([]), [.sl (.came b_a0) n_a0 a0 61, .no, .no, .sl .own ((n_a0 : Int).toNat) (madeCells (zc Try.prog 61) ((n_a0 : Int).toNat * 36)) 61, .no], []⟩ : St) s)))
    else (none))) (by kernel_rfl) ?_
  simp only [laws_toBounds_n0 N b_a0 n_a0 a0]

theorem laws_toBounds_main (b_a0 : Option (Option Addr)) (n_a0 : Nat) (a0 : Array Value) (h_a0 : a0.size = n_a0 * (lay Try.prog 61).length ∧ (∀ k, k < n_a0 → WT Try.prog 61 (a0.extract (k * (lay Try.prog 61).length) (k * (lay Try.prog 61).length + (lay Try.prog 61).length))) ∧ n_a0 ≤ 9223372036854775807) (hg : (decide (n_a0 ≤ 1048576)) = true) : ansV Try.prog (mkΓ [(59, con laws_toInt64A36_con)]) 18446744073709551616 Try.f25 [([4], [3])] [.l 0] [.sl (.came b_a0) n_a0 a0 61] = some (.a .x, .newS none n_a0 a0 61, true) := by
  have hn : n_a0 ≤ 1048576 := of_decide_eq_true hg
  have hm : (lay Try.prog 61).length = 36 := by kernel_rfl
  have hb : bytesOf Try.prog 61 = 288 := by kernel_rfl
  obtain ⟨s1, s2, s3⟩ := h_a0
  rw [hm] at s1 s2
  have hq : (lay Try.prog 61)[0]? = some 3 := by kernel_rfl
  refine (laws_toBounds_ans 18446744073709551616 b_a0 n_a0 a0).trans ?_
  have hgd : (decide (0 ≤ (n_a0 : Int)) && ((n_a0 : Int) == (n_a0 : Int) && decide ((bytesOf Try.prog 61 : Int) * (n_a0 : Int) ≤ 281474976710656))) = true := by
    rw [hb, decide_eq_true (show (0 : Int) ≤ n_a0 by omega), beq_self_eq_true, decide_eq_true (show (((288 : Nat) : Int)) * (n_a0 : Int) ≤ 281474976710656 by omega)]; rfl
  rw [hgd, cond_true]
  have hs : a0.size = (madeCells (zc Try.prog 61) ((n_a0 : Int).toNat * 36)).size := by rw [size_madeCells, Int.toNat_natCast]; exact s1
  generalize (madeCells (zc Try.prog 61) ((n_a0 : Int).toNat * 36)) = Z at hs ⊢
  have h := iter_all (g := laws_toBounds_g0 Try.prog b_a0 n_a0 a0) (fun k => ((k : Int), upto a0 Z (k * 36))) (m := n_a0) (x := ((n_a0 : Int), upto a0 Z (n_a0 * 36))) (N := 18446744073709551616) (fun k hk => by
    have h1 : decide ((k : Int) < (n_a0 : Int)) = true := decide_eq_true (by omega)
    have h0 : decide (0 ≤ (k : Int)) = true := decide_eq_true (by omega)
    have h3 : IntKind.i64.wrap ((k : Int) + 1) = ((k + 1 : Nat) : Int) := by rw [IntWalk.i64_in _ (by omega)]; omega
    have h5 : spl (upto a0 Z (k * 36)) (k * 36) (a0.extract (k * 36) (k * 36 + 36)).toList = upto a0 Z ((k + 1) * 36) := by
      rw [Nat.add_mul]; exact upto_spl hs (by have : (k + 1) * 36 ≤ n_a0 * 36 := Nat.mul_le_mul_right _ hk; omega) rfl
    simp only [laws_toBounds_g0, h1, h0, Bool.and_self, Int.toNat_natCast, cond_true, h3, h5]) (by
    have h1 : decide ((n_a0 : Int) < (n_a0 : Int)) = false := decide_eq_false (by omega)
    simp only [laws_toBounds_g0, h1, cond_false]) (by omega)
  rw [upto_all hs s1] at h
  simp only [Nat.zero_mul, upto_zero hs] at h
  have h' : iterO (laws_toBounds_g0 Try.prog b_a0 n_a0 a0) 18446744073709551616 ((0 : Int), Z) = some ((n_a0 : Int), a0) := h
  rw [h']
  show some (_, Eff.newS none ((n_a0 : Int).toNat) a0 61, true) = _
  rw [Int.toNat_natCast]
noncomputable def laws_toBounds_con : Con := fun args h => match args, h with
  | [.l 0], [.sl (.came b_a0) n_a0 a0 61] => some (.a .x, .newS none n_a0 a0 61, decide (n_a0 ≤ 1048576))
  | _, _ => none
theorem laws_toBounds_enter : ∀ args w, (callFunc 25 args).run Try.prog w = .ok (.enter 25 args) w := enter_ok (fn := Try.f25) (by kernel_rfl) (by kernel_rfl) (by kernel_rfl)
theorem laws_toBounds_ok : ConOk Try.prog 25 laws_toBounds_con := (ans_ok (N := 18446744073709551616) (by kernel_rfl) (mkΓ_cons (con_ok laws_toInt64A36_ok) laws_toInt64A36_enter mkΓ_nil) (fn := Try.f25) (by kernel_rfl) (by kernel_rfl) [([4], [3])]).of (by
  intro ρ h w args vals r e hA hH hr
  unfold laws_toBounds_con at hr
  split at hr
  · rename_i b_a0 n_a0 a0
    obtain ⟨rfl, hg⟩ := Prod.mk.inj (Option.some.inj hr)
    obtain ⟨rfl, hg2⟩ := Prod.mk.inj hg
    exact laws_toBounds_main b_a0 n_a0 a0 (hH.slw 0 rfl) hg2
  · cases hr)

noncomputable def laws_eqInt64A36_e0 : Bool × Int → LS
  | (y0_4, y0_5) => ([.a (.b (y0_4)), .a (.i .i64 (y0_5))], [])

noncomputable def laws_eqInt64A36_x0 : (Stp (Bool × Int) (Bool × Int)) → Exit × LS
  | .more t => (.ret, laws_eqInt64A36_e0 t)
  | .done t => ((.exit 0), laws_eqInt64A36_e0 t)

noncomputable def laws_eqInt64A36_g0 (P : Program) (a0 : Array Value) (a1 : Array Value) : Bool × Int → Option (Stp (Bool × Int) (Stp (Bool × Int) (Bool × Int)))
  | (y0_4, y0_5) => bif decide (y0_5 < (36 : Int)) then (bif (decide (0 ≤ y0_5) && decide (y0_5 < 36)) then (bif (decide (0 ≤ y0_5) && decide (y0_5 < 36)) then (bif ((num a0 ((y0_5).toNat * 1)) != (num a1 ((y0_5).toNat * 1))) then (some (.done (.more (false, y0_5))))
          else (some (.more (y0_4, (IntKind.i64.wrap (y0_5 + (1 : Int)))))))
        else (none))
      else (none))
    else (some (.done (.done (y0_4, y0_5))))

theorem laws_eqInt64A36_s0 (N : Nat) (a0 : Array Value) (a1 : Array Value) : ∀ t : Bool × Int, stepV Try.prog (mkΓ []) N (cAt (codeOf Try.f37) [1, 0, 1, 0, 0]) (pAt (mkPlan (codeOf Try.f37) [([4, 5], [])]).1 [1, 0, 1, 0]) [4, 5] [] (⟨.a (.g a0 61) :: .a (.g a1 61) :: .a (.w 0) :: .a (.w 1) :: .a (.b (false)) :: .a (.i .i64 (0 : Int)) :: us 11 ([]), [.row a0 61, .row a1 61, .no], []⟩ : St) (laws_eqInt64A36_e0 t) = mapS laws_eqInt64A36_e0 laws_eqInt64A36_x0 (laws_eqInt64A36_g0 Try.prog a0 a1 t) := by
  rintro ⟨y0_4, y0_5⟩
  refine Eq.trans (b := (bif decide (y0_5 < (36 : Int)) then (bif (decide (0 ≤ y0_5) && decide (y0_5 < 36)) then (bif (decide (0 ≤ y0_5) && decide (y0_5 < 36)) then (bif ((num a0 ((y0_5).toNat * 1)) != (num a1 ((y0_5).toNat * 1))) then (some (.done (.ret, ([.a (.b (false)), .a (.i .i64 (y0_5))], []))))
          else (some (.more ([.a (.b (y0_4)), .a (.i .i64 (IntKind.i64.wrap (y0_5 + (1 : Int))))], []))))
        else (none))
      else (none))
    else (some (.done ((.exit 0), ([.a (.b (y0_4)), .a (.i .i64 (y0_5))], [])))))) (by kernel_rfl) ?_
  simp only [laws_eqInt64A36_g0, mapS_cond, mapS_more, mapS_done, mapS_none, laws_eqInt64A36_e0, laws_eqInt64A36_x0]

noncomputable def laws_eqInt64A36_k0_0 (P : Program) (N : Nat) (a0 : Array Value) (a1 : Array Value) (z0_4 : Bool) (z0_5 : Int) : Option (SV × Eff × Bool) := some (.a (.b (z0_4)), .none, true)

theorem laws_eqInt64A36_k0_0_eq (N : Nat) (a0 : Array Value) (a1 : Array Value) (z0_4 : Bool) (z0_5 : Int) : (kBlock 0 (kSeq (veC Try.prog (mkΓ []) N (cAt (codeOf Try.f37) [1, 1]) (pAt (mkPlan (codeOf Try.f37) [([4, 5], [])]).1 [1, 1]) (SV × Eff × Bool)) (finK Try.prog [] [.tmp 4]))) .ret (left (writes (cAt (codeOf Try.f37) [1, 0, 1, 0, 0])) [4, 5] [] (⟨.a (.g a0 61) :: .a (.g a1 61) :: .a (.w 0) :: .a (.w 1) :: .a (.b (false)) :: .a (.i .i64 (0 : Int)) :: us 11 ([]), [.row a0 61, .row a1 61, .no], []⟩ : St) ([.a (.b (z0_4)), .a (.i .i64 (z0_5))], [])) = laws_eqInt64A36_k0_0 Try.prog N a0 a1 z0_4 z0_5 := by
  refine Eq.trans (b := (some (.a (.b (z0_4)), .none, true))) (by kernel_rfl) ?_
  rfl

noncomputable def laws_eqInt64A36_k0_1 (P : Program) (N : Nat) (a0 : Array Value) (a1 : Array Value) (z0_4 : Bool) (z0_5 : Int) : Option (SV × Eff × Bool) := some (.a (.b (true)), .none, true)

theorem laws_eqInt64A36_k0_1_eq (N : Nat) (a0 : Array Value) (a1 : Array Value) (z0_4 : Bool) (z0_5 : Int) : (kBlock 0 (kSeq (veC Try.prog (mkΓ []) N (cAt (codeOf Try.f37) [1, 1]) (pAt (mkPlan (codeOf Try.f37) [([4, 5], [])]).1 [1, 1]) (SV × Eff × Bool)) (finK Try.prog [] [.tmp 4]))) (.exit 0) (left (writes (cAt (codeOf Try.f37) [1, 0, 1, 0, 0])) [4, 5] [] (⟨.a (.g a0 61) :: .a (.g a1 61) :: .a (.w 0) :: .a (.w 1) :: .a (.b (false)) :: .a (.i .i64 (0 : Int)) :: us 11 ([]), [.row a0 61, .row a1 61, .no], []⟩ : St) ([.a (.b (z0_4)), .a (.i .i64 (z0_5))], [])) = laws_eqInt64A36_k0_1 Try.prog N a0 a1 z0_4 z0_5 := by
  refine Eq.trans (b := (some (.a (.b (true)), .none, true))) (by kernel_rfl) ?_
  rfl

theorem laws_eqInt64A36_n0 (N : Nat) (a0 : Array Value) (a1 : Array Value) : bindX (iterO (stepV Try.prog (mkΓ []) N (cAt (codeOf Try.f37) [1, 0, 1, 0, 0]) (pAt (mkPlan (codeOf Try.f37) [([4, 5], [])]).1 [1, 0, 1, 0]) [4, 5] [] (⟨.a (.g a0 61) :: .a (.g a1 61) :: .a (.w 0) :: .a (.w 1) :: .a (.b (false)) :: .a (.i .i64 (0 : Int)) :: us 11 ([]), [.row a0 61, .row a1 61, .no], []⟩ : St)) N ([.a (.b (false)), .a (.i .i64 (0 : Int))], [])) (fun e s => (kBlock 0 (kSeq (veC Try.prog (mkΓ []) N (cAt (codeOf Try.f37) [1, 1]) (pAt (mkPlan (codeOf Try.f37) [([4, 5], [])]).1 [1, 1]) (SV × Eff × Bool)) (finK Try.prog [] [.tmp 4]))) e (left (writes (cAt (codeOf Try.f37) [1, 0, 1, 0, 0])) [4, 5] [] (⟨.a (.g a0 61) :: .a (.g a1 61) :: .a (.w 0) :: .a (.w 1) :: .a (.b (false)) :: .a (.i .i64 (0 : Int)) :: us 11 ([]), [.row a0 61, .row a1 61, .no], []⟩ : St) s)) = nodeX (iterO (laws_eqInt64A36_g0 Try.prog a0 a1) N (false, (0 : Int))) (st2 (fun x => laws_eqInt64A36_k0_0 Try.prog N a0 a1 x.1 x.2) (fun x => laws_eqInt64A36_k0_1 Try.prog N a0 a1 x.1 x.2)) := by
  refine loop_node laws_eqInt64A36_e0 laws_eqInt64A36_x0 _ _ (laws_eqInt64A36_s0 N a0 a1) N (false, (0 : Int)) _ _ ?_
  intro x
  cases x with
  | more x => exact laws_eqInt64A36_k0_0_eq N a0 a1 x.1 x.2
  | done x => exact laws_eqInt64A36_k0_1_eq N a0 a1 x.1 x.2

theorem laws_eqInt64A36_ans (N : Nat) (a0 : Array Value) (a1 : Array Value) : ansV Try.prog (mkΓ []) N Try.f37 [([4, 5], [])] [.g a0 61, .g a1 61] [] = (nodeX (iterO (laws_eqInt64A36_g0 Try.prog a0 a1) N (false, (0 : Int))) (st2 (fun x => laws_eqInt64A36_k0_0 Try.prog N a0 a1 x.1 x.2) (fun x => laws_eqInt64A36_k0_1 Try.prog N a0 a1 x.1 x.2))) := by
  refine Eq.trans (b := (bindX (iterO (stepV Try.prog (mkΓ []) N (cAt (codeOf Try.f37) [1, 0, 1, 0, 0]) (pAt (mkPlan (codeOf Try.f37) [([4, 5], [])]).1 [1, 0, 1, 0]) [4, 5] [] (⟨.a (.g a0 61) :: .a (.g a1 61) :: .a (.w 0) :: .a (.w 1) :: .a (.b (false)) :: .a (.i .i64 (0 : Int)) :: us 11 ([]), [.row a0 61, .row a1 61, .no], []⟩ : St)) N ([.a (.b (false)), .a (.i .i64 (0 : Int))], [])) (fun e s => (kBlock 0 (kSeq (veC Try.prog (mkΓ []) N (cAt (codeOf Try.f37) [1, 1]) (pAt (mkPlan (codeOf Try.f37) [([4, 5], [])]).1 [1, 1]) (SV × Eff × Bool)) (finK Try.prog [] [.tmp 4]))) e (left (writes (cAt (codeOf Try.f37) [1, 0, 1, 0, 0])) [4, 5] [] (⟨.a (.g a0 61) :: .a (.g a1 61) :: .a (.w 0) :: .a (.w 1) :: .a (.b (false)) :: .a (.i .i64 (0 : Int)) :: us 11 ([]), [.row a0 61, .row a1 61, .no], []⟩ : St) s)))) (by kernel_rfl) ?_
  simp only [laws_eqInt64A36_n0 N a0 a1]

theorem laws_eqInt64A36_main (a0 : Array Value) (a1 : Array Value) (h_a0 : WT Try.prog 61 a0) (h_a1 : WT Try.prog 61 a1) (hg : (true) = true) : ansV Try.prog (mkΓ []) 1000 Try.f37 [([4, 5], [])] [.g a0 61, .g a1 61] [] = some (.a (.b (sameB a0 a1)), .none, true) := by
  have hz : a0.size = 36 * 1 := by rw [h_a0.layLen]; kernel_rfl
  have hy : a1.size = 36 * 1 := by rw [h_a1.layLen]; kernel_rfl
  have hL : ∀ k, k < 36 → (lay Try.prog 61)[k * 1]? = some 3 := by
    intro k hk
    have h : (List.range 36).all (fun k => (lay Try.prog 61)[k * 1]? == some 3) = true := by kernel_rfl
    exact eq_of_beq (List.all_eq_true.1 h k (List.mem_range.2 hk))
  have hb : sameB a0 a1 = true ↔ ∀ k, k < 36 → (fun k => (num a0 (k * 1) == num a1 (k * 1))) k = true := by
    constructor
    · intro h k hk
      rw [sameB_iff.1 h]
      exact beq_self_eq_true _
    · intro h
      refine sameB_iff.2 ?_
      refine ext_parts (n := 36) (m := 1) (by omega) hz hy (fun k hk => ?_)
      have e0 := (h_a0.int (k := .i64) (hL k hk)).1
      have e1 := (h_a1.int (k := .i64) (hL k hk)).1
      rw [eq_of_beq (h k hk)] at e0
      refine arr_ext fun i => ?_
      rw [Array.getElem?_extract, Array.getElem?_extract, hz, hy]
      by_cases hi : i = 0
      · subst hi; simp only [Nat.add_zero]; rw [e0, e1]
      · rw [if_neg (by omega), if_neg (by omega)]
  refine (laws_eqInt64A36_ans 1000 a0 a1).trans ?_
  refine (iter_first (g := laws_eqInt64A36_g0 Try.prog a0 a1) (fun k => (false, (k : Int))) (fun k => (num a0 (k * 1) == num a1 (k * 1))) 36 (N := 1000) (xd := .done (false, ((36 : Nat) : Int))) (by omega) (fun k hk hp => by
    have h1 : decide ((k : Int) < 36) = true := decide_eq_true (by omega)
    have h0 : decide (0 ≤ (k : Int)) = true := decide_eq_true (by omega)
    have h3 : IntKind.i64.wrap ((k : Int) + 1) = ((k + 1 : Nat) : Int) := by rw [IntWalk.i64_in _ (by omega)]; omega
    have h4 : ((k : Int)).toNat = k := Int.toNat_natCast k
    have hp' : (num a0 (k * 1) == num a1 (k * 1)) = true := hp
    simp only [laws_eqInt64A36_g0, h1, h0, Bool.and_self, h4, cond_true, h3, bne, hp', Bool.not_true, cond_false]) (by
    have h1 : decide (((36 : Nat) : Int) < 36) = false := by decide
    simp only [laws_eqInt64A36_g0, h1, cond_false]) (sameB a0 a1) hb (some (.a (.b true), .none, true)) (some (.a (.b false), .none, true)) rfl (fun k hk hp => by
    refine ⟨.more (false, (k : Int)), ?_, rfl⟩
    have h1 : decide ((k : Int) < 36) = true := decide_eq_true (by omega)
    have h0 : decide (0 ≤ (k : Int)) = true := decide_eq_true (by omega)
    have h4 : ((k : Int)).toNat = k := Int.toNat_natCast k
    have hp' : (num a0 (k * 1) == num a1 (k * 1)) = false := hp
    simp only [laws_eqInt64A36_g0, h1, h0, Bool.and_self, h4, cond_true, bne, hp', Bool.not_false])).trans ?_
  cases sameB a0 a1 <;> rfl
noncomputable def laws_eqInt64A36_con : Con := fun args h => match args, h with
  | [.g a0 61, .g a1 61], [] => some (.a (.b (sameB a0 a1)), .none, true)
  | _, _ => none
theorem laws_eqInt64A36_enter : ∀ args w, (callFunc 37 args).run Try.prog w = .ok (.enter 37 args) w := enter_ok (fn := Try.f37) (by kernel_rfl) (by kernel_rfl) (by kernel_rfl)
theorem laws_eqInt64A36_ok : ConOk Try.prog 37 laws_eqInt64A36_con := (ans_ok (N := 1000) (by kernel_rfl) mkΓ_nil (fn := Try.f37) (by kernel_rfl) (by kernel_rfl) [([4, 5], [])]).of (by
  intro ρ h w args vals r e hA hH hr
  unfold laws_eqInt64A36_con at hr
  split at hr
  · rename_i a0 a1
    obtain ⟨rfl, hg⟩ := Prod.mk.inj (Option.some.inj hr)
    obtain ⟨rfl, hg2⟩ := Prod.mk.inj hg
    exact laws_eqInt64A36_main a0 a1 (hA.wt 0 rfl) (hA.wt 1 rfl) hg2
  · cases hr)

noncomputable def laws_eqBounds_e0 : Bool × Int → LS
  | (y0_4, y0_5) => ([.a (.b (y0_4)), .a (.i .i64 (y0_5))], [])

noncomputable def laws_eqBounds_x0 : (Stp (Bool × Int) (Bool × Int)) → Exit × LS
  | .more t => (.ret, laws_eqBounds_e0 t)
  | .done t => ((.exit 0), laws_eqBounds_e0 t)

noncomputable def laws_eqBounds_g0 (P : Program) (b_a0 : Option (Option Addr)) (n_a0 : Nat) (a0 : Array Value) (b_a1 : Option (Option Addr)) (n_a1 : Nat) (a1 : Array Value) : Bool × Int → Option (Stp (Bool × Int) (Stp (Bool × Int) (Bool × Int)))
  | (y0_4, y0_5) => bif decide (y0_5 < (n_a0 : Int)) then (bif (decide (0 ≤ y0_5) && decide (y0_5 < (n_a0 : Int))) then (bif (decide (0 ≤ y0_5) && decide (y0_5 < (n_a1 : Int))) then (bif (!(sameB (a0.extract ((y0_5).toNat * 36) (((y0_5).toNat * 36) + 36)) (a1.extract ((y0_5).toNat * 36) (((y0_5).toNat * 36) + 36)))) then (some (.done (.more (false, y0_5))))
          else (some (.more (y0_4, (IntKind.i64.wrap (y0_5 + (1 : Int)))))))
        else (none))
      else (none))
    else (some (.done (.done (y0_4, y0_5))))

theorem laws_eqBounds_s0 (N : Nat) (b_a0 : Option (Option Addr)) (n_a0 : Nat) (a0 : Array Value) (b_a1 : Option (Option Addr)) (n_a1 : Nat) (a1 : Array Value) : ∀ t : Bool × Int, stepV Try.prog (mkΓ [(37, con laws_eqInt64A36_con)]) N (cAt (codeOf Try.f20) [1, 1, 0, 1, 0, 0]) (pAt (mkPlan (codeOf Try.f20) [([4, 5], [])]).1 [1, 1, 0, 1, 0]) [4, 5] [] (⟨.a (.l 0) :: .a (.l 1) :: .a (.u) :: .a (.u) :: .a (.b (false)) :: .a (.i .i64 (0 : Int)) :: .a (.l 0) :: .a (.i .i64 (n_a0 : Int)) :: .a (.l 1) :: .a (.i .i64 (n_a1 : Int)) :: .a (.b (((n_a0 : Int) != (n_a1 : Int)))) :: us 16 ([]), [.sl (.came b_a0) n_a0 a0 61, .sl (.came b_a1) n_a1 a1 61], []⟩ : St) (laws_eqBounds_e0 t) = mapS laws_eqBounds_e0 laws_eqBounds_x0 (laws_eqBounds_g0 Try.prog b_a0 n_a0 a0 b_a1 n_a1 a1 t) := by
  rintro ⟨y0_4, y0_5⟩
  refine Eq.trans (b := (bif decide (y0_5 < (n_a0 : Int)) then (bif (decide (0 ≤ y0_5) && decide (y0_5 < (n_a0 : Int))) then (bif (decide (0 ≤ y0_5) && decide (y0_5 < (n_a1 : Int))) then (bif (!(sameB (a0.extract ((y0_5).toNat * 36) (((y0_5).toNat * 36) + 36)) (a1.extract ((y0_5).toNat * 36) (((y0_5).toNat * 36) + 36)))) then (some (.done (.ret, ([.a (.b (false)), .a (.i .i64 (y0_5))], []))))
          else (some (.more ([.a (.b (y0_4)), .a (.i .i64 (IntKind.i64.wrap (y0_5 + (1 : Int))))], []))))
        else (none))
      else (none))
    else (some (.done ((.exit 0), ([.a (.b (y0_4)), .a (.i .i64 (y0_5))], [])))))) (by kernel_rfl) ?_
  simp only [laws_eqBounds_g0, mapS_cond, mapS_more, mapS_done, mapS_none, laws_eqBounds_e0, laws_eqBounds_x0]

noncomputable def laws_eqBounds_k0_0 (P : Program) (N : Nat) (b_a0 : Option (Option Addr)) (n_a0 : Nat) (a0 : Array Value) (b_a1 : Option (Option Addr)) (n_a1 : Nat) (a1 : Array Value) (z0_4 : Bool) (z0_5 : Int) : Option (SV × Eff × Bool) := some (.a (.b (z0_4)), .none, true)

theorem laws_eqBounds_k0_0_eq (N : Nat) (b_a0 : Option (Option Addr)) (n_a0 : Nat) (a0 : Array Value) (b_a1 : Option (Option Addr)) (n_a1 : Nat) (a1 : Array Value) (z0_4 : Bool) (z0_5 : Int) : (kBlock 0 (kSeq (veC Try.prog (mkΓ [(37, con laws_eqInt64A36_con)]) N (cAt (codeOf Try.f20) [1, 1, 1]) (pAt (mkPlan (codeOf Try.f20) [([4, 5], [])]).1 [1, 1, 1]) (SV × Eff × Bool)) (finK Try.prog [.sl (.came b_a0) n_a0 a0 61, .sl (.came b_a1) n_a1 a1 61] [.tmp 4]))) .ret (left (writes (cAt (codeOf Try.f20) [1, 1, 0, 1, 0, 0])) [4, 5] [] (⟨.a (.l 0) :: .a (.l 1) :: .a (.u) :: .a (.u) :: .a (.b (false)) :: .a (.i .i64 (0 : Int)) :: .a (.l 0) :: .a (.i .i64 (n_a0 : Int)) :: .a (.l 1) :: .a (.i .i64 (n_a1 : Int)) :: .a (.b (((n_a0 : Int) != (n_a1 : Int)))) :: us 16 ([]), [.sl (.came b_a0) n_a0 a0 61, .sl (.came b_a1) n_a1 a1 61], []⟩ : St) ([.a (.b (z0_4)), .a (.i .i64 (z0_5))], [])) = laws_eqBounds_k0_0 Try.prog N b_a0 n_a0 a0 b_a1 n_a1 a1 z0_4 z0_5 := by
  refine Eq.trans (b := (some (.a (.b (z0_4)), .none, true))) (by kernel_rfl) ?_
  rfl

noncomputable def laws_eqBounds_k0_1 (P : Program) (N : Nat) (b_a0 : Option (Option Addr)) (n_a0 : Nat) (a0 : Array Value) (b_a1 : Option (Option Addr)) (n_a1 : Nat) (a1 : Array Value) (z0_4 : Bool) (z0_5 : Int) : Option (SV × Eff × Bool) := some (.a (.b (true)), .none, true)

theorem laws_eqBounds_k0_1_eq (N : Nat) (b_a0 : Option (Option Addr)) (n_a0 : Nat) (a0 : Array Value) (b_a1 : Option (Option Addr)) (n_a1 : Nat) (a1 : Array Value) (z0_4 : Bool) (z0_5 : Int) : (kBlock 0 (kSeq (veC Try.prog (mkΓ [(37, con laws_eqInt64A36_con)]) N (cAt (codeOf Try.f20) [1, 1, 1]) (pAt (mkPlan (codeOf Try.f20) [([4, 5], [])]).1 [1, 1, 1]) (SV × Eff × Bool)) (finK Try.prog [.sl (.came b_a0) n_a0 a0 61, .sl (.came b_a1) n_a1 a1 61] [.tmp 4]))) (.exit 0) (left (writes (cAt (codeOf Try.f20) [1, 1, 0, 1, 0, 0])) [4, 5] [] (⟨.a (.l 0) :: .a (.l 1) :: .a (.u) :: .a (.u) :: .a (.b (false)) :: .a (.i .i64 (0 : Int)) :: .a (.l 0) :: .a (.i .i64 (n_a0 : Int)) :: .a (.l 1) :: .a (.i .i64 (n_a1 : Int)) :: .a (.b (((n_a0 : Int) != (n_a1 : Int)))) :: us 16 ([]), [.sl (.came b_a0) n_a0 a0 61, .sl (.came b_a1) n_a1 a1 61], []⟩ : St) ([.a (.b (z0_4)), .a (.i .i64 (z0_5))], [])) = laws_eqBounds_k0_1 Try.prog N b_a0 n_a0 a0 b_a1 n_a1 a1 z0_4 z0_5 := by
  refine Eq.trans (b := (some (.a (.b (true)), .none, true))) (by kernel_rfl) ?_
  rfl

theorem laws_eqBounds_n0 (N : Nat) (b_a0 : Option (Option Addr)) (n_a0 : Nat) (a0 : Array Value) (b_a1 : Option (Option Addr)) (n_a1 : Nat) (a1 : Array Value) : bindX (iterO (stepV Try.prog (mkΓ [(37, con laws_eqInt64A36_con)]) N (cAt (codeOf Try.f20) [1, 1, 0, 1, 0, 0]) (pAt (mkPlan (codeOf Try.f20) [([4, 5], [])]).1 [1, 1, 0, 1, 0]) [4, 5] [] (⟨.a (.l 0) :: .a (.l 1) :: .a (.u) :: .a (.u) :: .a (.b (false)) :: .a (.i .i64 (0 : Int)) :: .a (.l 0) :: .a (.i .i64 (n_a0 : Int)) :: .a (.l 1) :: .a (.i .i64 (n_a1 : Int)) :: .a (.b (((n_a0 : Int) != (n_a1 : Int)))) :: us 16 ([]), [.sl (.came b_a0) n_a0 a0 61, .sl (.came b_a1) n_a1 a1 61], []⟩ : St)) N ([.a (.b (false)), .a (.i .i64 (0 : Int))], [])) (fun e s => (kBlock 0 (kSeq (veC Try.prog (mkΓ [(37, con laws_eqInt64A36_con)]) N (cAt (codeOf Try.f20) [1, 1, 1]) (pAt (mkPlan (codeOf Try.f20) [([4, 5], [])]).1 [1, 1, 1]) (SV × Eff × Bool)) (finK Try.prog [.sl (.came b_a0) n_a0 a0 61, .sl (.came b_a1) n_a1 a1 61] [.tmp 4]))) e (left (writes (cAt (codeOf Try.f20) [1, 1, 0, 1, 0, 0])) [4, 5] [] (⟨.a (.l 0) :: .a (.l 1) :: .a (.u) :: .a (.u) :: .a (.b (false)) :: .a (.i .i64 (0 : Int)) :: .a (.l 0) :: .a (.i .i64 (n_a0 : Int)) :: .a (.l 1) :: .a (.i .i64 (n_a1 : Int)) :: .a (.b (((n_a0 : Int) != (n_a1 : Int)))) :: us 16 ([]), [.sl (.came b_a0) n_a0 a0 61, .sl (.came b_a1) n_a1 a1 61], []⟩ : St) s)) = nodeX (iterO (laws_eqBounds_g0 Try.prog b_a0 n_a0 a0 b_a1 n_a1 a1) N (false, (0 : Int))) (st2 (fun x => laws_eqBounds_k0_0 Try.prog N b_a0 n_a0 a0 b_a1 n_a1 a1 x.1 x.2) (fun x => laws_eqBounds_k0_1 Try.prog N b_a0 n_a0 a0 b_a1 n_a1 a1 x.1 x.2)) := by
  refine loop_node laws_eqBounds_e0 laws_eqBounds_x0 _ _ (laws_eqBounds_s0 N b_a0 n_a0 a0 b_a1 n_a1 a1) N (false, (0 : Int)) _ _ ?_
  intro x
  cases x with
  | more x => exact laws_eqBounds_k0_0_eq N b_a0 n_a0 a0 b_a1 n_a1 a1 x.1 x.2
  | done x => exact laws_eqBounds_k0_1_eq N b_a0 n_a0 a0 b_a1 n_a1 a1 x.1 x.2

theorem laws_eqBounds_ans (N : Nat) (b_a0 : Option (Option Addr)) (n_a0 : Nat) (a0 : Array Value) (b_a1 : Option (Option Addr)) (n_a1 : Nat) (a1 : Array Value) : ansV Try.prog (mkΓ [(37, con laws_eqInt64A36_con)]) N Try.f20 [([4, 5], [])] [.l 0, .l 1] [.sl (.came b_a0) n_a0 a0 61, .sl (.came b_a1) n_a1 a1 61] = (bif ((n_a0 : Int) != (n_a1 : Int)) then (some (.a (.b (false)), .none, true))
    else (nodeX (iterO (laws_eqBounds_g0 Try.prog b_a0 n_a0 a0 b_a1 n_a1 a1) N (false, (0 : Int))) (st2 (fun x => laws_eqBounds_k0_0 Try.prog N b_a0 n_a0 a0 b_a1 n_a1 a1 x.1 x.2) (fun x => laws_eqBounds_k0_1 Try.prog N b_a0 n_a0 a0 b_a1 n_a1 a1 x.1 x.2)))) := by
  refine Eq.trans (b := (bif ((n_a0 : Int) != (n_a1 : Int)) then (some (.a (.b (false)), .none, true))
    else (bindX (iterO (stepV Try.prog (mkΓ [(37, con laws_eqInt64A36_con)]) N (cAt (codeOf Try.f20) [1, 1, 0, 1, 0, 0]) (pAt (mkPlan (codeOf Try.f20) [([4, 5], [])]).1 [1, 1, 0, 1, 0]) [4, 5] [] (⟨.a (.l 0) :: .a (.l 1) :: .a (.u) :: .a (.u) :: .a (.b (false)) :: .a (.i .i64 (0 : Int)) :: .a (.l 0) :: .a (.i .i64 (n_a0 : Int)) :: .a (.l 1) :: .a (.i .i64 (n_a1 : Int)) :: .a (.b (((n_a0 : Int) != (n_a1 : Int)))) :: us 16 ([]), [.sl (.came b_a0) n_a0 a0 61, .sl (.came b_a1) n_a1 a1 61], []⟩ : St)) N ([.a (.b (false)), .a (.i .i64 (0 : Int))], [])) (fun e s => (kBlock 0 (kSeq (veC Try.prog (mkΓ [(37, con laws_eqInt64A36_con)]) N (cAt (codeOf Try.f20) [1, 1, 1]) (pAt (mkPlan (codeOf Try.f20) [([4, 5], [])]).1 [1, 1, 1]) (SV × Eff × Bool)) (finK Try.prog [.sl (.came b_a0) n_a0 a0 61, .sl (.came b_a1) n_a1 a1 61] [.tmp 4]))) e (left (writes (cAt (codeOf Try.f20) [1, 1, 0, 1, 0, 0])) [4, 5] [] (⟨.a (.l 0) :: .a (.l 1) :: .a (.u) :: .a (.u) :: .a (.b (false)) :: .a (.i .i64 (0 : Int)) :: .a (.l 0) :: .a (.i .i64 (n_a0 : Int)) :: .a (.l 1) :: .a (.i .i64 (n_a1 : Int)) :: .a (.b (((n_a0 : Int) != (n_a1 : Int)))) :: us 16 ([]), [.sl (.came b_a0) n_a0 a0 61, .sl (.came b_a1) n_a1 a1 61], []⟩ : St) s))))) (by kernel_rfl) ?_
  simp only [laws_eqBounds_n0 N b_a0 n_a0 a0 b_a1 n_a1 a1]

theorem laws_eqBounds_main (b_a0 : Option (Option Addr)) (n_a0 : Nat) (a0 : Array Value) (b_a1 : Option (Option Addr)) (n_a1 : Nat) (a1 : Array Value) (h_a0 : a0.size = n_a0 * (lay Try.prog 61).length ∧ (∀ k, k < n_a0 → WT Try.prog 61 (a0.extract (k * (lay Try.prog 61).length) (k * (lay Try.prog 61).length + (lay Try.prog 61).length))) ∧ n_a0 ≤ 9223372036854775807) (h_a1 : a1.size = n_a1 * (lay Try.prog 61).length ∧ (∀ k, k < n_a1 → WT Try.prog 61 (a1.extract (k * (lay Try.prog 61).length) (k * (lay Try.prog 61).length + (lay Try.prog 61).length))) ∧ n_a1 ≤ 9223372036854775807) (hg : (true) = true) : ansV Try.prog (mkΓ [(37, con laws_eqInt64A36_con)]) 18446744073709551616 Try.f20 [([4, 5], [])] [.l 0, .l 1] [.sl (.came b_a0) n_a0 a0 61, .sl (.came b_a1) n_a1 a1 61] = some (.a (.b ((decide (n_a0 = n_a1) && sameB a0 a1))), .none, true) := by
  have hm : (lay Try.prog 61).length = 36 := by kernel_rfl
  obtain ⟨s1, s2, s3⟩ := h_a0
  obtain ⟨t1, t2, t3⟩ := h_a1
  rw [hm] at s1 s2 t1 t2
  have hq : (lay Try.prog 61)[0]? = some 3 := by kernel_rfl
  refine (laws_eqBounds_ans 18446744073709551616 b_a0 n_a0 a0 b_a1 n_a1 a1).trans ?_
  by_cases hl : n_a0 = n_a1
  case neg =>
    rw [decide_eq_false hl, show ((n_a0 : Int) != (n_a1 : Int)) = true from bne_iff_ne.2 (by omega)]
    rfl
  subst hl
  rw [decide_eq_true rfl, show ((n_a0 : Int) != (n_a0 : Int)) = false from bne_self_eq_false _]
  simp only [cond_false, Bool.true_and]
  have hb : sameB a0 a1 = true ↔ ∀ k, k < n_a0 → (fun k => sameB (a0.extract (k * 36) (k * 36 + 36)) (a1.extract (k * 36) (k * 36 + 36))) k = true := by
    constructor
    · intro h k hk
      rw [sameB_iff.1 h]
      exact sameB_self _
    · intro h
      refine sameB_iff.2 ?_
      exact ext_parts (n := n_a0) (m := 36) (by omega) s1 t1 (fun k hk => sameB_iff.1 (h k hk))
  refine (iter_first (g := laws_eqBounds_g0 Try.prog b_a0 n_a0 a0 b_a1 n_a0 a1) (fun k => (false, (k : Int))) (fun k => sameB (a0.extract (k * 36) (k * 36 + 36)) (a1.extract (k * 36) (k * 36 + 36))) n_a0 (N := 18446744073709551616) (xd := .done (false, (n_a0 : Int))) (by omega) (fun k hk hp => by
    have h1 : decide ((k : Int) < (n_a0 : Int)) = true := decide_eq_true (by omega)
    have h0 : decide (0 ≤ (k : Int)) = true := decide_eq_true (by omega)
    have h3 : IntKind.i64.wrap ((k : Int) + 1) = ((k + 1 : Nat) : Int) := by rw [IntWalk.i64_in _ (by omega)]; omega
    have hp' : sameB (a0.extract (k * 36) (k * 36 + 36)) (a1.extract (k * 36) (k * 36 + 36)) = true := hp
    simp only [laws_eqBounds_g0, h1, h0, Bool.and_self, Int.toNat_natCast, cond_true, h3, hp', Bool.not_true, cond_false]) (by
    have h1 : decide ((n_a0 : Int) < (n_a0 : Int)) = false := decide_eq_false (by omega)
    simp only [laws_eqBounds_g0, h1, cond_false]) (sameB a0 a1) hb (some (.a (.b true), .none, true)) (some (.a (.b false), .none, true)) rfl (fun k hk hp => by
    refine ⟨.more (false, (k : Int)), ?_, rfl⟩
    have h1 : decide ((k : Int) < (n_a0 : Int)) = true := decide_eq_true (by omega)
    have h0 : decide (0 ≤ (k : Int)) = true := decide_eq_true (by omega)
    have hp' : sameB (a0.extract (k * 36) (k * 36 + 36)) (a1.extract (k * 36) (k * 36 + 36)) = false := hp
    simp only [laws_eqBounds_g0, h1, h0, Bool.and_self, Int.toNat_natCast, cond_true, hp', Bool.not_false])).trans ?_
  cases sameB a0 a1 <;> rfl
noncomputable def laws_eqBounds_con : Con := fun args h => match args, h with
  | [.l 0, .l 1], [.sl (.came b_a0) n_a0 a0 61, .sl (.came b_a1) n_a1 a1 61] => some (.a (.b ((decide (n_a0 = n_a1) && sameB a0 a1))), .none, true)
  | _, _ => none
theorem laws_eqBounds_enter : ∀ args w, (callFunc 20 args).run Try.prog w = .ok (.enter 20 args) w := enter_ok (fn := Try.f20) (by kernel_rfl) (by kernel_rfl) (by kernel_rfl)
theorem laws_eqBounds_ok : ConOk Try.prog 20 laws_eqBounds_con := (ans_ok (N := 18446744073709551616) (by kernel_rfl) (mkΓ_cons (con_ok laws_eqInt64A36_ok) laws_eqInt64A36_enter mkΓ_nil) (fn := Try.f20) (by kernel_rfl) (by kernel_rfl) [([4, 5], [])]).of (by
  intro ρ h w args vals r e hA hH hr
  unfold laws_eqBounds_con at hr
  split at hr
  · rename_i b_a0 n_a0 a0 b_a1 n_a1 a1
    obtain ⟨rfl, hg⟩ := Prod.mk.inj (Option.some.inj hr)
    obtain ⟨rfl, hg2⟩ := Prod.mk.inj hg
    exact laws_eqBounds_main b_a0 n_a0 a0 b_a1 n_a1 a1 (hH.slw 0 rfl) (hH.slw 1 rfl) hg2
  · cases hr)

theorem laws_szBounds_ans (N : Nat) (a1 : Int) (b_a0 : Option (Option Addr)) (n_a0 : Nat) (a0 : Array Value) : ansV Try.prog (mkΓ []) N Try.f23 [] [.l 0, .i .i64 (a1)] [.sl (.came b_a0) n_a0 a0 61] = (bif decide ((IntKind.i64.wrap (a1 - (n_a0 : Int))) < (0 : Int)) then (some (.a (.i .i64 (-1 : Int)), .none, true))
    else (some (.a (.i .i64 (IntKind.i64.wrap (a1 - (n_a0 : Int)))), .none, true))) := by kernel_rfl

noncomputable def laws_szBounds_v0 (a1 : Int) (b_a0 : Option (Option Addr)) (n_a0 : Nat) (a0 : Array Value) : Int := (bif decide ((IntKind.i64.wrap (a1 - (n_a0 : Int))) < (0 : Int)) then (-1 : Int) else (IntKind.i64.wrap (a1 - (n_a0 : Int))))

theorem laws_szBounds_main (a1 : Int) (b_a0 : Option (Option Addr)) (n_a0 : Nat) (a0 : Array Value) (h_a1 : IntKind.i64.min ≤ a1 ∧ a1 ≤ IntKind.i64.max) (h_a0 : a0.size = n_a0 * (lay Try.prog 61).length ∧ (∀ k, k < n_a0 → WT Try.prog 61 (a0.extract (k * (lay Try.prog 61).length) (k * (lay Try.prog 61).length + (lay Try.prog 61).length))) ∧ n_a0 ≤ 9223372036854775807) (hg : (true) = true) : ansV Try.prog (mkΓ []) 1000 Try.f23 [] [.l 0, .i .i64 (a1)] [.sl (.came b_a0) n_a0 a0 61] = some (.a (.i .i64 (laws_szBounds_v0 a1 b_a0 n_a0 a0)), .none, true) := by
  refine (laws_szBounds_ans 1000 a1 b_a0 n_a0 a0).trans ?_
  unfold laws_szBounds_v0
  revert hg
  generalize (decide ((IntKind.i64.wrap (a1 - (n_a0 : Int))) < (0 : Int))) = b2
  intro hg
  cases b2
  · skip
    first | (simp only [cond_true, cond_false, Bool.and_true, Bool.true_and, Bool.and_false, Bool.false_and]; done) | rfl | exact (nomatch (hg : false = true))
  · skip
    first | (simp only [cond_true, cond_false, Bool.and_true, Bool.true_and, Bool.and_false, Bool.false_and]; done) | rfl | exact (nomatch (hg : false = true))
noncomputable def laws_szBounds_con : Con := fun args h => match args, h with
  | [.l 0, .i .i64 a1], [.sl (.came b_a0) n_a0 a0 61] => some (.a (.i .i64 (laws_szBounds_v0 a1 b_a0 n_a0 a0)), .none, true)
  | _, _ => none
theorem laws_szBounds_enter : ∀ args w, (callFunc 23 args).run Try.prog w = .ok (.enter 23 args) w := enter_ok (fn := Try.f23) (by kernel_rfl) (by kernel_rfl) (by kernel_rfl)
theorem laws_szBounds_ok : ConOk Try.prog 23 laws_szBounds_con := (ans_ok (N := 1000) (by kernel_rfl) mkΓ_nil (fn := Try.f23) (by kernel_rfl) (by kernel_rfl) []).of (by
  intro ρ h w args vals r e hA hH hr
  unfold laws_szBounds_con at hr
  split at hr
  · rename_i a1 b_a0 n_a0 a0
    obtain ⟨rfl, hg⟩ := Prod.mk.inj (Option.some.inj hr)
    obtain ⟨rfl, hg2⟩ := Prod.mk.inj hg
    exact laws_szBounds_main a1 b_a0 n_a0 a0 (hA.rng 1 rfl) (hH.slw 0 rfl) hg2
  · cases hr)


theorem ask_spot (S : Array Value) (c b : Int) : impl_spotCode_v0 S b c = spec_l04Asked_v0 c c b 0 S := by
  rw [← ask_bottle]
  unfold impl_bottleCode_v0
  rw [show impl_hasHours_v0 0 = true from rfl]
  cases impl_spotCode_v0 S b c == 0 <;> rfl
noncomputable def askB (S : Array Value) (c b : Int) : Bool := spec_l04Asked_v0 c c b 0 S == 0
noncomputable def pbCode (P : Program) (S : Array Value) (c to b : Int) (n : Nat) (A : Array Value) : Int := bif spec_l04Asked_v0 c to b 0 S == 0 then (bif prB P S to b n A then 0 else 8) else spec_l04Asked_v0 c to b 0 S
noncomputable def pbVal (P : Program) (S : Array Value) (c to b : Int) (n : Nat) (A : Array Value) : Int := bif pbCode P S c to b n A == 0 then num A (((IntKind.i64.wrap ((n : Int) - 1)).toNat * 36) + (c.toNat * 1)) else 0
theorem pr_len {S : Array Value} {to b : Int} {n : Nat} {A : Array Value} (h : prB Try.prog S to b n A = true) : 1 ≤ n ∧ n ≤ 15 := by
  unfold prB at h
  rw [Bool.and_eq_true] at h
  have := in_range h.1
  omega

theorem spec_CheckBounds_ans (N : Nat) (a0 : Array Value) (a1 : Int) (a2 : Int) (b_a3 : Option (Option Addr)) (n_a3 : Nat) (a3 : Array Value) : ansV Try.prog (mkΓ [(49, con spec_l04Asked_con), (58, con spec_l04Proof_con)]) N Try.f24 [] [.g a0 36, .i .i64 (a1), .i .i64 (a2), .l 0] [.sl (.came b_a3) n_a3 a3 61] = (bif ((spec_l04Asked_v0 a1 a1 a2 (0 : Int) a0) != (0 : Int)) then (some (.t [.b (false), .i .i64 (spec_l04Asked_v0 a1 a1 a2 (0 : Int) a0)], .none, true))
    else (bif (okS a0 && (spec_l01Is_v0 a1 a0 && spec_l00In_v0 a2 0 1)) then (some (.t [.b ((prB Try.prog a0 a1 a2 n_a3 a3)), .i .i64 (0 : Int)], .none, true))
      else (none))) := by kernel_rfl

theorem spec_CheckBounds_main (a0 : Array Value) (a1 : Int) (a2 : Int) (b_a3 : Option (Option Addr)) (n_a3 : Nat) (a3 : Array Value) (h_a0 : WT Try.prog 36 a0) (h_a1 : IntKind.i64.min ≤ a1 ∧ a1 ≤ IntKind.i64.max) (h_a2 : IntKind.i64.min ≤ a2 ∧ a2 ≤ IntKind.i64.max) (h_a3 : a3.size = n_a3 * (lay Try.prog 61).length ∧ (∀ k, k < n_a3 → WT Try.prog 61 (a3.extract (k * (lay Try.prog 61).length) (k * (lay Try.prog 61).length + (lay Try.prog 61).length))) ∧ n_a3 ≤ 9223372036854775807) (hg : (true) = true) : ansV Try.prog (mkΓ [(49, con spec_l04Asked_con), (58, con spec_l04Proof_con)]) 1000 Try.f24 [] [.g a0 36, .i .i64 (a1), .i .i64 (a2), .l 0] [.sl (.came b_a3) n_a3 a3 61] = some (.t [.b ((bif (spec_l04Asked_v0 a1 a1 a2 0 a0 == 0) then prB Try.prog a0 a1 a2 n_a3 a3 else false)), .i .i64 (spec_l04Asked_v0 a1 a1 a2 0 a0)], .none, true) := by
  refine (spec_CheckBounds_ans 1000 a0 a1 a2 b_a3 n_a3 a3).trans ?_

  cases hc : (spec_l04Asked_v0 a1 a1 a2 0 a0 == 0)
  · rw [ne_of' hc]; rfl
  obtain ⟨h1, h2, _, h4, _⟩ := ask_all hc
  rw [ne_of hc, h1, h2, h4, eq_of_beq hc]
  rfl
noncomputable def spec_CheckBounds_con : Con := fun args h => match args, h with
  | [.g a0 36, .i .i64 a1, .i .i64 a2, .l 0], [.sl (.came b_a3) n_a3 a3 61] => some (.t [.b ((bif (spec_l04Asked_v0 a1 a1 a2 0 a0 == 0) then prB Try.prog a0 a1 a2 n_a3 a3 else false)), .i .i64 (spec_l04Asked_v0 a1 a1 a2 0 a0)], .none, true)
  | _, _ => none
theorem spec_CheckBounds_enter : ∀ args w, (callFunc 24 args).run Try.prog w = .ok (.enter 24 args) w := enter_ok (fn := Try.f24) (by kernel_rfl) (by kernel_rfl) (by kernel_rfl)
theorem spec_CheckBounds_ok : ConOk Try.prog 24 spec_CheckBounds_con := (ans_ok (N := 1000) (by kernel_rfl) (mkΓ_cons (con_ok spec_l04Asked_ok) spec_l04Asked_enter (mkΓ_cons (con_ok spec_l04Proof_ok) spec_l04Proof_enter mkΓ_nil)) (fn := Try.f24) (by kernel_rfl) (by kernel_rfl) []).of (by
  intro ρ h w args vals r e hA hH hr
  unfold spec_CheckBounds_con at hr
  split at hr
  · rename_i a0 a1 a2 b_a3 n_a3 a3
    obtain ⟨rfl, hg⟩ := Prod.mk.inj (Option.some.inj hr)
    obtain ⟨rfl, hg2⟩ := Prod.mk.inj hg
    exact spec_CheckBounds_main a0 a1 a2 b_a3 n_a3 a3 (hA.wt 0 rfl) (hA.rng 1 rfl) (hA.rng 2 rfl) (hH.slw 0 rfl) hg2
  · cases hr)

theorem impl_CheckBounds_ans (N : Nat) (a0 : Array Value) (a1 : Int) (a2 : Int) (b_a3 : Option (Option Addr)) (n_a3 : Nat) (a3 : Array Value) : ansV Try.prog (mkΓ [(60, con impl_spotCode_con), (61, con impl_Bounds_proves_con)]) N Try.f26 [] [.g a0 36, .i .i64 (a1), .i .i64 (a2), .l 0] [.sl (.came b_a3) n_a3 a3 61] = (bif ((impl_spotCode_v0 a0 a2 a1) != (0 : Int)) then (some (.t [.b (false), .i .i64 (impl_spotCode_v0 a0 a2 a1)], .none, true))
    else (bif (okS a0 && (spec_l01Is_v0 a1 a0 && spec_l00In_v0 a2 0 1)) then (some (.t [.b ((prB Try.prog a0 a1 a2 n_a3 a3)), .i .i64 (0 : Int)], .none, true))
      else (none))) := by kernel_rfl

theorem impl_CheckBounds_main (a0 : Array Value) (a1 : Int) (a2 : Int) (b_a3 : Option (Option Addr)) (n_a3 : Nat) (a3 : Array Value) (h_a0 : WT Try.prog 36 a0) (h_a1 : IntKind.i64.min ≤ a1 ∧ a1 ≤ IntKind.i64.max) (h_a2 : IntKind.i64.min ≤ a2 ∧ a2 ≤ IntKind.i64.max) (h_a3 : a3.size = n_a3 * (lay Try.prog 61).length ∧ (∀ k, k < n_a3 → WT Try.prog 61 (a3.extract (k * (lay Try.prog 61).length) (k * (lay Try.prog 61).length + (lay Try.prog 61).length))) ∧ n_a3 ≤ 9223372036854775807) (hg : (true) = true) : ansV Try.prog (mkΓ [(60, con impl_spotCode_con), (61, con impl_Bounds_proves_con)]) 1000 Try.f26 [] [.g a0 36, .i .i64 (a1), .i .i64 (a2), .l 0] [.sl (.came b_a3) n_a3 a3 61] = some (.t [.b ((bif (spec_l04Asked_v0 a1 a1 a2 0 a0 == 0) then prB Try.prog a0 a1 a2 n_a3 a3 else false)), .i .i64 (spec_l04Asked_v0 a1 a1 a2 0 a0)], .none, true) := by
  refine (impl_CheckBounds_ans 1000 a0 a1 a2 b_a3 n_a3 a3).trans ?_
  rw [ask_spot]
  cases hc : (spec_l04Asked_v0 a1 a1 a2 0 a0 == 0)
  · rw [ne_of' hc]; rfl
  obtain ⟨h1, h2, _, h4, _⟩ := ask_all hc
  rw [ne_of hc, h1, h2, h4, eq_of_beq hc]
  rfl
noncomputable def impl_CheckBounds_con : Con := fun args h => match args, h with
  | [.g a0 36, .i .i64 a1, .i .i64 a2, .l 0], [.sl (.came b_a3) n_a3 a3 61] => some (.t [.b ((bif (spec_l04Asked_v0 a1 a1 a2 0 a0 == 0) then prB Try.prog a0 a1 a2 n_a3 a3 else false)), .i .i64 (spec_l04Asked_v0 a1 a1 a2 0 a0)], .none, true)
  | _, _ => none
theorem impl_CheckBounds_enter : ∀ args w, (callFunc 26 args).run Try.prog w = .ok (.enter 26 args) w := enter_ok (fn := Try.f26) (by kernel_rfl) (by kernel_rfl) (by kernel_rfl)
theorem impl_CheckBounds_ok : ConOk Try.prog 26 impl_CheckBounds_con := (ans_ok (N := 1000) (by kernel_rfl) (mkΓ_cons (con_ok impl_spotCode_ok) impl_spotCode_enter (mkΓ_cons (con_ok impl_Bounds_proves_ok) impl_Bounds_proves_enter mkΓ_nil)) (fn := Try.f26) (by kernel_rfl) (by kernel_rfl) []).of (by
  intro ρ h w args vals r e hA hH hr
  unfold impl_CheckBounds_con at hr
  split at hr
  · rename_i a0 a1 a2 b_a3 n_a3 a3
    obtain ⟨rfl, hg⟩ := Prod.mk.inj (Option.some.inj hr)
    obtain ⟨rfl, hg2⟩ := Prod.mk.inj hg
    exact impl_CheckBounds_main a0 a1 a2 b_a3 n_a3 a3 (hA.wt 0 rfl) (hA.rng 1 rfl) (hA.rng 2 rfl) (hH.slw 0 rfl) hg2
  · cases hr)

theorem spec_ProvedBound_ans (N : Nat) (a0 : Array Value) (a1 : Int) (a2 : Int) (a3 : Int) (b_a4 : Option (Option Addr)) (n_a4 : Nat) (a4 : Array Value) : ansV Try.prog (mkΓ [(49, con spec_l04Asked_con), (58, con spec_l04Proof_con)]) N Try.f27 [] [.g a0 36, .i .i64 (a1), .i .i64 (a2), .i .i64 (a3), .l 0] [.sl (.came b_a4) n_a4 a4 61] = (bif ((spec_l04Asked_v0 a1 a2 a3 (0 : Int) a0) != (0 : Int)) then (some (.t [.i .i64 (0 : Int), .i .i64 (spec_l04Asked_v0 a1 a2 a3 (0 : Int) a0)], .none, true))
    else (bif (okS a0 && (spec_l01Is_v0 a2 a0 && spec_l00In_v0 a3 0 1)) then (bif (!((prB Try.prog a0 a2 a3 n_a4 a4))) then (some (.t [.i .i64 (0 : Int), .i .i64 (8 : Int)], .none, true))
        else (bif (decide (0 ≤ (IntKind.i64.wrap ((n_a4 : Int) - (1 : Int)))) && decide ((IntKind.i64.wrap ((n_a4 : Int) - (1 : Int))) < (n_a4 : Int))) then (bif (decide (0 ≤ a1) && decide (a1 < 36)) then (some (.t [.i .i64 (num a4 (((IntKind.i64.wrap ((n_a4 : Int) - (1 : Int))).toNat * 36) + ((a1).toNat * 1))), .i .i64 (0 : Int)], .none, true))
            else (none))
          else (none)))
      else (none))) := by kernel_rfl

theorem spec_ProvedBound_main (a0 : Array Value) (a1 : Int) (a2 : Int) (a3 : Int) (b_a4 : Option (Option Addr)) (n_a4 : Nat) (a4 : Array Value) (h_a0 : WT Try.prog 36 a0) (h_a1 : IntKind.i64.min ≤ a1 ∧ a1 ≤ IntKind.i64.max) (h_a2 : IntKind.i64.min ≤ a2 ∧ a2 ≤ IntKind.i64.max) (h_a3 : IntKind.i64.min ≤ a3 ∧ a3 ≤ IntKind.i64.max) (h_a4 : a4.size = n_a4 * (lay Try.prog 61).length ∧ (∀ k, k < n_a4 → WT Try.prog 61 (a4.extract (k * (lay Try.prog 61).length) (k * (lay Try.prog 61).length + (lay Try.prog 61).length))) ∧ n_a4 ≤ 9223372036854775807) (hg : (true) = true) : ansV Try.prog (mkΓ [(49, con spec_l04Asked_con), (58, con spec_l04Proof_con)]) 1000 Try.f27 [] [.g a0 36, .i .i64 (a1), .i .i64 (a2), .i .i64 (a3), .l 0] [.sl (.came b_a4) n_a4 a4 61] = some (.t [.i .i64 (pbVal Try.prog a0 a1 a2 a3 n_a4 a4), .i .i64 (pbCode Try.prog a0 a1 a2 a3 n_a4 a4)], .none, true) := by
  refine (spec_ProvedBound_ans 1000 a0 a1 a2 a3 b_a4 n_a4 a4).trans ?_

  unfold pbVal pbCode
  cases hc : (spec_l04Asked_v0 a1 a2 a3 0 a0 == 0)
  · rw [ne_of' hc]; simp only [cond_true, cond_false, hc]
  obtain ⟨h1, h2, h3, h4, _⟩ := ask_all hc
  have hr := is_range h2
  rw [ne_of hc, h1, h3, h4]
  simp only [cond_true, cond_false, Bool.and_self]
  cases hp : prB Try.prog a0 a2 a3 n_a4 a4 with
  | false => rfl
  | true =>
    have hn := pr_len hp
    simp only [Bool.not_true, cond_false, cond_true]
    rw [dec2 (a := IntKind.i64.wrap ((n_a4 : Int) - 1)) (b := (n_a4 : Int)) (by rw [w64 (by omega)]; omega) (by rw [w64 (by omega)]; omega), dec2 hr.1 (show a1 < 36 by omega)]
    rfl
noncomputable def spec_ProvedBound_con : Con := fun args h => match args, h with
  | [.g a0 36, .i .i64 a1, .i .i64 a2, .i .i64 a3, .l 0], [.sl (.came b_a4) n_a4 a4 61] => some (.t [.i .i64 (pbVal Try.prog a0 a1 a2 a3 n_a4 a4), .i .i64 (pbCode Try.prog a0 a1 a2 a3 n_a4 a4)], .none, true)
  | _, _ => none
theorem spec_ProvedBound_enter : ∀ args w, (callFunc 27 args).run Try.prog w = .ok (.enter 27 args) w := enter_ok (fn := Try.f27) (by kernel_rfl) (by kernel_rfl) (by kernel_rfl)
theorem spec_ProvedBound_ok : ConOk Try.prog 27 spec_ProvedBound_con := (ans_ok (N := 1000) (by kernel_rfl) (mkΓ_cons (con_ok spec_l04Asked_ok) spec_l04Asked_enter (mkΓ_cons (con_ok spec_l04Proof_ok) spec_l04Proof_enter mkΓ_nil)) (fn := Try.f27) (by kernel_rfl) (by kernel_rfl) []).of (by
  intro ρ h w args vals r e hA hH hr
  unfold spec_ProvedBound_con at hr
  split at hr
  · rename_i a0 a1 a2 a3 b_a4 n_a4 a4
    obtain ⟨rfl, hg⟩ := Prod.mk.inj (Option.some.inj hr)
    obtain ⟨rfl, hg2⟩ := Prod.mk.inj hg
    exact spec_ProvedBound_main a0 a1 a2 a3 b_a4 n_a4 a4 (hA.wt 0 rfl) (hA.rng 1 rfl) (hA.rng 2 rfl) (hA.rng 3 rfl) (hH.slw 0 rfl) hg2
  · cases hr)

theorem impl_ProvedBound_ans (N : Nat) (a0 : Array Value) (a1 : Int) (a2 : Int) (a3 : Int) (b_a4 : Option (Option Addr)) (n_a4 : Nat) (a4 : Array Value) : ansV Try.prog (mkΓ [(51, con impl_endsCode_con), (61, con impl_Bounds_proves_con), (62, con impl_Bounds_from_con)]) N Try.f28 [] [.g a0 36, .i .i64 (a1), .i .i64 (a2), .i .i64 (a3), .l 0] [.sl (.came b_a4) n_a4 a4 61] = (bif ((impl_endsCode_v0 a0 a1 a3 (0 : Int) a2) != (0 : Int)) then (some (.t [.i .i64 (0 : Int), .i .i64 (impl_endsCode_v0 a0 a1 a3 (0 : Int) a2)], .none, true))
    else (bif (okS a0 && (spec_l01Is_v0 a2 a0 && spec_l00In_v0 a3 0 1)) then (bif (!((prB Try.prog a0 a2 a3 n_a4 a4))) then (some (.t [.i .i64 (0 : Int), .i .i64 (8 : Int)], .none, true))
        else (bif (impl_Bounds_from_gd a1 b_a4 n_a4 a4) then (some (.t [.i .i64 (impl_Bounds_from_v0 a1 b_a4 n_a4 a4), .i .i64 (0 : Int)], .none, true))
          else (none)))
      else (none))) := by kernel_rfl

theorem impl_ProvedBound_main (a0 : Array Value) (a1 : Int) (a2 : Int) (a3 : Int) (b_a4 : Option (Option Addr)) (n_a4 : Nat) (a4 : Array Value) (h_a0 : WT Try.prog 36 a0) (h_a1 : IntKind.i64.min ≤ a1 ∧ a1 ≤ IntKind.i64.max) (h_a2 : IntKind.i64.min ≤ a2 ∧ a2 ≤ IntKind.i64.max) (h_a3 : IntKind.i64.min ≤ a3 ∧ a3 ≤ IntKind.i64.max) (h_a4 : a4.size = n_a4 * (lay Try.prog 61).length ∧ (∀ k, k < n_a4 → WT Try.prog 61 (a4.extract (k * (lay Try.prog 61).length) (k * (lay Try.prog 61).length + (lay Try.prog 61).length))) ∧ n_a4 ≤ 9223372036854775807) (hg : (true) = true) : ansV Try.prog (mkΓ [(51, con impl_endsCode_con), (61, con impl_Bounds_proves_con), (62, con impl_Bounds_from_con)]) 1000 Try.f28 [] [.g a0 36, .i .i64 (a1), .i .i64 (a2), .i .i64 (a3), .l 0] [.sl (.came b_a4) n_a4 a4 61] = some (.t [.i .i64 (pbVal Try.prog a0 a1 a2 a3 n_a4 a4), .i .i64 (pbCode Try.prog a0 a1 a2 a3 n_a4 a4)], .none, true) := by
  refine (impl_ProvedBound_ans 1000 a0 a1 a2 a3 b_a4 n_a4 a4).trans ?_
  rw [ask_ends]
  unfold pbVal pbCode
  cases hc : (spec_l04Asked_v0 a1 a2 a3 0 a0 == 0)
  · rw [ne_of' hc]; simp only [cond_true, cond_false, hc]
  obtain ⟨h1, h2, h3, h4, _⟩ := ask_all hc
  have hr := is_range h2
  rw [ne_of hc, h1, h3, h4]
  simp only [cond_true, cond_false, Bool.and_self]
  cases hp : prB Try.prog a0 a2 a3 n_a4 a4 with
  | false => rfl
  | true =>
    have hn := pr_len hp
    simp only [Bool.not_true, cond_false, cond_true]
    have hgd : impl_Bounds_from_gd a1 b_a4 n_a4 a4 = true := by
      unfold impl_Bounds_from_gd
      rw [dec2 (a := IntKind.i64.wrap ((n_a4 : Int) - 1)) (b := (n_a4 : Int)) (by rw [w64 (by omega)]; omega) (by rw [w64 (by omega)]; omega), dec2 hr.1 (show a1 < 36 by omega)]
      rfl
    rw [hgd]
    rfl
noncomputable def impl_ProvedBound_con : Con := fun args h => match args, h with
  | [.g a0 36, .i .i64 a1, .i .i64 a2, .i .i64 a3, .l 0], [.sl (.came b_a4) n_a4 a4 61] => some (.t [.i .i64 (pbVal Try.prog a0 a1 a2 a3 n_a4 a4), .i .i64 (pbCode Try.prog a0 a1 a2 a3 n_a4 a4)], .none, true)
  | _, _ => none
theorem impl_ProvedBound_enter : ∀ args w, (callFunc 28 args).run Try.prog w = .ok (.enter 28 args) w := enter_ok (fn := Try.f28) (by kernel_rfl) (by kernel_rfl) (by kernel_rfl)
theorem impl_ProvedBound_ok : ConOk Try.prog 28 impl_ProvedBound_con := (ans_ok (N := 1000) (by kernel_rfl) (mkΓ_cons (con_ok impl_endsCode_ok) impl_endsCode_enter (mkΓ_cons (con_ok impl_Bounds_proves_ok) impl_Bounds_proves_enter (mkΓ_cons (con_ok impl_Bounds_from_ok) impl_Bounds_from_enter mkΓ_nil))) (fn := Try.f28) (by kernel_rfl) (by kernel_rfl) []).of (by
  intro ρ h w args vals r e hA hH hr
  unfold impl_ProvedBound_con at hr
  split at hr
  · rename_i a0 a1 a2 a3 b_a4 n_a4 a4
    obtain ⟨rfl, hg⟩ := Prod.mk.inj (Option.some.inj hr)
    obtain ⟨rfl, hg2⟩ := Prod.mk.inj hg
    exact impl_ProvedBound_main a0 a1 a2 a3 b_a4 n_a4 a4 (hA.wt 0 rfl) (hA.rng 1 rfl) (hA.rng 2 rfl) (hA.rng 3 rfl) (hH.slw 0 rfl) hg2
  · cases hr)

end
end Go.Proofs.Ytmkkckhfghomfaa
