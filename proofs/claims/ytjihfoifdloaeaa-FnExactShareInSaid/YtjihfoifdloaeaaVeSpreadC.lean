/- Amounts in some cells, and the code of sea and spread. -/
import Derived.Test.YtjihfoifdloaeaaProg
import Derived.Test.YtjihfoifdloaeaaVeSpreadB
import Derived.Test.YtjihfoifdloaeaaVeWater
namespace Go.Proofs.Ytjihfoifdloaeaa
open Go.ChangeShapes Go.WideShapes Go.ChangeAt Go.RowKit Ve
set_option linter.unusedVariables false
set_option linter.unusedSimpArgs false
set_option maxRecDepth 100000
noncomputable section

noncomputable def maskW (b : Nat → Bool) (D : Array Value) : Nat → Int
  | 0 => 0
  | k + 1 => bif b k then IntKind.i64.wrap (maskW b D k + num D (3 + k * 1)) else maskW b D k
noncomputable def bitS (m : Int) (k : Nat) : Bool := (((m).fdiv (2 ^ (min ((IntKind.u64.wrap (k : Int))).toNat IntKind.u64.bits))).tmod (2 : Int)) == (1 : Int)
noncomputable def bitI (m : Int) (k : Nat) : Bool := (IntKind.u64.wrap (BitVec.ofInt IntKind.u64.bits m &&& BitVec.ofInt IntKind.u64.bits (impl_bitOf_v0 (k : Int))).toNat) != (0 : Int)
theorem bit_eq {m : Int} (hm : 0 ≤ m ∧ m ≤ 18446744073709551615) {k : Nat} (hk : k < 36) : bitI m k = bitS m k := by
  have hc : 0 ≤ (k : Int) ∧ (k : Int) ≤ 35 := by omega
  have h := land_bit (ld := m) (c := (k : Int)) (by show (decide _ && decide _) = true; rw [decide_eq_true (show IntKind.u64.min ≤ m from hm.1), decide_eq_true (show m ≤ IntKind.u64.max from hm.2)]; rfl) hc
  unfold bitI bitS impl_bitOf_v0
  rw [u64_c hc, min_c hc, Int.one_mul, Int.fdiv_eq_ediv_of_nonneg _ (Int.le_of_lt (Int.pow_pos (by omega)))]
  exact h
theorem maskW_congr {b b' : Nat → Bool} {D : Array Value} : ∀ n, (∀ k, k < n → b k = b' k) → maskW b D n = maskW b' D n
  | 0, _ => rfl
  | n + 1, h => by
    unfold maskW
    rw [h n (by omega), maskW_congr n fun k hk => h k (by omega)]

noncomputable def spec_l02Sum_g0 (P : Program) (a1 : Int) (a0 : Array Value) : Int × Int → Option (Stp (Int × Int) (Int × Int))
  | (y0_5, y0_6) => bif decide (y0_6 < (36 : Int)) then (bif decide (0 ≤ (IntKind.u64.wrap y0_6)) then (bif (((((a1).fdiv (2 ^ (min ((IntKind.u64.wrap y0_6)).toNat IntKind.u64.bits)))).tmod (2 : Int)) == (1 : Int)) then (bif (decide (0 ≤ y0_6) && decide (y0_6 < 36)) then (some (.more ((IntKind.i64.wrap (y0_5 + (num a0 (3 + ((y0_6).toNat * 1))))), (IntKind.i64.wrap (y0_6 + (1 : Int))))))
          else (none))
        else (some (.more (y0_5, (IntKind.i64.wrap (y0_6 + (1 : Int)))))))
      else (none))
    else (some (.done (y0_5, y0_6)))

noncomputable def spec_l02Sum_e0 : Int × Int → LS
  | (y0_5, y0_6) => ([.a (.i .i64 (y0_5)), .a (.i .i64 (y0_6))], [])

noncomputable def spec_l02Sum_x0 : Int × Int → Exit × LS
  | t => ((.exit 0), spec_l02Sum_e0 t)

noncomputable def spec_l02Sum_k0_0 (P : Program) (N : Nat) (a1 : Int) (a0 : Array Value) (z0_5 : Int) (z0_6 : Int) : Option (SV × Eff × Bool) := some (.a (.i .i64 (z0_5)), .none, true)

theorem spec_l02Sum_s0 (N : Nat) (a1 : Int) (a0 : Array Value) : ∀ t : Int × Int, stepV Try.prog (mkΓ []) N (cAt (codeOf Try.f66) [1, 1, 0, 1, 0, 0]) (pAt (mkPlan (codeOf Try.f66) [([5, 6], [])]).1 [1, 1, 0, 1, 0]) [5, 6] [] (⟨[.a (.w 0), .a (.i .u64 (a1)), .a (.u), .a (.u), .a (.i .i64 (0 : Int)), .a (.i .i64 (0 : Int)), .a (.i .i64 (0 : Int)), .a (.u), .a (.u), .a (.u), .a (.u), .a (.u), .a (.u), .a (.u), .a (.u), .a (.u), .a (.u), .a (.u), .a (.u), .a (.u), .a (.u), .a (.u), .a (.u), .a (.u), .a (.u), .a (.u)], [.row a0 42], []⟩ : St) (spec_l02Sum_e0 t) = mapS spec_l02Sum_e0 spec_l02Sum_x0 (spec_l02Sum_g0 Try.prog a1 a0 t) := by
  rintro ⟨y0_5, y0_6⟩
  have h : stepV Try.prog (mkΓ []) N (cAt (codeOf Try.f66) [1, 1, 0, 1, 0, 0]) (pAt (mkPlan (codeOf Try.f66) [([5, 6], [])]).1 [1, 1, 0, 1, 0]) [5, 6] [] (⟨[.a (.w 0), .a (.i .u64 (a1)), .a (.u), .a (.u), .a (.i .i64 (0 : Int)), .a (.i .i64 (0 : Int)), .a (.i .i64 (0 : Int)), .a (.u), .a (.u), .a (.u), .a (.u), .a (.u), .a (.u), .a (.u), .a (.u), .a (.u), .a (.u), .a (.u), .a (.u), .a (.u), .a (.u), .a (.u), .a (.u), .a (.u), .a (.u), .a (.u)], [.row a0 42], []⟩ : St) ([.a (.i .i64 (y0_5)), .a (.i .i64 (y0_6))], []) = (bif decide (y0_6 < (36 : Int)) then (bif decide (0 ≤ (IntKind.u64.wrap y0_6)) then (bif (((((a1).fdiv (2 ^ (min ((IntKind.u64.wrap y0_6)).toNat IntKind.u64.bits)))).tmod (2 : Int)) == (1 : Int)) then (bif (decide (0 ≤ y0_6) && decide (y0_6 < 36)) then (some (.more ([.a (.i .i64 (IntKind.i64.wrap (y0_5 + (num a0 (3 + ((y0_6).toNat * 1)))))), .a (.i .i64 (IntKind.i64.wrap (y0_6 + (1 : Int))))], [])))
          else (none))
        else (some (.more ([.a (.i .i64 (y0_5)), .a (.i .i64 (IntKind.i64.wrap (y0_6 + (1 : Int))))], []))))
      else (none))
    else (some (.done ((.exit 0), ([.a (.i .i64 (y0_5)), .a (.i .i64 (y0_6))], []))))) := by kernel_rfl
  refine h.trans ?_
  simp only [spec_l02Sum_g0, mapS_cond, mapS_more, mapS_done, mapS_none, spec_l02Sum_e0, spec_l02Sum_x0]

theorem spec_l02Sum_k0_0_eq (N : Nat) (a1 : Int) (a0 : Array Value) (z0_5 : Int) (z0_6 : Int) : (kBlock 0 (kSeq (veC Try.prog (mkΓ []) N (cAt (codeOf Try.f66) [1, 1, 1]) (pAt (mkPlan (codeOf Try.f66) [([5, 6], [])]).1 [1, 1, 1]) (SV × Eff × Bool)) (finK Try.prog [.row a0 42] [.tmp 4]))) (.exit 0) (left (writes (cAt (codeOf Try.f66) [1, 1, 0, 1, 0, 0])) [5, 6] [] (⟨[.a (.w 0), .a (.i .u64 (a1)), .a (.u), .a (.u), .a (.i .i64 (0 : Int)), .a (.i .i64 (0 : Int)), .a (.i .i64 (0 : Int)), .a (.u), .a (.u), .a (.u), .a (.u), .a (.u), .a (.u), .a (.u), .a (.u), .a (.u), .a (.u), .a (.u), .a (.u), .a (.u), .a (.u), .a (.u), .a (.u), .a (.u), .a (.u), .a (.u)], [.row a0 42], []⟩ : St) ([.a (.i .i64 (z0_5)), .a (.i .i64 (z0_6))], [])) = spec_l02Sum_k0_0 Try.prog N a1 a0 z0_5 z0_6 := by
  have h : (kBlock 0 (kSeq (veC Try.prog (mkΓ []) N (cAt (codeOf Try.f66) [1, 1, 1]) (pAt (mkPlan (codeOf Try.f66) [([5, 6], [])]).1 [1, 1, 1]) (SV × Eff × Bool)) (finK Try.prog [.row a0 42] [.tmp 4]))) (.exit 0) (left (writes (cAt (codeOf Try.f66) [1, 1, 0, 1, 0, 0])) [5, 6] [] (⟨[.a (.w 0), .a (.i .u64 (a1)), .a (.u), .a (.u), .a (.i .i64 (0 : Int)), .a (.i .i64 (0 : Int)), .a (.i .i64 (0 : Int)), .a (.u), .a (.u), .a (.u), .a (.u), .a (.u), .a (.u), .a (.u), .a (.u), .a (.u), .a (.u), .a (.u), .a (.u), .a (.u), .a (.u), .a (.u), .a (.u), .a (.u), .a (.u), .a (.u)], [.row a0 42], []⟩ : St) ([.a (.i .i64 (z0_5)), .a (.i .i64 (z0_6))], [])) = (some (.a (.i .i64 (z0_5)), .none, true)) := by kernel_rfl
  refine h.trans ?_
  rfl

theorem spec_l02Sum_n0 (N : Nat) (a1 : Int) (a0 : Array Value) : bindX (iterO (stepV Try.prog (mkΓ []) N (cAt (codeOf Try.f66) [1, 1, 0, 1, 0, 0]) (pAt (mkPlan (codeOf Try.f66) [([5, 6], [])]).1 [1, 1, 0, 1, 0]) [5, 6] [] (⟨[.a (.w 0), .a (.i .u64 (a1)), .a (.u), .a (.u), .a (.i .i64 (0 : Int)), .a (.i .i64 (0 : Int)), .a (.i .i64 (0 : Int)), .a (.u), .a (.u), .a (.u), .a (.u), .a (.u), .a (.u), .a (.u), .a (.u), .a (.u), .a (.u), .a (.u), .a (.u), .a (.u), .a (.u), .a (.u), .a (.u), .a (.u), .a (.u), .a (.u)], [.row a0 42], []⟩ : St)) N ([.a (.i .i64 (0 : Int)), .a (.i .i64 (0 : Int))], [])) (fun e s => (kBlock 0 (kSeq (veC Try.prog (mkΓ []) N (cAt (codeOf Try.f66) [1, 1, 1]) (pAt (mkPlan (codeOf Try.f66) [([5, 6], [])]).1 [1, 1, 1]) (SV × Eff × Bool)) (finK Try.prog [.row a0 42] [.tmp 4]))) e (left (writes (cAt (codeOf Try.f66) [1, 1, 0, 1, 0, 0])) [5, 6] [] (⟨[.a (.w 0), .a (.i .u64 (a1)), .a (.u), .a (.u), .a (.i .i64 (0 : Int)), .a (.i .i64 (0 : Int)), .a (.i .i64 (0 : Int)), .a (.u), .a (.u), .a (.u), .a (.u), .a (.u), .a (.u), .a (.u), .a (.u), .a (.u), .a (.u), .a (.u), .a (.u), .a (.u), .a (.u), .a (.u), .a (.u), .a (.u), .a (.u), .a (.u)], [.row a0 42], []⟩ : St) s)) = nodeX (iterO (spec_l02Sum_g0 Try.prog a1 a0) N ((0 : Int), (0 : Int))) (fun x => spec_l02Sum_k0_0 Try.prog N a1 a0 x.1 x.2) := by
  refine loop_node spec_l02Sum_e0 spec_l02Sum_x0 _ _ (spec_l02Sum_s0 N a1 a0) N ((0 : Int), (0 : Int)) _ _ ?_
  intro x; exact spec_l02Sum_k0_0_eq N a1 a0 x.1 x.2

theorem spec_l02Sum_ans (N : Nat) (a1 : Int) (a0 : Array Value) : ansV Try.prog (mkΓ []) N Try.f66 [([5, 6], [])] [.w 0, .i .u64 (a1)] [.row a0 42] = (nodeX (iterO (spec_l02Sum_g0 Try.prog a1 a0) N ((0 : Int), (0 : Int))) (fun x => spec_l02Sum_k0_0 Try.prog N a1 a0 x.1 x.2)) := by
  have h : ansV Try.prog (mkΓ []) N Try.f66 [([5, 6], [])] [.w 0, .i .u64 (a1)] [.row a0 42] = (bindX (iterO (stepV Try.prog (mkΓ []) N (cAt (codeOf Try.f66) [1, 1, 0, 1, 0, 0]) (pAt (mkPlan (codeOf Try.f66) [([5, 6], [])]).1 [1, 1, 0, 1, 0]) [5, 6] [] (⟨[.a (.w 0), .a (.i .u64 (a1)), .a (.u), .a (.u), .a (.i .i64 (0 : Int)), .a (.i .i64 (0 : Int)), .a (.i .i64 (0 : Int)), .a (.u), .a (.u), .a (.u), .a (.u), .a (.u), .a (.u), .a (.u), .a (.u), .a (.u), .a (.u), .a (.u), .a (.u), .a (.u), .a (.u), .a (.u), .a (.u), .a (.u), .a (.u), .a (.u)], [.row a0 42], []⟩ : St)) N ([.a (.i .i64 (0 : Int)), .a (.i .i64 (0 : Int))], [])) (fun e s => (kBlock 0 (kSeq (veC Try.prog (mkΓ []) N (cAt (codeOf Try.f66) [1, 1, 1]) (pAt (mkPlan (codeOf Try.f66) [([5, 6], [])]).1 [1, 1, 1]) (SV × Eff × Bool)) (finK Try.prog [.row a0 42] [.tmp 4]))) e (left (writes (cAt (codeOf Try.f66) [1, 1, 0, 1, 0, 0])) [5, 6] [] (⟨[.a (.w 0), .a (.i .u64 (a1)), .a (.u), .a (.u), .a (.i .i64 (0 : Int)), .a (.i .i64 (0 : Int)), .a (.i .i64 (0 : Int)), .a (.u), .a (.u), .a (.u), .a (.u), .a (.u), .a (.u), .a (.u), .a (.u), .a (.u), .a (.u), .a (.u), .a (.u), .a (.u), .a (.u), .a (.u), .a (.u), .a (.u), .a (.u), .a (.u)], [.row a0 42], []⟩ : St) s))) := by kernel_rfl
  refine h.trans ?_
  simp only [spec_l02Sum_n0]

theorem spec_l02Sum_main (a1 : Int) (a0 : Array Value) (h_a1 : IntKind.u64.min ≤ a1 ∧ a1 ≤ IntKind.u64.max) (h_a0 : WT Try.prog 42 a0) (hg : (true) = true) : ansV Try.prog (mkΓ []) 1000 Try.f66 [([5, 6], [])] [.w 0, .i .u64 (a1)] [.row a0 42] = some (.a (.i .i64 (maskW (bitS a1) a0 36)), .none, true) := by
  refine (spec_l02Sum_ans 1000 a1 a0).trans ?_
  have h := iter_all (g := spec_l02Sum_g0 Try.prog a1 a0) (fun k => (maskW (bitS a1) a0 k, (k : Int))) (m := 36) (x := (maskW (bitS a1) a0 36, ((36 : Nat) : Int))) (N := 1000) (fun k hk => by
    have h1 : decide ((k : Int) < 36) = true := decide_eq_true (by omega)
    have h0 : decide (0 ≤ (k : Int)) = true := decide_eq_true (by omega)
    have h3 : IntKind.i64.wrap ((k : Int) + 1) = ((k + 1 : Nat) : Int) := by rw [IntWalk.i64_in _ (by omega)]; omega
    have h4 : ((k : Int)).toNat = k := Int.toNat_natCast k
    have h6 : decide (0 ≤ IntKind.u64.wrap (k : Int)) = true := by rw [u64_c (by omega)]; exact h0
    have h7 : maskW (bitS a1) a0 (k + 1) = bif bitS a1 k then IntKind.i64.wrap (maskW (bitS a1) a0 k + num a0 (3 + k * 1)) else maskW (bitS a1) a0 k := rfl
    simp only [h7]
    have hb : bitS a1 k = ((((a1).fdiv (2 ^ (min ((IntKind.u64.wrap (k : Int))).toNat IntKind.u64.bits))).tmod (2 : Int)) == (1 : Int)) := rfl
    cases hbb : bitS a1 k
    · rw [hb] at hbb
      simp only [spec_l02Sum_g0, h1, h0, h6, Bool.and_self, h4, cond_true, h3, hbb, cond_false]
    · rw [hb] at hbb
      simp only [spec_l02Sum_g0, h1, h0, h6, Bool.and_self, h4, cond_true, h3, hbb]) (by
    have h1 : decide (((36 : Nat) : Int) < 36) = false := by decide
    simp only [spec_l02Sum_g0, h1, cond_false]) (by omega)
  have h' : iterO (spec_l02Sum_g0 Try.prog a1 a0) 1000 ((0 : Int), (0 : Int)) = some (maskW (bitS a1) a0 36, ((36 : Nat) : Int)) := h
  rw [h']
  rfl
noncomputable def spec_l02Sum_con : Con := fun args h => match args, h with
  | [.w 0, .i .u64 a1], [.row a0 42] => some (.a (.i .i64 (maskW (bitS a1) a0 36)), .none, true)
  | _, _ => none
theorem spec_l02Sum_enter : ∀ args w, (callFunc 66 args).run Try.prog w = .ok (.enter 66 args) w := enter_ok (fn := Try.f66) (by kernel_rfl) (by kernel_rfl) (by kernel_rfl)
theorem spec_l02Sum_ok : ConOk Try.prog 66 spec_l02Sum_con := (ans_ok (N := 1000) (by kernel_rfl) mkΓ_nil (fn := Try.f66) (by kernel_rfl) (by kernel_rfl) [([5, 6], [])]).of (by
  intro ρ h w args vals r e hA hH hr
  unfold spec_l02Sum_con at hr
  split at hr
  · rename_i a1 a0
    obtain ⟨rfl, hg⟩ := Prod.mk.inj (Option.some.inj hr)
    obtain ⟨rfl, hg2⟩ := Prod.mk.inj hg
    exact spec_l02Sum_main a1 a0 (hA.rng 1 rfl) (hH.wt 0 rfl) hg2
  · cases hr)

noncomputable def impl_amountIn_g0 (P : Program) (a0 : Array Value) (a1 : Int) : Int × Int → Option (Stp (Int × Int) (Int × Int))
  | (y0_5, y0_10) => bif decide (y0_10 < (36 : Int)) then (bif (decide (0 ≤ y0_10) && decide (y0_10 < 36)) then (bif decide (0 ≤ y0_10) then (bif ((IntKind.u64.wrap (BitVec.ofInt IntKind.u64.bits a1 &&& BitVec.ofInt IntKind.u64.bits (impl_bitOf_v0 y0_10)).toNat) != (0 : Int)) then (some (.more ((IntKind.i64.wrap (y0_5 + (num (a0.extract 3 (3 + 36)) ((y0_10).toNat * 1)))), (IntKind.i64.wrap (y0_10 + (1 : Int))))))
          else (some (.more (y0_5, (IntKind.i64.wrap (y0_10 + (1 : Int)))))))
        else (none))
      else (none))
    else (some (.done (y0_5, y0_10)))

noncomputable def impl_amountIn_e0 : Int × Int → LS
  | (y0_5, y0_10) => ([.a (.i .i64 (y0_5)), .a (.i .i64 (y0_10))], [])

noncomputable def impl_amountIn_x0 : Int × Int → Exit × LS
  | t => ((.exit 0), impl_amountIn_e0 t)

noncomputable def impl_amountIn_k0_0 (P : Program) (N : Nat) (a0 : Array Value) (a1 : Int) (z0_5 : Int) (z0_10 : Int) : Option (SV × Eff × Bool) := some (.a (.i .i64 (z0_5)), .none, true)

theorem impl_amountIn_s0 (N : Nat) (a0 : Array Value) (a1 : Int) : ∀ t : Int × Int, stepV Try.prog (mkΓ [(64, con impl_bitOf_con)]) N (cAt (codeOf Try.f68) [1, 1, 0, 1, 0, 0]) (pAt (mkPlan (codeOf Try.f68) [([5, 10], [])]).1 [1, 1, 0, 1, 0]) [5, 10] [] (⟨[.a (.g a0 42), .a (.i .u64 (a1)), .a (.w 0), .a (.u), .a (.i .i64 (0 : Int)), .a (.i .i64 (0 : Int)), .a (.u), .a (.u), .a (.p 0 (3) 32), .a (.g (a0.extract 3 (3 + 36)) 32), .a (.i .i64 (0 : Int)), .a (.u), .a (.u), .a (.u), .a (.u), .a (.u), .a (.u), .a (.u), .a (.u), .a (.u), .a (.u), .a (.u), .a (.u), .a (.u)], [.row a0 42, .no], []⟩ : St) (impl_amountIn_e0 t) = mapS impl_amountIn_e0 impl_amountIn_x0 (impl_amountIn_g0 Try.prog a0 a1 t) := by
  rintro ⟨y0_5, y0_10⟩
  have h : stepV Try.prog (mkΓ [(64, con impl_bitOf_con)]) N (cAt (codeOf Try.f68) [1, 1, 0, 1, 0, 0]) (pAt (mkPlan (codeOf Try.f68) [([5, 10], [])]).1 [1, 1, 0, 1, 0]) [5, 10] [] (⟨[.a (.g a0 42), .a (.i .u64 (a1)), .a (.w 0), .a (.u), .a (.i .i64 (0 : Int)), .a (.i .i64 (0 : Int)), .a (.u), .a (.u), .a (.p 0 (3) 32), .a (.g (a0.extract 3 (3 + 36)) 32), .a (.i .i64 (0 : Int)), .a (.u), .a (.u), .a (.u), .a (.u), .a (.u), .a (.u), .a (.u), .a (.u), .a (.u), .a (.u), .a (.u), .a (.u), .a (.u)], [.row a0 42, .no], []⟩ : St) ([.a (.i .i64 (y0_5)), .a (.i .i64 (y0_10))], []) = (bif decide (y0_10 < (36 : Int)) then (bif (decide (0 ≤ y0_10) && decide (y0_10 < 36)) then (bif decide (0 ≤ y0_10) then (bif ((IntKind.u64.wrap (BitVec.ofInt IntKind.u64.bits a1 &&& BitVec.ofInt IntKind.u64.bits (impl_bitOf_v0 y0_10)).toNat) != (0 : Int)) then (some (.more ([.a (.i .i64 (IntKind.i64.wrap (y0_5 + (num (a0.extract 3 (3 + 36)) ((y0_10).toNat * 1))))), .a (.i .i64 (IntKind.i64.wrap (y0_10 + (1 : Int))))], [])))
          else (some (.more ([.a (.i .i64 (y0_5)), .a (.i .i64 (IntKind.i64.wrap (y0_10 + (1 : Int))))], []))))
        else (none))
      else (none))
    else (some (.done ((.exit 0), ([.a (.i .i64 (y0_5)), .a (.i .i64 (y0_10))], []))))) := by kernel_rfl
  refine h.trans ?_
  simp only [impl_amountIn_g0, mapS_cond, mapS_more, mapS_done, mapS_none, impl_amountIn_e0, impl_amountIn_x0]

theorem impl_amountIn_k0_0_eq (N : Nat) (a0 : Array Value) (a1 : Int) (z0_5 : Int) (z0_10 : Int) : (kBlock 0 (kSeq (veC Try.prog (mkΓ [(64, con impl_bitOf_con)]) N (cAt (codeOf Try.f68) [1, 1, 1]) (pAt (mkPlan (codeOf Try.f68) [([5, 10], [])]).1 [1, 1, 1]) (SV × Eff × Bool)) (finK Try.prog [] [.tmp 4]))) (.exit 0) (left (writes (cAt (codeOf Try.f68) [1, 1, 0, 1, 0, 0])) [5, 10] [] (⟨[.a (.g a0 42), .a (.i .u64 (a1)), .a (.w 0), .a (.u), .a (.i .i64 (0 : Int)), .a (.i .i64 (0 : Int)), .a (.u), .a (.u), .a (.p 0 (3) 32), .a (.g (a0.extract 3 (3 + 36)) 32), .a (.i .i64 (0 : Int)), .a (.u), .a (.u), .a (.u), .a (.u), .a (.u), .a (.u), .a (.u), .a (.u), .a (.u), .a (.u), .a (.u), .a (.u), .a (.u)], [.row a0 42, .no], []⟩ : St) ([.a (.i .i64 (z0_5)), .a (.i .i64 (z0_10))], [])) = impl_amountIn_k0_0 Try.prog N a0 a1 z0_5 z0_10 := by
  have h : (kBlock 0 (kSeq (veC Try.prog (mkΓ [(64, con impl_bitOf_con)]) N (cAt (codeOf Try.f68) [1, 1, 1]) (pAt (mkPlan (codeOf Try.f68) [([5, 10], [])]).1 [1, 1, 1]) (SV × Eff × Bool)) (finK Try.prog [] [.tmp 4]))) (.exit 0) (left (writes (cAt (codeOf Try.f68) [1, 1, 0, 1, 0, 0])) [5, 10] [] (⟨[.a (.g a0 42), .a (.i .u64 (a1)), .a (.w 0), .a (.u), .a (.i .i64 (0 : Int)), .a (.i .i64 (0 : Int)), .a (.u), .a (.u), .a (.p 0 (3) 32), .a (.g (a0.extract 3 (3 + 36)) 32), .a (.i .i64 (0 : Int)), .a (.u), .a (.u), .a (.u), .a (.u), .a (.u), .a (.u), .a (.u), .a (.u), .a (.u), .a (.u), .a (.u), .a (.u), .a (.u)], [.row a0 42, .no], []⟩ : St) ([.a (.i .i64 (z0_5)), .a (.i .i64 (z0_10))], [])) = (some (.a (.i .i64 (z0_5)), .none, true)) := by kernel_rfl
  refine h.trans ?_
  rfl

theorem impl_amountIn_n0 (N : Nat) (a0 : Array Value) (a1 : Int) : bindX (iterO (stepV Try.prog (mkΓ [(64, con impl_bitOf_con)]) N (cAt (codeOf Try.f68) [1, 1, 0, 1, 0, 0]) (pAt (mkPlan (codeOf Try.f68) [([5, 10], [])]).1 [1, 1, 0, 1, 0]) [5, 10] [] (⟨[.a (.g a0 42), .a (.i .u64 (a1)), .a (.w 0), .a (.u), .a (.i .i64 (0 : Int)), .a (.i .i64 (0 : Int)), .a (.u), .a (.u), .a (.p 0 (3) 32), .a (.g (a0.extract 3 (3 + 36)) 32), .a (.i .i64 (0 : Int)), .a (.u), .a (.u), .a (.u), .a (.u), .a (.u), .a (.u), .a (.u), .a (.u), .a (.u), .a (.u), .a (.u), .a (.u), .a (.u)], [.row a0 42, .no], []⟩ : St)) N ([.a (.i .i64 (0 : Int)), .a (.i .i64 (0 : Int))], [])) (fun e s => (kBlock 0 (kSeq (veC Try.prog (mkΓ [(64, con impl_bitOf_con)]) N (cAt (codeOf Try.f68) [1, 1, 1]) (pAt (mkPlan (codeOf Try.f68) [([5, 10], [])]).1 [1, 1, 1]) (SV × Eff × Bool)) (finK Try.prog [] [.tmp 4]))) e (left (writes (cAt (codeOf Try.f68) [1, 1, 0, 1, 0, 0])) [5, 10] [] (⟨[.a (.g a0 42), .a (.i .u64 (a1)), .a (.w 0), .a (.u), .a (.i .i64 (0 : Int)), .a (.i .i64 (0 : Int)), .a (.u), .a (.u), .a (.p 0 (3) 32), .a (.g (a0.extract 3 (3 + 36)) 32), .a (.i .i64 (0 : Int)), .a (.u), .a (.u), .a (.u), .a (.u), .a (.u), .a (.u), .a (.u), .a (.u), .a (.u), .a (.u), .a (.u), .a (.u), .a (.u)], [.row a0 42, .no], []⟩ : St) s)) = nodeX (iterO (impl_amountIn_g0 Try.prog a0 a1) N ((0 : Int), (0 : Int))) (fun x => impl_amountIn_k0_0 Try.prog N a0 a1 x.1 x.2) := by
  refine loop_node impl_amountIn_e0 impl_amountIn_x0 _ _ (impl_amountIn_s0 N a0 a1) N ((0 : Int), (0 : Int)) _ _ ?_
  intro x; exact impl_amountIn_k0_0_eq N a0 a1 x.1 x.2

theorem impl_amountIn_ans (N : Nat) (a0 : Array Value) (a1 : Int) : ansV Try.prog (mkΓ [(64, con impl_bitOf_con)]) N Try.f68 [([5, 10], [])] [.g a0 42, .i .u64 (a1)] [] = (nodeX (iterO (impl_amountIn_g0 Try.prog a0 a1) N ((0 : Int), (0 : Int))) (fun x => impl_amountIn_k0_0 Try.prog N a0 a1 x.1 x.2)) := by
  have h : ansV Try.prog (mkΓ [(64, con impl_bitOf_con)]) N Try.f68 [([5, 10], [])] [.g a0 42, .i .u64 (a1)] [] = (bindX (iterO (stepV Try.prog (mkΓ [(64, con impl_bitOf_con)]) N (cAt (codeOf Try.f68) [1, 1, 0, 1, 0, 0]) (pAt (mkPlan (codeOf Try.f68) [([5, 10], [])]).1 [1, 1, 0, 1, 0]) [5, 10] [] (⟨[.a (.g a0 42), .a (.i .u64 (a1)), .a (.w 0), .a (.u), .a (.i .i64 (0 : Int)), .a (.i .i64 (0 : Int)), .a (.u), .a (.u), .a (.p 0 (3) 32), .a (.g (a0.extract 3 (3 + 36)) 32), .a (.i .i64 (0 : Int)), .a (.u), .a (.u), .a (.u), .a (.u), .a (.u), .a (.u), .a (.u), .a (.u), .a (.u), .a (.u), .a (.u), .a (.u), .a (.u)], [.row a0 42, .no], []⟩ : St)) N ([.a (.i .i64 (0 : Int)), .a (.i .i64 (0 : Int))], [])) (fun e s => (kBlock 0 (kSeq (veC Try.prog (mkΓ [(64, con impl_bitOf_con)]) N (cAt (codeOf Try.f68) [1, 1, 1]) (pAt (mkPlan (codeOf Try.f68) [([5, 10], [])]).1 [1, 1, 1]) (SV × Eff × Bool)) (finK Try.prog [] [.tmp 4]))) e (left (writes (cAt (codeOf Try.f68) [1, 1, 0, 1, 0, 0])) [5, 10] [] (⟨[.a (.g a0 42), .a (.i .u64 (a1)), .a (.w 0), .a (.u), .a (.i .i64 (0 : Int)), .a (.i .i64 (0 : Int)), .a (.u), .a (.u), .a (.p 0 (3) 32), .a (.g (a0.extract 3 (3 + 36)) 32), .a (.i .i64 (0 : Int)), .a (.u), .a (.u), .a (.u), .a (.u), .a (.u), .a (.u), .a (.u), .a (.u), .a (.u), .a (.u), .a (.u), .a (.u), .a (.u)], [.row a0 42, .no], []⟩ : St) s))) := by kernel_rfl
  refine h.trans ?_
  simp only [impl_amountIn_n0]

theorem impl_amountIn_main (a0 : Array Value) (a1 : Int) (h_a0 : WT Try.prog 42 a0) (h_a1 : IntKind.u64.min ≤ a1 ∧ a1 ≤ IntKind.u64.max) (hg : (true) = true) : ansV Try.prog (mkΓ [(64, con impl_bitOf_con)]) 1000 Try.f68 [([5, 10], [])] [.g a0 42, .i .u64 (a1)] [] = some (.a (.i .i64 (maskW (bitI a1) a0 36)), .none, true) := by
  have hz : a0.size = 40 := by rw [h_a0.layLen]; kernel_rfl
  refine (impl_amountIn_ans 1000 a0 a1).trans ?_
  have h := iter_all (g := impl_amountIn_g0 Try.prog a0 a1) (fun k => (maskW (bitI a1) a0 k, (k : Int))) (m := 36) (x := (maskW (bitI a1) a0 36, ((36 : Nat) : Int))) (N := 1000) (fun k hk => by
    have h1 : decide ((k : Int) < 36) = true := decide_eq_true (by omega)
    have h0 : decide (0 ≤ (k : Int)) = true := decide_eq_true (by omega)
    have h3 : IntKind.i64.wrap ((k : Int) + 1) = ((k + 1 : Nat) : Int) := by rw [IntWalk.i64_in _ (by omega)]; omega
    have h4 : ((k : Int)).toNat = k := Int.toNat_natCast k
    have h6 : decide (0 ≤ IntKind.u64.wrap (k : Int)) = true := by rw [u64_c (by omega)]; exact h0
    have h5 := cell_num (T := 0) hz k hk
    have h7 : maskW (bitI a1) a0 (k + 1) = bif bitI a1 k then IntKind.i64.wrap (maskW (bitI a1) a0 k + num a0 (3 + k * 1)) else maskW (bitI a1) a0 k := rfl
    simp only [h7]
    have hb : bitI a1 k = ((IntKind.u64.wrap (BitVec.ofInt IntKind.u64.bits a1 &&& BitVec.ofInt IntKind.u64.bits (impl_bitOf_v0 (k : Int))).toNat) != (0 : Int)) := rfl
    cases hbb : bitI a1 k
    · rw [hb] at hbb
      simp only [impl_amountIn_g0, h1, h0, h6, h5, Bool.and_self, h4, cond_true, h3, hbb, cond_false]
    · rw [hb] at hbb
      simp only [impl_amountIn_g0, h1, h0, h6, h5, Bool.and_self, h4, cond_true, h3, hbb]) (by
    have h1 : decide (((36 : Nat) : Int) < 36) = false := by decide
    simp only [impl_amountIn_g0, h1, cond_false]) (by omega)
  have h' : iterO (impl_amountIn_g0 Try.prog a0 a1) 1000 ((0 : Int), (0 : Int)) = some (maskW (bitI a1) a0 36, ((36 : Nat) : Int)) := h
  rw [h']
  rfl
noncomputable def impl_amountIn_con : Con := fun args h => match args, h with
  | [.g a0 42, .i .u64 a1], [] => some (.a (.i .i64 (maskW (bitI a1) a0 36)), .none, true)
  | _, _ => none
theorem impl_amountIn_enter : ∀ args w, (callFunc 68 args).run Try.prog w = .ok (.enter 68 args) w := enter_ok (fn := Try.f68) (by kernel_rfl) (by kernel_rfl) (by kernel_rfl)
theorem impl_amountIn_ok : ConOk Try.prog 68 impl_amountIn_con := (ans_ok (N := 1000) (by kernel_rfl) (mkΓ_cons (con_ok impl_bitOf_ok) impl_bitOf_enter mkΓ_nil) (fn := Try.f68) (by kernel_rfl) (by kernel_rfl) [([5, 10], [])]).of (by
  intro ρ h w args vals r e hA hH hr
  unfold impl_amountIn_con at hr
  split at hr
  · rename_i a0 a1
    obtain ⟨rfl, hg⟩ := Prod.mk.inj (Option.some.inj hr)
    obtain ⟨rfl, hg2⟩ := Prod.mk.inj hg
    exact impl_amountIn_main a0 a1 (hA.wt 0 rfl) (hA.rng 1 rfl) hg2
  · cases hr)

theorem spec_l02All_ans (N : Nat) (a0 : Array Value) : ansV Try.prog (mkΓ [(45, con spec_l02Parts_con)]) N Try.f71 [] [.w 0] [.row a0 42] = (bif (decide (0 ≤ (IntKind.i64.wrap (num a0 1))) && decide ((IntKind.i64.wrap (num a0 1)) ≤ 14)) then (some (.a (.i .i64 (IntKind.i64.wrap ((num a0 2) * (12 ^ (IntKind.i64.wrap (num a0 1)).toNat)))), .none, true))
    else (none)) := by kernel_rfl

noncomputable def spec_l02All_v0 (a0 : Array Value) : Int := (IntKind.i64.wrap ((num a0 2) * (12 ^ (IntKind.i64.wrap (num a0 1)).toNat)))
noncomputable def spec_l02All_gd (a0 : Array Value) : Bool := (decide (0 ≤ (IntKind.i64.wrap (num a0 1))) && decide ((IntKind.i64.wrap (num a0 1)) ≤ 14))

theorem spec_l02All_main (a0 : Array Value) (h_a0 : WT Try.prog 42 a0) (hg : ((spec_l02All_gd a0)) = true) : ansV Try.prog (mkΓ [(45, con spec_l02Parts_con)]) 1000 Try.f71 [] [.w 0] [.row a0 42] = some (.a (.i .i64 (spec_l02All_v0 a0)), .none, true) := by
  refine (spec_l02All_ans 1000 a0).trans ?_
  unfold spec_l02All_gd at hg
  unfold spec_l02All_v0
  revert hg
  generalize (decide (0 ≤ (IntKind.i64.wrap (num a0 1)))) = b2
  intro hg
  cases b2
  · skip
    first | exact (nomatch (hg : false = true)) | (simp only [cond_true, cond_false, Bool.and_true, Bool.true_and, Bool.and_false, Bool.false_and]; done) | rfl
  · skip
    revert hg
    generalize (decide ((IntKind.i64.wrap (num a0 1)) ≤ 14)) = b4
    intro hg
    cases b4
    · skip
      first | exact (nomatch (hg : false = true)) | (simp only [cond_true, cond_false, Bool.and_true, Bool.true_and, Bool.and_false, Bool.false_and]; done) | rfl
    · skip
      first | (simp only [cond_true, cond_false, Bool.and_true, Bool.true_and, Bool.and_false, Bool.false_and]; done) | rfl | exact (nomatch (hg : false = true))
noncomputable def spec_l02All_con : Con := fun args h => match args, h with
  | [.w 0], [.row a0 42] => some (.a (.i .i64 (spec_l02All_v0 a0)), .none, (spec_l02All_gd a0))
  | _, _ => none
theorem spec_l02All_enter : ∀ args w, (callFunc 71 args).run Try.prog w = .ok (.enter 71 args) w := enter_ok (fn := Try.f71) (by kernel_rfl) (by kernel_rfl) (by kernel_rfl)
theorem spec_l02All_ok : ConOk Try.prog 71 spec_l02All_con := (ans_ok (N := 1000) (by kernel_rfl) (mkΓ_cons (con_ok spec_l02Parts_ok) spec_l02Parts_enter mkΓ_nil) (fn := Try.f71) (by kernel_rfl) (by kernel_rfl) []).of (by
  intro ρ h w args vals r e hA hH hr
  unfold spec_l02All_con at hr
  split at hr
  · rename_i a0
    obtain ⟨rfl, hg⟩ := Prod.mk.inj (Option.some.inj hr)
    obtain ⟨rfl, hg2⟩ := Prod.mk.inj hg
    exact spec_l02All_main a0 (hH.wt 0 rfl) hg2
  · cases hr)

theorem spec_l02Asked_ans (N : Nat) (a0 : Array Value) (a1 : Array Value) : ansV Try.prog (mkΓ [(48, con spec_l01Ok_con), (49, con spec_l02Ok_con)]) N Try.f65 [] [.w 0, .w 1] [.row a0 40, .row a1 42] = (bif (!((okS a0))) then (some (.a (.i .i64 (1 : Int)), .none, true))
    else (bif (!((specSp a0 a1))) then (some (.a (.i .i64 (1 : Int)), .none, true))
      else (some (.a (.i .i64 (0 : Int)), .none, true)))) := by kernel_rfl

noncomputable def spec_l02Asked_v0 (a0 : Array Value) (a1 : Array Value) : Int := (bif (!((okS a0))) then (1 : Int) else (bif (!((specSp a0 a1))) then (1 : Int) else (0 : Int)))

theorem spec_l02Asked_main (a0 : Array Value) (a1 : Array Value) (h_a0 : WT Try.prog 40 a0) (h_a1 : WT Try.prog 42 a1) (hg : (true) = true) : ansV Try.prog (mkΓ [(48, con spec_l01Ok_con), (49, con spec_l02Ok_con)]) 1000 Try.f65 [] [.w 0, .w 1] [.row a0 40, .row a1 42] = some (.a (.i .i64 (spec_l02Asked_v0 a0 a1)), .none, true) := by
  refine (spec_l02Asked_ans 1000 a0 a1).trans ?_
  unfold spec_l02Asked_v0
  revert hg
  generalize ((!((okS a0)))) = b2
  intro hg
  cases b2
  · skip
    revert hg
    generalize ((!((specSp a0 a1)))) = b4
    intro hg
    cases b4
    · skip
      first | (simp only [cond_true, cond_false, Bool.and_true, Bool.true_and, Bool.and_false, Bool.false_and]; done) | rfl | exact (nomatch (hg : false = true))
    · skip
      first | (simp only [cond_true, cond_false, Bool.and_true, Bool.true_and, Bool.and_false, Bool.false_and]; done) | rfl | exact (nomatch (hg : false = true))
  · skip
    first | (simp only [cond_true, cond_false, Bool.and_true, Bool.true_and, Bool.and_false, Bool.false_and]; done) | rfl | exact (nomatch (hg : false = true))
noncomputable def spec_l02Asked_con : Con := fun args h => match args, h with
  | [.w 0, .w 1], [.row a0 40, .row a1 42] => some (.a (.i .i64 (spec_l02Asked_v0 a0 a1)), .none, true)
  | _, _ => none
theorem spec_l02Asked_enter : ∀ args w, (callFunc 65 args).run Try.prog w = .ok (.enter 65 args) w := enter_ok (fn := Try.f65) (by kernel_rfl) (by kernel_rfl) (by kernel_rfl)
theorem spec_l02Asked_ok : ConOk Try.prog 65 spec_l02Asked_con := (ans_ok (N := 1000) (by kernel_rfl) (mkΓ_cons (con_ok spec_l01Ok_ok) spec_l01Ok_enter (mkΓ_cons (con_ok spec_l02Ok_ok) spec_l02Ok_enter mkΓ_nil)) (fn := Try.f65) (by kernel_rfl) (by kernel_rfl) []).of (by
  intro ρ h w args vals r e hA hH hr
  unfold spec_l02Asked_con at hr
  split at hr
  · rename_i a0 a1
    obtain ⟨rfl, hg⟩ := Prod.mk.inj (Option.some.inj hr)
    obtain ⟨rfl, hg2⟩ := Prod.mk.inj hg
    exact spec_l02Asked_main a0 a1 (hH.wt 0 rfl) (hH.wt 1 rfl) hg2
  · cases hr)

theorem impl_spreadCode_ans (N : Nat) (a0 : Array Value) (a1 : Array Value) : ansV Try.prog (mkΓ [(20, con impl_ValidSpread_con)]) N Try.f67 [] [.g a0 40, .g a1 42] [] = (bif (impl_ValidSpread_gd a0 a1) then (bif (!((impl_ValidSpread_v0 a0 a1))) then (some (.a (.i .i64 (1 : Int)), .none, true))
      else (some (.a (.i .i64 (0 : Int)), .none, true)))
    else (none)) := by kernel_rfl

noncomputable def impl_spreadCode_v0 (a0 : Array Value) (a1 : Array Value) : Int := (bif (!((impl_ValidSpread_v0 a0 a1))) then (1 : Int) else (0 : Int))

theorem impl_spreadCode_main (a0 : Array Value) (a1 : Array Value) (h_a0 : WT Try.prog 40 a0) (h_a1 : WT Try.prog 42 a1) (hg : ((impl_ValidSpread_gd a0 a1)) = true) : ansV Try.prog (mkΓ [(20, con impl_ValidSpread_con)]) 1000 Try.f67 [] [.g a0 40, .g a1 42] [] = some (.a (.i .i64 (impl_spreadCode_v0 a0 a1)), .none, true) := by
  refine (impl_spreadCode_ans 1000 a0 a1).trans ?_
  unfold impl_spreadCode_v0
  revert hg
  generalize ((impl_ValidSpread_gd a0 a1)) = b2
  intro hg
  cases b2
  · skip
    first | exact (nomatch (hg : false = true)) | (simp only [cond_true, cond_false, Bool.and_true, Bool.true_and, Bool.and_false, Bool.false_and]; done) | rfl
  · skip
    revert hg
    generalize ((!((impl_ValidSpread_v0 a0 a1)))) = b4
    intro hg
    cases b4
    · skip
      first | (simp only [cond_true, cond_false, Bool.and_true, Bool.true_and, Bool.and_false, Bool.false_and]; done) | rfl | exact (nomatch (hg : false = true))
    · skip
      first | (simp only [cond_true, cond_false, Bool.and_true, Bool.true_and, Bool.and_false, Bool.false_and]; done) | rfl | exact (nomatch (hg : false = true))
noncomputable def impl_spreadCode_con : Con := fun args h => match args, h with
  | [.g a0 40, .g a1 42], [] => some (.a (.i .i64 (impl_spreadCode_v0 a0 a1)), .none, (impl_ValidSpread_gd a0 a1))
  | _, _ => none
theorem impl_spreadCode_enter : ∀ args w, (callFunc 67 args).run Try.prog w = .ok (.enter 67 args) w := enter_ok (fn := Try.f67) (by kernel_rfl) (by kernel_rfl) (by kernel_rfl)
theorem impl_spreadCode_ok : ConOk Try.prog 67 impl_spreadCode_con := (ans_ok (N := 1000) (by kernel_rfl) (mkΓ_cons (con_ok impl_ValidSpread_ok) impl_ValidSpread_enter mkΓ_nil) (fn := Try.f67) (by kernel_rfl) (by kernel_rfl) []).of (by
  intro ρ h w args vals r e hA hH hr
  unfold impl_spreadCode_con at hr
  split at hr
  · rename_i a0 a1
    obtain ⟨rfl, hg⟩ := Prod.mk.inj (Option.some.inj hr)
    obtain ⟨rfl, hg2⟩ := Prod.mk.inj hg
    exact impl_spreadCode_main a0 a1 (hA.wt 0 rfl) (hA.wt 1 rfl) hg2
  · cases hr)


theorem asked_eq (S D : Array Value) : impl_spreadCode_v0 S D = spec_l02Asked_v0 S D := by
  unfold impl_spreadCode_v0 spec_l02Asked_v0
  rw [(valid_spread S D).1]
  unfold spec_ValidSpread_v0
  cases okS S <;> cases specSp S D <;> rfl

end
end Go.Proofs.Ytjihfoifdloaeaa
