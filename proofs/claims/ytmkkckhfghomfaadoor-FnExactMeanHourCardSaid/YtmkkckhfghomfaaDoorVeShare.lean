/- Shares in lowest terms. -/
import Derived.Test.YtmkkckhfghomfaaDoorProg
import Derived.Test.YtmkkckhfghomfaaDoorVeFinds
namespace Go.Proofs.YtmkkckhfghomfaaDoor
open Go.ChangeShapes Go.WideShapes Go.ChangeAt Go.RowKit Ve
set_option linter.unusedVariables false
set_option linter.unusedSimpArgs false
set_option maxRecDepth 100000
noncomputable section

noncomputable def gcdW (a b : Int) : Int := (Int.gcd a b : Int)
theorem gcdW_step {a b : Int} (ha : 0 ≤ a) (hb : 0 < b) : gcdW b (a.tmod b) = gcdW a b := by
  unfold gcdW
  obtain ⟨m, rfl⟩ := Int.eq_ofNat_of_zero_le ha
  obtain ⟨n, rfl⟩ := Int.eq_ofNat_of_zero_le (Int.le_of_lt hb)
  rw [Int.tmod_eq_emod_of_nonneg ha, ← Int.natCast_emod, Int.gcd_natCast_natCast, Int.gcd_natCast_natCast, Nat.gcd_comm m n, Nat.gcd_rec n m, Nat.gcd_comm]
theorem gcdW_comm (a b : Int) : gcdW a b = gcdW b a := by unfold gcdW; rw [Int.gcd_comm]
theorem gcdW_ne {a b : Int} (hb : 0 < b) : (gcdW a b != 0) = true := by
  unfold gcdW
  rw [bne_iff_ne]
  intro h
  have h' : Int.gcd a b = 0 := by omega
  have := Int.gcd_eq_zero_iff.1 h'
  omega
theorem gcdW_zero {a : Int} (ha : 0 ≤ a) : gcdW a 0 = a := by
  unfold gcdW; rw [Int.gcd_zero_right]; omega


noncomputable def spec_l02Gcd_cn (m : Nat) : Con := fun args h => match args, h with
  | [.i .i64 a0, .i .i64 a1], [] => some (.a (.i .i64 (gcdW a0 a1)), .none, (decide (0 ≤ a0) && (decide (0 ≤ a1) && decide (a1 < m))))
  | _, _ => none
theorem spec_l02Gcd_enter : ∀ args w, (callFunc 42 args).run Tryd.prog w = .ok (.enter 42 args) w := enter_ok (fn := Tryd.f42) (by kernel_rfl) (by kernel_rfl) (by kernel_rfl)
theorem spec_l02Gcd_ans (m : Nat) (N : Nat) (a0 : Int) (a1 : Int) : ansV Tryd.prog (mkΓ [(42, con (spec_l02Gcd_cn m))]) N Tryd.f42 [] [.i .i64 (a0), .i .i64 (a1)] [] = (bif (a1 == (0 : Int)) then (some (.a (.i .i64 (a0)), .none, true))
    else (bif (a1 != 0) then (bif (decide (0 ≤ a1) && (decide (0 ≤ ((a0).tmod a1)) && decide (((a0).tmod a1) < m))) then (some (.a (.i .i64 (gcdW a1 ((a0).tmod a1))), .none, true))
        else (none))
      else (none))) := by kernel_rfl

theorem spec_l02Gcd_main (m : Nat) (a0 a1 : Int) (hg : (decide (0 ≤ a0) && (decide (0 ≤ a1) && decide (a1 < ((m + 1 : Nat) : Int)))) = true) : ansV Tryd.prog (mkΓ [(42, con (spec_l02Gcd_cn m))]) 1000 Tryd.f42 [] [.i .i64 (a0), .i .i64 (a1)] [] = some (.a (.i .i64 (gcdW a0 a1)), .none, true) := by
  simp only [Bool.and_eq_true, decide_eq_true_eq] at hg
  obtain ⟨g0, g1, g2⟩ := hg
  refine (spec_l02Gcd_ans m 1000 a0 a1).trans ?_
  by_cases h : a1 = 0
  · subst h; rw [gcdW_zero g0]; rfl
  · have hp : 0 < a1 := by omega
    have ht := Int.tmod_lt_of_pos a0 hp
    have h0 : 0 ≤ a0.tmod a1 := Int.tmod_nonneg _ g0
    rw [show (a1 == (0 : Int)) = false from beq_eq_false_iff_ne.2 h, show (a1 != 0) = true from bne_iff_ne.2 h, decide_eq_true g1, decide_eq_true h0, decide_eq_true (show a0.tmod a1 < (m : Int) by omega), gcdW_step g0 hp]
    rfl
theorem spec_l02Gcd_okn : ∀ m, ConOk Tryd.prog 42 (spec_l02Gcd_cn m)
  | 0 => by
    intro ρ h w args vals r e hn hr hA hH
    unfold spec_l02Gcd_cn at hr
    split at hr
    · obtain ⟨_, hg⟩ := Prod.mk.inj (Option.some.inj hr)
      obtain ⟨_, hg⟩ := Prod.mk.inj hg
      simp only [Bool.and_eq_true, decide_eq_true_eq] at hg
      omega
    · cases hr
  | m + 1 => (ans_ok (N := 1000) (by kernel_rfl) (mkΓ_cons (con_ok (spec_l02Gcd_okn m)) spec_l02Gcd_enter mkΓ_nil) (fn := Tryd.f42) (by kernel_rfl) (by kernel_rfl) []).of (by
    intro ρ h w args vals r e hA hH hr
    unfold spec_l02Gcd_cn at hr
    split at hr
    · rename_i a0 a1
      obtain ⟨rfl, hg⟩ := Prod.mk.inj (Option.some.inj hr)
      obtain ⟨rfl, hg2⟩ := Prod.mk.inj hg
      exact spec_l02Gcd_main m a0 a1 hg2
    · cases hr)
noncomputable def spec_l02Gcd_con : Con := fun args h => match args, h with
  | [.i .i64 a0, .i .i64 a1], [] => some (.a (.i .i64 (gcdW a0 a1)), .none, (decide (0 ≤ a0) && decide (0 ≤ a1)))
  | _, _ => none
theorem spec_l02Gcd_ok : ConOk Tryd.prog 42 spec_l02Gcd_con := by
  intro ρ h w args vals r e hn hr hA hH
  unfold spec_l02Gcd_con at hr
  split at hr
  · rename_i a0 a1
    obtain ⟨rfl, hg⟩ := Prod.mk.inj (Option.some.inj hr)
    obtain ⟨rfl, hg2⟩ := Prod.mk.inj hg
    refine spec_l02Gcd_okn (a1.toNat + 1) ρ _ w _ vals _ _ hn ?_ hA hH
    show (some (SV.a (SA.i .i64 (gcdW a0 a1)), Eff.none, (decide (0 ≤ a0) && (decide (0 ≤ a1) && decide (a1 < ((a1.toNat + 1 : Nat) : Int))))) : Option (SV × Eff × Bool)) = _
    simp only [Bool.and_eq_true, decide_eq_true_eq] at hg2
    rw [decide_eq_true hg2.1, decide_eq_true hg2.2, decide_eq_true (show a1 < ((a1.toNat + 1 : Nat) : Int) by omega)]
    rfl
  · cases hr

noncomputable def impl_fraction_int64_lowest_e0 : Int × Int → LS
  | (y0_3, y0_4) => ([.a (.i .i64 (y0_3)), .a (.i .i64 (y0_4))], [])

noncomputable def impl_fraction_int64_lowest_x0 : Int × Int → Exit × LS
  | t => ((.exit 0), impl_fraction_int64_lowest_e0 t)

noncomputable def impl_fraction_int64_lowest_g0 (P : Program) (a0 : Array Value) : Int × Int → Option (Stp (Int × Int) (Int × Int))
  | (y0_3, y0_4) => bif (y0_4 != (0 : Int)) then (bif (y0_4 != 0) then (some (.more (y0_4, ((y0_3).tmod y0_4))))
      else (none))
    else (some (.done (y0_3, y0_4)))

theorem impl_fraction_int64_lowest_s0 (N : Nat) (a0 : Array Value) : ∀ t : Int × Int, stepV Tryd.prog (mkΓ []) N (cAt (codeOf Tryd.f61) [1, 1, 0, 0, 0]) (pAt (mkPlan (codeOf Tryd.f61) [([3, 4], [])]).1 [1, 1, 0, 0]) [3, 4] [] (⟨.a (.g a0 97) :: .a (.w 0) :: .a (.w 1) :: .a (.i .i64 (num a0 1)) :: .a (.i .i64 (num a0 0)) :: .a (.p 0 (1) 2) :: .a (.i .i64 (num a0 1)) :: .a (.p 0 (0) 2) :: .a (.i .i64 (num a0 0)) :: us 15 ([]), [.row a0 97, .row #[.int .i64 (0 : Int), .int .i64 (0 : Int)] 97, .no, .no, .no, .no, .no, .no], []⟩ : St) (impl_fraction_int64_lowest_e0 t) = mapS impl_fraction_int64_lowest_e0 impl_fraction_int64_lowest_x0 (impl_fraction_int64_lowest_g0 Tryd.prog a0 t) := by
  rintro ⟨y0_3, y0_4⟩
  refine Eq.trans (b := (bif (y0_4 != (0 : Int)) then (bif (y0_4 != 0) then (some (.more ([.a (.i .i64 (y0_4)), .a (.i .i64 ((y0_3).tmod y0_4))], [])))
      else (none))
    else (some (.done ((.exit 0), ([.a (.i .i64 (y0_3)), .a (.i .i64 (y0_4))], [])))))) (by kernel_rfl) ?_
  simp only [impl_fraction_int64_lowest_g0, mapS_cond, mapS_more, mapS_done, mapS_none, impl_fraction_int64_lowest_e0, impl_fraction_int64_lowest_x0]

noncomputable def impl_fraction_int64_lowest_k0_0 (P : Program) (N : Nat) (a0 : Array Value) (z0_3 : Int) (z0_4 : Int) : Option (SV × Eff × Bool) := bif (z0_3 != 0) then (bif (z0_3 != 0) then (some (.a (.g #[.int .i64 (IntKind.i64.wrap (((num a0 0)).tdiv z0_3)), .int .i64 (IntKind.i64.wrap (((num a0 1)).tdiv z0_3))] 97), .none, true))
      else (none))
    else (none)

theorem impl_fraction_int64_lowest_k0_0_eq (N : Nat) (a0 : Array Value) (z0_3 : Int) (z0_4 : Int) : (kBlock 0 (kSeq (veC Tryd.prog (mkΓ []) N (cAt (codeOf Tryd.f61) [1, 1, 1]) (pAt (mkPlan (codeOf Tryd.f61) [([3, 4], [])]).1 [1, 1, 1]) (SV × Eff × Bool)) (finK Tryd.prog [] [.cell 2 97]))) (.exit 0) (left (writes (cAt (codeOf Tryd.f61) [1, 1, 0, 0, 0])) [3, 4] [] (⟨.a (.g a0 97) :: .a (.w 0) :: .a (.w 1) :: .a (.i .i64 (num a0 1)) :: .a (.i .i64 (num a0 0)) :: .a (.p 0 (1) 2) :: .a (.i .i64 (num a0 1)) :: .a (.p 0 (0) 2) :: .a (.i .i64 (num a0 0)) :: us 15 ([]), [.row a0 97, .row #[.int .i64 (0 : Int), .int .i64 (0 : Int)] 97, .no, .no, .no, .no, .no, .no], []⟩ : St) ([.a (.i .i64 (z0_3)), .a (.i .i64 (z0_4))], [])) = impl_fraction_int64_lowest_k0_0 Tryd.prog N a0 z0_3 z0_4 := by
  refine Eq.trans (b := (bif (z0_3 != 0) then (bif (z0_3 != 0) then (some (.a (.g #[.int .i64 (IntKind.i64.wrap (((num a0 0)).tdiv z0_3)), .int .i64 (IntKind.i64.wrap (((num a0 1)).tdiv z0_3))] 97), .none, true))
      else (none))
    else (none))) (by kernel_rfl) ?_
  rfl

theorem impl_fraction_int64_lowest_n0 (N : Nat) (a0 : Array Value) : bindX (iterO (stepV Tryd.prog (mkΓ []) N (cAt (codeOf Tryd.f61) [1, 1, 0, 0, 0]) (pAt (mkPlan (codeOf Tryd.f61) [([3, 4], [])]).1 [1, 1, 0, 0]) [3, 4] [] (⟨.a (.g a0 97) :: .a (.w 0) :: .a (.w 1) :: .a (.i .i64 (num a0 1)) :: .a (.i .i64 (num a0 0)) :: .a (.p 0 (1) 2) :: .a (.i .i64 (num a0 1)) :: .a (.p 0 (0) 2) :: .a (.i .i64 (num a0 0)) :: us 15 ([]), [.row a0 97, .row #[.int .i64 (0 : Int), .int .i64 (0 : Int)] 97, .no, .no, .no, .no, .no, .no], []⟩ : St)) N ([.a (.i .i64 (num a0 1)), .a (.i .i64 (num a0 0))], [])) (fun e s => (kBlock 0 (kSeq (veC Tryd.prog (mkΓ []) N (cAt (codeOf Tryd.f61) [1, 1, 1]) (pAt (mkPlan (codeOf Tryd.f61) [([3, 4], [])]).1 [1, 1, 1]) (SV × Eff × Bool)) (finK Tryd.prog [] [.cell 2 97]))) e (left (writes (cAt (codeOf Tryd.f61) [1, 1, 0, 0, 0])) [3, 4] [] (⟨.a (.g a0 97) :: .a (.w 0) :: .a (.w 1) :: .a (.i .i64 (num a0 1)) :: .a (.i .i64 (num a0 0)) :: .a (.p 0 (1) 2) :: .a (.i .i64 (num a0 1)) :: .a (.p 0 (0) 2) :: .a (.i .i64 (num a0 0)) :: us 15 ([]), [.row a0 97, .row #[.int .i64 (0 : Int), .int .i64 (0 : Int)] 97, .no, .no, .no, .no, .no, .no], []⟩ : St) s)) = nodeX (iterO (impl_fraction_int64_lowest_g0 Tryd.prog a0) N ((num a0 1), (num a0 0))) (fun x => impl_fraction_int64_lowest_k0_0 Tryd.prog N a0 x.1 x.2) := by
  refine loop_node impl_fraction_int64_lowest_e0 impl_fraction_int64_lowest_x0 _ _ (impl_fraction_int64_lowest_s0 N a0) N ((num a0 1), (num a0 0)) _ _ ?_
  intro x; exact impl_fraction_int64_lowest_k0_0_eq N a0 x.1 x.2

theorem impl_fraction_int64_lowest_ans (N : Nat) (a0 : Array Value) : ansV Tryd.prog (mkΓ []) N Tryd.f61 [([3, 4], [])] [.g a0 97] [] = (nodeX (iterO (impl_fraction_int64_lowest_g0 Tryd.prog a0) N ((num a0 1), (num a0 0))) (fun x => impl_fraction_int64_lowest_k0_0 Tryd.prog N a0 x.1 x.2)) := by
  refine Eq.trans (b := (bindX (iterO (stepV Tryd.prog (mkΓ []) N (cAt (codeOf Tryd.f61) [1, 1, 0, 0, 0]) (pAt (mkPlan (codeOf Tryd.f61) [([3, 4], [])]).1 [1, 1, 0, 0]) [3, 4] [] (⟨.a (.g a0 97) :: .a (.w 0) :: .a (.w 1) :: .a (.i .i64 (num a0 1)) :: .a (.i .i64 (num a0 0)) :: .a (.p 0 (1) 2) :: .a (.i .i64 (num a0 1)) :: .a (.p 0 (0) 2) :: .a (.i .i64 (num a0 0)) :: us 15 ([]), [.row a0 97, .row #[.int .i64 (0 : Int), .int .i64 (0 : Int)] 97, .no, .no, .no, .no, .no, .no], []⟩ : St)) N ([.a (.i .i64 (num a0 1)), .a (.i .i64 (num a0 0))], [])) (fun e s => (kBlock 0 (kSeq (veC Tryd.prog (mkΓ []) N (cAt (codeOf Tryd.f61) [1, 1, 1]) (pAt (mkPlan (codeOf Tryd.f61) [([3, 4], [])]).1 [1, 1, 1]) (SV × Eff × Bool)) (finK Tryd.prog [] [.cell 2 97]))) e (left (writes (cAt (codeOf Tryd.f61) [1, 1, 0, 0, 0])) [3, 4] [] (⟨.a (.g a0 97) :: .a (.w 0) :: .a (.w 1) :: .a (.i .i64 (num a0 1)) :: .a (.i .i64 (num a0 0)) :: .a (.p 0 (1) 2) :: .a (.i .i64 (num a0 1)) :: .a (.p 0 (0) 2) :: .a (.i .i64 (num a0 0)) :: us 15 ([]), [.row a0 97, .row #[.int .i64 (0 : Int), .int .i64 (0 : Int)] 97, .no, .no, .no, .no, .no, .no], []⟩ : St) s)))) (by kernel_rfl) ?_
  simp only [impl_fraction_int64_lowest_n0 N a0]


theorem gcd_loop (a0 : Array Value) : ∀ (n : Nat) (x y : Int), 0 ≤ x → 0 ≤ y → y.toNat < n → iterO (impl_fraction_int64_lowest_g0 Tryd.prog a0) n (x, y) = some (gcdW x y, 0)
  | 0, x, y, _, _, h => by omega
  | n + 1, x, y, hx, hy, h => by
    by_cases e : y = 0
    · subst e
      rw [gcdW_zero hx]
      exact iter_done (by simp only [impl_fraction_int64_lowest_g0]; rfl) n
    · have hp : 0 < y := by omega
      have ht := Int.tmod_lt_of_pos x hp
      have h0 : 0 ≤ x.tmod y := Int.tmod_nonneg _ hx
      rw [iter_step (t' := (y, x.tmod y)) (by simp only [impl_fraction_int64_lowest_g0]; rw [show (y != (0 : Int)) = true from bne_iff_ne.2 e]; rfl) n, gcd_loop a0 n y (x.tmod y) hy h0 (by omega), gcdW_step hx hp]

theorem impl_fraction_int64_lowest_main (a0 : Array Value) (h_a0 : WT Tryd.prog 97 a0) (hg : ((decide (0 ≤ num a0 0) && (decide (0 ≤ num a0 1) && (gcdW (num a0 1) (num a0 0) != 0)))) = true) : ansV Tryd.prog (mkΓ []) 18446744073709551616 Tryd.f61 [([3, 4], [])] [.g a0 97] [] = some (.a (.g #[.int .i64 (IntKind.i64.wrap ((num a0 0).tdiv (gcdW (num a0 1) (num a0 0)))), .int .i64 (IntKind.i64.wrap ((num a0 1).tdiv (gcdW (num a0 1) (num a0 0))))] 97), .none, true) := by
  simp only [Bool.and_eq_true, decide_eq_true_eq] at hg
  obtain ⟨g0, g1, g2⟩ := hg
  have hr := (h_a0.int (k := .i64) (o := 0) (by kernel_rfl)).2
  have hm : num a0 0 ≤ 9223372036854775807 := hr.2
  refine (impl_fraction_int64_lowest_ans 18446744073709551616 a0).trans ?_
  rw [gcd_loop a0 18446744073709551616 (num a0 1) (num a0 0) g1 g0 (by omega)]
  generalize gcdW (num a0 1) (num a0 0) = q at g2
  show impl_fraction_int64_lowest_k0_0 Tryd.prog 18446744073709551616 a0 q 0 = _
  unfold impl_fraction_int64_lowest_k0_0
  rw [g2]
  rfl
noncomputable def impl_fraction_int64_lowest_con : Con := fun args h => match args, h with
  | [.g a0 97], [] => some (.a (.g #[.int .i64 (IntKind.i64.wrap ((num a0 0).tdiv (gcdW (num a0 1) (num a0 0)))), .int .i64 (IntKind.i64.wrap ((num a0 1).tdiv (gcdW (num a0 1) (num a0 0))))] 97), .none, (decide (0 ≤ num a0 0) && (decide (0 ≤ num a0 1) && (gcdW (num a0 1) (num a0 0) != 0))))
  | _, _ => none
theorem impl_fraction_int64_lowest_enter : ∀ args w, (callFunc 61 args).run Tryd.prog w = .ok (.enter 61 args) w := enter_ok (fn := Tryd.f61) (by kernel_rfl) (by kernel_rfl) (by kernel_rfl)
theorem impl_fraction_int64_lowest_ok : ConOk Tryd.prog 61 impl_fraction_int64_lowest_con := (ans_ok (N := 18446744073709551616) (by kernel_rfl) mkΓ_nil (fn := Tryd.f61) (by kernel_rfl) (by kernel_rfl) [([3, 4], [])]).of (by
  intro ρ h w args vals r e hA hH hr
  unfold impl_fraction_int64_lowest_con at hr
  split at hr
  · rename_i a0
    obtain ⟨rfl, hg⟩ := Prod.mk.inj (Option.some.inj hr)
    obtain ⟨rfl, hg2⟩ := Prod.mk.inj hg
    exact impl_fraction_int64_lowest_main a0 (hA.wt 0 rfl) hg2
  · cases hr)

theorem spec_l02Share_ans (N : Nat) (a0 : Int) (a1 : Int) : ansV Tryd.prog (mkΓ [(42, con spec_l02Gcd_con)]) N Tryd.f30 [] [.i .i64 (a0), .i .i64 (a1)] [] = (bif (decide (0 ≤ a0) && decide (0 ≤ a1)) then (bif ((gcdW a0 a1) != 0) then (bif ((gcdW a0 a1) != 0) then (some (.a (.g #[.int .i64 (IntKind.i64.wrap ((a0).tdiv (gcdW a0 a1))), .int .i64 (IntKind.i64.wrap ((a1).tdiv (gcdW a0 a1)))] 45), .none, true))
        else (none))
      else (none))
    else (none)) := by kernel_rfl

noncomputable def spec_l02Share_gd (a0 : Int) (a1 : Int) : Bool := (bif (decide (0 ≤ a0) && decide (0 ≤ a1)) then (bif ((gcdW a0 a1) != 0) then ((gcdW a0 a1) != 0) else false) else false)

theorem spec_l02Share_main (a0 : Int) (a1 : Int) (h_a0 : IntKind.i64.min ≤ a0 ∧ a0 ≤ IntKind.i64.max) (h_a1 : IntKind.i64.min ≤ a1 ∧ a1 ≤ IntKind.i64.max) (hg : ((spec_l02Share_gd a0 a1)) = true) : ansV Tryd.prog (mkΓ [(42, con spec_l02Gcd_con)]) 1000 Tryd.f30 [] [.i .i64 (a0), .i .i64 (a1)] [] = some (.a (.g #[.int .i64 (IntKind.i64.wrap ((a0).tdiv (gcdW a0 a1))), .int .i64 (IntKind.i64.wrap ((a1).tdiv (gcdW a0 a1)))] 45), .none, true) := by
  refine (spec_l02Share_ans 1000 a0 a1).trans ?_
  unfold spec_l02Share_gd at hg
  revert hg
  generalize (decide (0 ≤ a0)) = b2
  intro hg
  cases b2
  · skip
    first | exact (nomatch (hg : false = true)) | (simp only [cond_true, cond_false, Bool.and_true, Bool.true_and, Bool.and_false, Bool.false_and]; done) | rfl
  · skip
    revert hg
    generalize (decide (0 ≤ a1)) = b4
    intro hg
    cases b4
    · skip
      first | exact (nomatch (hg : false = true)) | (simp only [cond_true, cond_false, Bool.and_true, Bool.true_and, Bool.and_false, Bool.false_and]; done) | rfl
    · skip
      revert hg
      generalize (((gcdW a0 a1) != 0)) = b6
      intro hg
      cases b6
      · skip
        first | exact (nomatch (hg : false = true)) | (simp only [cond_true, cond_false, Bool.and_true, Bool.true_and, Bool.and_false, Bool.false_and]; done) | rfl
      · skip
        first | (simp only [cond_true, cond_false, Bool.and_true, Bool.true_and, Bool.and_false, Bool.false_and]; done) | rfl | exact (nomatch (hg : false = true))
noncomputable def spec_l02Share_con : Con := fun args h => match args, h with
  | [.i .i64 a0, .i .i64 a1], [] => some (.a (.g #[.int .i64 (IntKind.i64.wrap ((a0).tdiv (gcdW a0 a1))), .int .i64 (IntKind.i64.wrap ((a1).tdiv (gcdW a0 a1)))] 45), .none, (spec_l02Share_gd a0 a1))
  | _, _ => none
theorem spec_l02Share_enter : ∀ args w, (callFunc 30 args).run Tryd.prog w = .ok (.enter 30 args) w := enter_ok (fn := Tryd.f30) (by kernel_rfl) (by kernel_rfl) (by kernel_rfl)
theorem spec_l02Share_ok : ConOk Tryd.prog 30 spec_l02Share_con := (ans_ok (N := 1000) (by kernel_rfl) (mkΓ_cons (con_ok spec_l02Gcd_ok) spec_l02Gcd_enter mkΓ_nil) (fn := Tryd.f30) (by kernel_rfl) (by kernel_rfl) []).of (by
  intro ρ h w args vals r e hA hH hr
  unfold spec_l02Share_con at hr
  split at hr
  · rename_i a0 a1
    obtain ⟨rfl, hg⟩ := Prod.mk.inj (Option.some.inj hr)
    obtain ⟨rfl, hg2⟩ := Prod.mk.inj hg
    exact spec_l02Share_main a0 a1 (hA.rng 0 rfl) (hA.rng 1 rfl) hg2
  · cases hr)

theorem impl_shareOf_ans (N : Nat) (a0 : Int) (a1 : Int) : ansV Tryd.prog (mkΓ [(61, con impl_fraction_int64_lowest_con)]) N Tryd.f43 [] [.i .i64 (a0), .i .i64 (a1)] [] = (bif (decide (0 ≤ num (#[.int .i64 (a0), .int .i64 (a1)] : Array Value) 0) && (decide (0 ≤ num (#[.int .i64 (a0), .int .i64 (a1)] : Array Value) 1) && (gcdW (num (#[.int .i64 (a0), .int .i64 (a1)] : Array Value) 1) (num (#[.int .i64 (a0), .int .i64 (a1)] : Array Value) 0) != 0))) then (some (.a (.g #[.int .i64 (IntKind.i64.wrap ((num (#[.int .i64 (a0), .int .i64 (a1)] : Array Value) 0).tdiv (gcdW (num (#[.int .i64 (a0), .int .i64 (a1)] : Array Value) 1) (num (#[.int .i64 (a0), .int .i64 (a1)] : Array Value) 0)))), .int .i64 (IntKind.i64.wrap ((num (#[.int .i64 (a0), .int .i64 (a1)] : Array Value) 1).tdiv (gcdW (num (#[.int .i64 (a0), .int .i64 (a1)] : Array Value) 1) (num (#[.int .i64 (a0), .int .i64 (a1)] : Array Value) 0))))] 45), .none, true))
    else (none)) := by kernel_rfl

noncomputable def impl_shareOf_v0 (a0 : Int) (a1 : Int) : Array Value := #[.int .i64 (IntKind.i64.wrap ((num (#[.int .i64 (a0), .int .i64 (a1)] : Array Value) 0).tdiv (gcdW (num (#[.int .i64 (a0), .int .i64 (a1)] : Array Value) 1) (num (#[.int .i64 (a0), .int .i64 (a1)] : Array Value) 0)))), .int .i64 (IntKind.i64.wrap ((num (#[.int .i64 (a0), .int .i64 (a1)] : Array Value) 1).tdiv (gcdW (num (#[.int .i64 (a0), .int .i64 (a1)] : Array Value) 1) (num (#[.int .i64 (a0), .int .i64 (a1)] : Array Value) 0))))]
noncomputable def impl_shareOf_gd (a0 : Int) (a1 : Int) : Bool := (decide (0 ≤ num (#[.int .i64 (a0), .int .i64 (a1)] : Array Value) 0) && (decide (0 ≤ num (#[.int .i64 (a0), .int .i64 (a1)] : Array Value) 1) && (gcdW (num (#[.int .i64 (a0), .int .i64 (a1)] : Array Value) 1) (num (#[.int .i64 (a0), .int .i64 (a1)] : Array Value) 0) != 0)))

theorem impl_shareOf_main (a0 : Int) (a1 : Int) (h_a0 : IntKind.i64.min ≤ a0 ∧ a0 ≤ IntKind.i64.max) (h_a1 : IntKind.i64.min ≤ a1 ∧ a1 ≤ IntKind.i64.max) (hg : ((impl_shareOf_gd a0 a1)) = true) : ansV Tryd.prog (mkΓ [(61, con impl_fraction_int64_lowest_con)]) 1000 Tryd.f43 [] [.i .i64 (a0), .i .i64 (a1)] [] = some (.a (.g (impl_shareOf_v0 a0 a1) 45), .none, true) := by
  refine (impl_shareOf_ans 1000 a0 a1).trans ?_
  unfold impl_shareOf_gd at hg
  unfold impl_shareOf_v0
  revert hg
  generalize ((decide (0 ≤ num (#[.int .i64 (a0), .int .i64 (a1)] : Array Value) 0) && (decide (0 ≤ num (#[.int .i64 (a0), .int .i64 (a1)] : Array Value) 1) && (gcdW (num (#[.int .i64 (a0), .int .i64 (a1)] : Array Value) 1) (num (#[.int .i64 (a0), .int .i64 (a1)] : Array Value) 0) != 0)))) = b2
  intro hg
  cases b2
  · skip
    first | exact (nomatch (hg : false = true)) | (simp only [cond_true, cond_false, Bool.and_true, Bool.true_and, Bool.and_false, Bool.false_and]; done) | rfl
  · skip
    first | (simp only [cond_true, cond_false, Bool.and_true, Bool.true_and, Bool.and_false, Bool.false_and]; done) | rfl | exact (nomatch (hg : false = true))
noncomputable def impl_shareOf_con : Con := fun args h => match args, h with
  | [.i .i64 a0, .i .i64 a1], [] => some (.a (.g (impl_shareOf_v0 a0 a1) 45), .none, (impl_shareOf_gd a0 a1))
  | _, _ => none
theorem impl_shareOf_enter : ∀ args w, (callFunc 43 args).run Tryd.prog w = .ok (.enter 43 args) w := enter_ok (fn := Tryd.f43) (by kernel_rfl) (by kernel_rfl) (by kernel_rfl)
theorem impl_shareOf_ok : ConOk Tryd.prog 43 impl_shareOf_con := (ans_ok (N := 1000) (by kernel_rfl) (mkΓ_cons (con_ok impl_fraction_int64_lowest_ok) impl_fraction_int64_lowest_enter mkΓ_nil) (fn := Tryd.f43) (by kernel_rfl) (by kernel_rfl) []).of (by
  intro ρ h w args vals r e hA hH hr
  unfold impl_shareOf_con at hr
  split at hr
  · rename_i a0 a1
    obtain ⟨rfl, hg⟩ := Prod.mk.inj (Option.some.inj hr)
    obtain ⟨rfl, hg2⟩ := Prod.mk.inj hg
    exact impl_shareOf_main a0 a1 (hA.rng 0 rfl) (hA.rng 1 rfl) hg2
  · cases hr)

theorem laws_eqShare_ans (N : Nat) (a0 : Array Value) (a1 : Array Value) : ansV Tryd.prog (mkΓ []) N Tryd.f17 [] [.g a0 45, .g a1 45] [] = (bif ((num a0 0) != (num a1 0)) then (some (.a (.b (false)), .none, true))
    else (bif ((num a0 1) != (num a1 1)) then (some (.a (.b (false)), .none, true))
      else (some (.a (.b (true)), .none, true)))) := by kernel_rfl

noncomputable def laws_eqShare_v0 (a0 : Array Value) (a1 : Array Value) : Bool := (bif ((num a0 0) != (num a1 0)) then false else (bif ((num a0 1) != (num a1 1)) then false else true))

theorem laws_eqShare_main (a0 : Array Value) (a1 : Array Value) (h_a0 : WT Tryd.prog 45 a0) (h_a1 : WT Tryd.prog 45 a1) (hg : (true) = true) : ansV Tryd.prog (mkΓ []) 1000 Tryd.f17 [] [.g a0 45, .g a1 45] [] = some (.a (.b ((laws_eqShare_v0 a0 a1))), .none, true) := by
  refine (laws_eqShare_ans 1000 a0 a1).trans ?_
  unfold laws_eqShare_v0
  revert hg
  generalize (((num a0 0) != (num a1 0))) = b2
  intro hg
  cases b2
  · skip
    revert hg
    generalize (((num a0 1) != (num a1 1))) = b4
    intro hg
    cases b4
    · skip
      first | (simp only [cond_true, cond_false, Bool.and_true, Bool.true_and, Bool.and_false, Bool.false_and]; done) | rfl | exact (nomatch (hg : false = true))
    · skip
      first | (simp only [cond_true, cond_false, Bool.and_true, Bool.true_and, Bool.and_false, Bool.false_and]; done) | rfl | exact (nomatch (hg : false = true))
  · skip
    first | (simp only [cond_true, cond_false, Bool.and_true, Bool.true_and, Bool.and_false, Bool.false_and]; done) | rfl | exact (nomatch (hg : false = true))
noncomputable def laws_eqShare_con : Con := fun args h => match args, h with
  | [.g a0 45, .g a1 45], [] => some (.a (.b ((laws_eqShare_v0 a0 a1))), .none, true)
  | _, _ => none
theorem laws_eqShare_enter : ∀ args w, (callFunc 17 args).run Tryd.prog w = .ok (.enter 17 args) w := enter_ok (fn := Tryd.f17) (by kernel_rfl) (by kernel_rfl) (by kernel_rfl)
theorem laws_eqShare_ok : ConOk Tryd.prog 17 laws_eqShare_con := (ans_ok (N := 1000) (by kernel_rfl) mkΓ_nil (fn := Tryd.f17) (by kernel_rfl) (by kernel_rfl) []).of (by
  intro ρ h w args vals r e hA hH hr
  unfold laws_eqShare_con at hr
  split at hr
  · rename_i a0 a1
    obtain ⟨rfl, hg⟩ := Prod.mk.inj (Option.some.inj hr)
    obtain ⟨rfl, hg2⟩ := Prod.mk.inj hg
    exact laws_eqShare_main a0 a1 (hA.wt 0 rfl) (hA.wt 1 rfl) hg2
  · cases hr)

end
end Go.Proofs.YtmkkckhfghomfaaDoor
