/- Bounds that are a proof, as the program looks. -/
import Derived.Test.YtmkkckhfghomfaaProg
import Derived.Test.YtmkkckhfghomfaaVeBnA
namespace Go.Proofs.Ytmkkckhfghomfaa
open Go.ChangeShapes Go.WideShapes Go.ChangeAt Go.RowKit Ve
set_option linter.unusedVariables false
set_option linter.unusedSimpArgs false
set_option maxRecDepth 100000
noncomputable section
noncomputable def impl_isBound_e0 : Bool × Int → LS
  | (y0_4, y0_8) => ([.a (.b (y0_4)), .a (.i .i64 (y0_8))], [])

noncomputable def impl_isBound_x0 : (Stp (Bool × Int) (Bool × Int)) → Exit × LS
  | .more t => (.ret, impl_isBound_e0 t)
  | .done t => ((.exit 0), impl_isBound_e0 t)

noncomputable def impl_isBound_g0 (P : Program) (a0 : Array Value) (a1 : Array Value) : Bool × Int → Option (Stp (Bool × Int) (Stp (Bool × Int) (Bool × Int)))
  | (y0_4, y0_8) => bif decide (y0_8 < (36 : Int)) then (bif (decide (0 ≤ y0_8) && decide (y0_8 < 36)) then (bif decide ((num a1 ((y0_8).toNat * 1)) < (0 : Int)) then (some (.done (.more (false, y0_8))))
        else (bif (decide (0 ≤ (14 : Int)) && decide ((14 : Int) ≤ 14)) then (bif decide ((num a1 ((y0_8).toNat * 1)) > (12 ^ (14 : Int).toNat)) then (some (.done (.more (false, y0_8))))
            else (bif decide ((num a1 ((y0_8).toNat * 1)) > (0 : Int)) then (bif (!((impl_hasCell_v0 a0 y0_8))) then (some (.done (.more (false, y0_8))))
                else (some (.more (y0_4, (IntKind.i64.wrap (y0_8 + (1 : Int)))))))
              else (some (.more (y0_4, (IntKind.i64.wrap (y0_8 + (1 : Int))))))))
          else (none)))
      else (none))
    else (some (.done (.done (y0_4, y0_8))))

theorem impl_isBound_s0 (N : Nat) (a0 : Array Value) (a1 : Array Value) : ∀ t : Bool × Int, stepV Try.prog (mkΓ [(77, con impl_hasCell_con), (102, con impl_partsAfter_con)]) N (cAt (codeOf Try.f87) [1, 0, 1, 0, 0]) (pAt (mkPlan (codeOf Try.f87) [([4, 8], [])]).1 [1, 0, 1, 0]) [4, 8] [] (⟨.a (.g a0 36) :: .a (.g a1 61) :: .a (.w 0) :: .a (.w 1) :: .a (.b (false)) :: .a (.u) :: .a (.u) :: .a (.g a1 61) :: .a (.i .i64 (0 : Int)) :: us 21 ([]), [.row a0 36, .row a1 61, .no], []⟩ : St) (impl_isBound_e0 t) = mapS impl_isBound_e0 impl_isBound_x0 (impl_isBound_g0 Try.prog a0 a1 t) := by
  rintro ⟨y0_4, y0_8⟩
  refine Eq.trans (b := (bif decide (y0_8 < (36 : Int)) then (bif (decide (0 ≤ y0_8) && decide (y0_8 < 36)) then (bif decide ((num a1 ((y0_8).toNat * 1)) < (0 : Int)) then (some (.done (.ret, ([.a (.b (false)), .a (.i .i64 (y0_8))], []))))
        else (bif (decide (0 ≤ (14 : Int)) && decide ((14 : Int) ≤ 14)) then (bif decide ((num a1 ((y0_8).toNat * 1)) > (12 ^ (14 : Int).toNat)) then (some (.done (.ret, ([.a (.b (false)), .a (.i .i64 (y0_8))], []))))
            else (bif decide ((num a1 ((y0_8).toNat * 1)) > (0 : Int)) then (bif (!((impl_hasCell_v0 a0 y0_8))) then (some (.done (.ret, ([.a (.b (false)), .a (.i .i64 (y0_8))], []))))
                else (some (.more ([.a (.b (y0_4)), .a (.i .i64 (IntKind.i64.wrap (y0_8 + (1 : Int))))], []))))
              else (some (.more ([.a (.b (y0_4)), .a (.i .i64 (IntKind.i64.wrap (y0_8 + (1 : Int))))], [])))))
          else (none)))
      else (none))
    else (some (.done ((.exit 0), ([.a (.b (y0_4)), .a (.i .i64 (y0_8))], [])))))) (by kernel_rfl) ?_
  simp only [impl_isBound_g0, mapS_cond, mapS_more, mapS_done, mapS_none, impl_isBound_e0, impl_isBound_x0]

noncomputable def impl_isBound_k0_0 (P : Program) (N : Nat) (a0 : Array Value) (a1 : Array Value) (z0_4 : Bool) (z0_8 : Int) : Option (SV × Eff × Bool) := some (.a (.b (z0_4)), .none, true)

theorem impl_isBound_k0_0_eq (N : Nat) (a0 : Array Value) (a1 : Array Value) (z0_4 : Bool) (z0_8 : Int) : (kBlock 0 (kSeq (veC Try.prog (mkΓ [(77, con impl_hasCell_con), (102, con impl_partsAfter_con)]) N (cAt (codeOf Try.f87) [1, 1]) (pAt (mkPlan (codeOf Try.f87) [([4, 8], [])]).1 [1, 1]) (SV × Eff × Bool)) (finK Try.prog [] [.tmp 4]))) .ret (left (writes (cAt (codeOf Try.f87) [1, 0, 1, 0, 0])) [4, 8] [] (⟨.a (.g a0 36) :: .a (.g a1 61) :: .a (.w 0) :: .a (.w 1) :: .a (.b (false)) :: .a (.u) :: .a (.u) :: .a (.g a1 61) :: .a (.i .i64 (0 : Int)) :: us 21 ([]), [.row a0 36, .row a1 61, .no], []⟩ : St) ([.a (.b (z0_4)), .a (.i .i64 (z0_8))], [])) = impl_isBound_k0_0 Try.prog N a0 a1 z0_4 z0_8 := by
  refine Eq.trans (b := (some (.a (.b (z0_4)), .none, true))) (by kernel_rfl) ?_
  rfl

noncomputable def impl_isBound_k0_1 (P : Program) (N : Nat) (a0 : Array Value) (a1 : Array Value) (z0_4 : Bool) (z0_8 : Int) : Option (SV × Eff × Bool) := some (.a (.b (true)), .none, true)

theorem impl_isBound_k0_1_eq (N : Nat) (a0 : Array Value) (a1 : Array Value) (z0_4 : Bool) (z0_8 : Int) : (kBlock 0 (kSeq (veC Try.prog (mkΓ [(77, con impl_hasCell_con), (102, con impl_partsAfter_con)]) N (cAt (codeOf Try.f87) [1, 1]) (pAt (mkPlan (codeOf Try.f87) [([4, 8], [])]).1 [1, 1]) (SV × Eff × Bool)) (finK Try.prog [] [.tmp 4]))) (.exit 0) (left (writes (cAt (codeOf Try.f87) [1, 0, 1, 0, 0])) [4, 8] [] (⟨.a (.g a0 36) :: .a (.g a1 61) :: .a (.w 0) :: .a (.w 1) :: .a (.b (false)) :: .a (.u) :: .a (.u) :: .a (.g a1 61) :: .a (.i .i64 (0 : Int)) :: us 21 ([]), [.row a0 36, .row a1 61, .no], []⟩ : St) ([.a (.b (z0_4)), .a (.i .i64 (z0_8))], [])) = impl_isBound_k0_1 Try.prog N a0 a1 z0_4 z0_8 := by
  refine Eq.trans (b := (some (.a (.b (true)), .none, true))) (by kernel_rfl) ?_
  rfl

theorem impl_isBound_n0 (N : Nat) (a0 : Array Value) (a1 : Array Value) : bindX (iterO (stepV Try.prog (mkΓ [(77, con impl_hasCell_con), (102, con impl_partsAfter_con)]) N (cAt (codeOf Try.f87) [1, 0, 1, 0, 0]) (pAt (mkPlan (codeOf Try.f87) [([4, 8], [])]).1 [1, 0, 1, 0]) [4, 8] [] (⟨.a (.g a0 36) :: .a (.g a1 61) :: .a (.w 0) :: .a (.w 1) :: .a (.b (false)) :: .a (.u) :: .a (.u) :: .a (.g a1 61) :: .a (.i .i64 (0 : Int)) :: us 21 ([]), [.row a0 36, .row a1 61, .no], []⟩ : St)) N ([.a (.b (false)), .a (.i .i64 (0 : Int))], [])) (fun e s => (kBlock 0 (kSeq (veC Try.prog (mkΓ [(77, con impl_hasCell_con), (102, con impl_partsAfter_con)]) N (cAt (codeOf Try.f87) [1, 1]) (pAt (mkPlan (codeOf Try.f87) [([4, 8], [])]).1 [1, 1]) (SV × Eff × Bool)) (finK Try.prog [] [.tmp 4]))) e (left (writes (cAt (codeOf Try.f87) [1, 0, 1, 0, 0])) [4, 8] [] (⟨.a (.g a0 36) :: .a (.g a1 61) :: .a (.w 0) :: .a (.w 1) :: .a (.b (false)) :: .a (.u) :: .a (.u) :: .a (.g a1 61) :: .a (.i .i64 (0 : Int)) :: us 21 ([]), [.row a0 36, .row a1 61, .no], []⟩ : St) s)) = nodeX (iterO (impl_isBound_g0 Try.prog a0 a1) N (false, (0 : Int))) (st2 (fun x => impl_isBound_k0_0 Try.prog N a0 a1 x.1 x.2) (fun x => impl_isBound_k0_1 Try.prog N a0 a1 x.1 x.2)) := by
  refine loop_node impl_isBound_e0 impl_isBound_x0 _ _ (impl_isBound_s0 N a0 a1) N (false, (0 : Int)) _ _ ?_
  intro x
  cases x with
  | more x => exact impl_isBound_k0_0_eq N a0 a1 x.1 x.2
  | done x => exact impl_isBound_k0_1_eq N a0 a1 x.1 x.2

theorem impl_isBound_ans (N : Nat) (a0 : Array Value) (a1 : Array Value) : ansV Try.prog (mkΓ [(77, con impl_hasCell_con), (102, con impl_partsAfter_con)]) N Try.f87 [([4, 8], [])] [.g a0 36, .g a1 61] [] = (nodeX (iterO (impl_isBound_g0 Try.prog a0 a1) N (false, (0 : Int))) (st2 (fun x => impl_isBound_k0_0 Try.prog N a0 a1 x.1 x.2) (fun x => impl_isBound_k0_1 Try.prog N a0 a1 x.1 x.2))) := by
  refine Eq.trans (b := (bindX (iterO (stepV Try.prog (mkΓ [(77, con impl_hasCell_con), (102, con impl_partsAfter_con)]) N (cAt (codeOf Try.f87) [1, 0, 1, 0, 0]) (pAt (mkPlan (codeOf Try.f87) [([4, 8], [])]).1 [1, 0, 1, 0]) [4, 8] [] (⟨.a (.g a0 36) :: .a (.g a1 61) :: .a (.w 0) :: .a (.w 1) :: .a (.b (false)) :: .a (.u) :: .a (.u) :: .a (.g a1 61) :: .a (.i .i64 (0 : Int)) :: us 21 ([]), [.row a0 36, .row a1 61, .no], []⟩ : St)) N ([.a (.b (false)), .a (.i .i64 (0 : Int))], [])) (fun e s => (kBlock 0 (kSeq (veC Try.prog (mkΓ [(77, con impl_hasCell_con), (102, con impl_partsAfter_con)]) N (cAt (codeOf Try.f87) [1, 1]) (pAt (mkPlan (codeOf Try.f87) [([4, 8], [])]).1 [1, 1]) (SV × Eff × Bool)) (finK Try.prog [] [.tmp 4]))) e (left (writes (cAt (codeOf Try.f87) [1, 0, 1, 0, 0])) [4, 8] [] (⟨.a (.g a0 36) :: .a (.g a1 61) :: .a (.w 0) :: .a (.w 1) :: .a (.b (false)) :: .a (.u) :: .a (.u) :: .a (.g a1 61) :: .a (.i .i64 (0 : Int)) :: us 21 ([]), [.row a0 36, .row a1 61, .no], []⟩ : St) s)))) (by kernel_rfl) ?_
  simp only [impl_isBound_n0 N a0 a1]

theorem impl_isBound_main (a0 : Array Value) (a1 : Array Value) (h_a0 : WT Try.prog 36 a0) (h_a1 : WT Try.prog 61 a1) (hg : (true) = true) : ansV Try.prog (mkΓ [(77, con impl_hasCell_con), (102, con impl_partsAfter_con)]) 1000 Try.f87 [([4, 8], [])] [.g a0 36, .g a1 61] [] = some (.a (.b ((bnB a0 a1))), .none, true) := by
  refine (impl_isBound_ans 1000 a0 a1).trans ?_
  refine (iter_first (g := impl_isBound_g0 Try.prog a0 a1) (fun k => (false, (k : Int))) (bnP a0 a1) 36 (N := 1000) (xd := .done (false, (36 : Int))) (by omega) (fun k hk hp => by
    have h1 : decide ((k : Int) < 36) = true := decide_eq_true (by omega)
    have h0 : decide (0 ≤ (k : Int)) = true := decide_eq_true (by omega)
    have h3 : IntKind.i64.wrap ((k : Int) + 1) = ((k + 1 : Nat) : Int) := by rw [w64 (by omega)]; omega
    have e14 : (decide (0 ≤ (14 : Int)) && decide ((14 : Int) ≤ 14)) = true := by decide
    have e12 : ((12 : Int) ^ (14 : Int).toNat) = 12 ^ 14 := rfl
    unfold bnP at hp
    rw [Bool.and_eq_true, in_eq] at hp
    have hr := of_decide_eq_true hp.1
    have g1 : decide (num a1 (k * 1) < 0) = false := decide_eq_false (by omega)
    have g2 : decide (num a1 (k * 1) > 12 ^ 14) = false := decide_eq_false (by omega)
    cases hc : spec_l01Is_v0 (k : Int) a0 with
    | true =>
      simp only [impl_isBound_g0, h1, h0, h3, Int.toNat_natCast, Bool.and_self, cond_true, cond_false, g1, g2, e14, e12, cell_is, hc, Bool.not_true]
      cases decide (num a1 (k * 1) > 0) <;> rfl
    | false =>
      rw [hc, Bool.false_or] at hp
      have g3 : decide (num a1 (k * 1) > 0) = false := decide_eq_false (by rw [eq_of_beq hp.2]; omega)
      simp only [impl_isBound_g0, h1, h0, h3, Int.toNat_natCast, Bool.and_self, cond_true, cond_false, g1, g2, g3, e14, e12]) (by
    have h1 : decide (((36 : Nat) : Int) < 36) = false := by decide
    simp only [impl_isBound_g0, h1, cond_false]
    rfl) (bnB a0 a1) (all36 36 _) (some (.a (.b true), .none, true)) (some (.a (.b false), .none, true)) rfl (fun k hk hp => by
    refine ⟨.more (false, (k : Int)), ?_, rfl⟩
    have h1 : decide ((k : Int) < 36) = true := decide_eq_true (by omega)
    have h0 : decide (0 ≤ (k : Int)) = true := decide_eq_true (by omega)
    have h3 : IntKind.i64.wrap ((k : Int) + 1) = ((k + 1 : Nat) : Int) := by rw [w64 (by omega)]; omega
    have e14 : (decide (0 ≤ (14 : Int)) && decide ((14 : Int) ≤ 14)) = true := by decide
    have e12 : ((12 : Int) ^ (14 : Int).toNat) = 12 ^ 14 := rfl
    have hp' : bnP a0 a1 k = false := hp
    unfold bnP at hp'
    rw [in_eq] at hp'
    by_cases c1 : num a1 (k * 1) < 0
    · simp only [impl_isBound_g0, h1, h0, Int.toNat_natCast, Bool.and_self, cond_true, decide_eq_true c1]
    · by_cases c2 : num a1 (k * 1) > 12 ^ 14
      · simp only [impl_isBound_g0, h1, h0, Int.toNat_natCast, Bool.and_self, cond_true, cond_false, decide_eq_false c1, e14, e12, decide_eq_true c2]
      · rw [decide_eq_true (show 0 ≤ num a1 (k * 1) ∧ num a1 (k * 1) ≤ 12 ^ 14 by omega), Bool.true_and, Bool.or_eq_false_iff] at hp'
        have c3 : num a1 (k * 1) > 0 := by
          have : num a1 (k * 1) ≠ 0 := by simpa using hp'.2
          omega
        simp only [impl_isBound_g0, h1, h0, Int.toNat_natCast, Bool.and_self, cond_true, cond_false, decide_eq_false c1, e14, e12, decide_eq_false c2, decide_eq_true c3, cell_is, hp'.1, Bool.not_false])).trans ?_
  cases bnB a0 a1 <;> rfl
noncomputable def impl_isBound_con : Con := fun args h => match args, h with
  | [.g a0 36, .g a1 61], [] => some (.a (.b ((bnB a0 a1))), .none, true)
  | _, _ => none
theorem impl_isBound_enter : ∀ args w, (callFunc 87 args).run Try.prog w = .ok (.enter 87 args) w := enter_ok (fn := Try.f87) (by kernel_rfl) (by kernel_rfl) (by kernel_rfl)
theorem impl_isBound_ok : ConOk Try.prog 87 impl_isBound_con := (ans_ok (N := 1000) (by kernel_rfl) (mkΓ_cons (con_ok impl_hasCell_ok) impl_hasCell_enter (mkΓ_cons (con_ok impl_partsAfter_ok) impl_partsAfter_enter mkΓ_nil)) (fn := Try.f87) (by kernel_rfl) (by kernel_rfl) [([4, 8], [])]).of (by
  intro ρ h w args vals r e hA hH hr
  unfold impl_isBound_con at hr
  split at hr
  · rename_i a0 a1
    obtain ⟨rfl, hg⟩ := Prod.mk.inj (Option.some.inj hr)
    obtain ⟨rfl, hg2⟩ := Prod.mk.inj hg
    exact impl_isBound_main a0 a1 (hA.wt 0 rfl) (hA.wt 1 rfl) hg2
  · cases hr)

noncomputable def impl_covers_e0 : Bool × Int → LS
  | (y0_4, y0_8) => ([.a (.b (y0_4)), .a (.i .i64 (y0_8))], [])

noncomputable def impl_covers_x0 : (Stp (Bool × Int) (Bool × Int)) → Exit × LS
  | .more t => (.ret, impl_covers_e0 t)
  | .done t => ((.exit 0), impl_covers_e0 t)

noncomputable def impl_covers_g0 (P : Program) (a0 : Array Value) (a1 : Array Value) : Bool × Int → Option (Stp (Bool × Int) (Stp (Bool × Int) (Bool × Int)))
  | (y0_4, y0_8) => bif decide (y0_8 < (36 : Int)) then (bif (decide (0 ≤ y0_8) && decide (y0_8 < 36)) then (bif (decide (0 ≤ y0_8) && decide (y0_8 < 36)) then (bif decide ((num a0 ((y0_8).toNat * 1)) < (num a1 ((y0_8).toNat * 1))) then (some (.done (.more (false, y0_8))))
          else (some (.more (y0_4, (IntKind.i64.wrap (y0_8 + (1 : Int)))))))
        else (none))
      else (none))
    else (some (.done (.done (y0_4, y0_8))))

theorem impl_covers_s0 (N : Nat) (a0 : Array Value) (a1 : Array Value) : ∀ t : Bool × Int, stepV Try.prog (mkΓ []) N (cAt (codeOf Try.f89) [1, 0, 1, 0, 0]) (pAt (mkPlan (codeOf Try.f89) [([4, 8], [])]).1 [1, 0, 1, 0]) [4, 8] [] (⟨.a (.g a0 61) :: .a (.g a1 61) :: .a (.w 0) :: .a (.w 1) :: .a (.b (false)) :: .a (.u) :: .a (.u) :: .a (.g a1 61) :: .a (.i .i64 (0 : Int)) :: us 9 ([]), [.row a0 61, .row a1 61, .no], []⟩ : St) (impl_covers_e0 t) = mapS impl_covers_e0 impl_covers_x0 (impl_covers_g0 Try.prog a0 a1 t) := by
  rintro ⟨y0_4, y0_8⟩
  refine Eq.trans (b := (bif decide (y0_8 < (36 : Int)) then (bif (decide (0 ≤ y0_8) && decide (y0_8 < 36)) then (bif (decide (0 ≤ y0_8) && decide (y0_8 < 36)) then (bif decide ((num a0 ((y0_8).toNat * 1)) < (num a1 ((y0_8).toNat * 1))) then (some (.done (.ret, ([.a (.b (false)), .a (.i .i64 (y0_8))], []))))
          else (some (.more ([.a (.b (y0_4)), .a (.i .i64 (IntKind.i64.wrap (y0_8 + (1 : Int))))], []))))
        else (none))
      else (none))
    else (some (.done ((.exit 0), ([.a (.b (y0_4)), .a (.i .i64 (y0_8))], [])))))) (by kernel_rfl) ?_
  simp only [impl_covers_g0, mapS_cond, mapS_more, mapS_done, mapS_none, impl_covers_e0, impl_covers_x0]

noncomputable def impl_covers_k0_0 (P : Program) (N : Nat) (a0 : Array Value) (a1 : Array Value) (z0_4 : Bool) (z0_8 : Int) : Option (SV × Eff × Bool) := some (.a (.b (z0_4)), .none, true)

theorem impl_covers_k0_0_eq (N : Nat) (a0 : Array Value) (a1 : Array Value) (z0_4 : Bool) (z0_8 : Int) : (kBlock 0 (kSeq (veC Try.prog (mkΓ []) N (cAt (codeOf Try.f89) [1, 1]) (pAt (mkPlan (codeOf Try.f89) [([4, 8], [])]).1 [1, 1]) (SV × Eff × Bool)) (finK Try.prog [] [.tmp 4]))) .ret (left (writes (cAt (codeOf Try.f89) [1, 0, 1, 0, 0])) [4, 8] [] (⟨.a (.g a0 61) :: .a (.g a1 61) :: .a (.w 0) :: .a (.w 1) :: .a (.b (false)) :: .a (.u) :: .a (.u) :: .a (.g a1 61) :: .a (.i .i64 (0 : Int)) :: us 9 ([]), [.row a0 61, .row a1 61, .no], []⟩ : St) ([.a (.b (z0_4)), .a (.i .i64 (z0_8))], [])) = impl_covers_k0_0 Try.prog N a0 a1 z0_4 z0_8 := by
  refine Eq.trans (b := (some (.a (.b (z0_4)), .none, true))) (by kernel_rfl) ?_
  rfl

noncomputable def impl_covers_k0_1 (P : Program) (N : Nat) (a0 : Array Value) (a1 : Array Value) (z0_4 : Bool) (z0_8 : Int) : Option (SV × Eff × Bool) := some (.a (.b (true)), .none, true)

theorem impl_covers_k0_1_eq (N : Nat) (a0 : Array Value) (a1 : Array Value) (z0_4 : Bool) (z0_8 : Int) : (kBlock 0 (kSeq (veC Try.prog (mkΓ []) N (cAt (codeOf Try.f89) [1, 1]) (pAt (mkPlan (codeOf Try.f89) [([4, 8], [])]).1 [1, 1]) (SV × Eff × Bool)) (finK Try.prog [] [.tmp 4]))) (.exit 0) (left (writes (cAt (codeOf Try.f89) [1, 0, 1, 0, 0])) [4, 8] [] (⟨.a (.g a0 61) :: .a (.g a1 61) :: .a (.w 0) :: .a (.w 1) :: .a (.b (false)) :: .a (.u) :: .a (.u) :: .a (.g a1 61) :: .a (.i .i64 (0 : Int)) :: us 9 ([]), [.row a0 61, .row a1 61, .no], []⟩ : St) ([.a (.b (z0_4)), .a (.i .i64 (z0_8))], [])) = impl_covers_k0_1 Try.prog N a0 a1 z0_4 z0_8 := by
  refine Eq.trans (b := (some (.a (.b (true)), .none, true))) (by kernel_rfl) ?_
  rfl

theorem impl_covers_n0 (N : Nat) (a0 : Array Value) (a1 : Array Value) : bindX (iterO (stepV Try.prog (mkΓ []) N (cAt (codeOf Try.f89) [1, 0, 1, 0, 0]) (pAt (mkPlan (codeOf Try.f89) [([4, 8], [])]).1 [1, 0, 1, 0]) [4, 8] [] (⟨.a (.g a0 61) :: .a (.g a1 61) :: .a (.w 0) :: .a (.w 1) :: .a (.b (false)) :: .a (.u) :: .a (.u) :: .a (.g a1 61) :: .a (.i .i64 (0 : Int)) :: us 9 ([]), [.row a0 61, .row a1 61, .no], []⟩ : St)) N ([.a (.b (false)), .a (.i .i64 (0 : Int))], [])) (fun e s => (kBlock 0 (kSeq (veC Try.prog (mkΓ []) N (cAt (codeOf Try.f89) [1, 1]) (pAt (mkPlan (codeOf Try.f89) [([4, 8], [])]).1 [1, 1]) (SV × Eff × Bool)) (finK Try.prog [] [.tmp 4]))) e (left (writes (cAt (codeOf Try.f89) [1, 0, 1, 0, 0])) [4, 8] [] (⟨.a (.g a0 61) :: .a (.g a1 61) :: .a (.w 0) :: .a (.w 1) :: .a (.b (false)) :: .a (.u) :: .a (.u) :: .a (.g a1 61) :: .a (.i .i64 (0 : Int)) :: us 9 ([]), [.row a0 61, .row a1 61, .no], []⟩ : St) s)) = nodeX (iterO (impl_covers_g0 Try.prog a0 a1) N (false, (0 : Int))) (st2 (fun x => impl_covers_k0_0 Try.prog N a0 a1 x.1 x.2) (fun x => impl_covers_k0_1 Try.prog N a0 a1 x.1 x.2)) := by
  refine loop_node impl_covers_e0 impl_covers_x0 _ _ (impl_covers_s0 N a0 a1) N (false, (0 : Int)) _ _ ?_
  intro x
  cases x with
  | more x => exact impl_covers_k0_0_eq N a0 a1 x.1 x.2
  | done x => exact impl_covers_k0_1_eq N a0 a1 x.1 x.2

theorem impl_covers_ans (N : Nat) (a0 : Array Value) (a1 : Array Value) : ansV Try.prog (mkΓ []) N Try.f89 [([4, 8], [])] [.g a0 61, .g a1 61] [] = (nodeX (iterO (impl_covers_g0 Try.prog a0 a1) N (false, (0 : Int))) (st2 (fun x => impl_covers_k0_0 Try.prog N a0 a1 x.1 x.2) (fun x => impl_covers_k0_1 Try.prog N a0 a1 x.1 x.2))) := by
  refine Eq.trans (b := (bindX (iterO (stepV Try.prog (mkΓ []) N (cAt (codeOf Try.f89) [1, 0, 1, 0, 0]) (pAt (mkPlan (codeOf Try.f89) [([4, 8], [])]).1 [1, 0, 1, 0]) [4, 8] [] (⟨.a (.g a0 61) :: .a (.g a1 61) :: .a (.w 0) :: .a (.w 1) :: .a (.b (false)) :: .a (.u) :: .a (.u) :: .a (.g a1 61) :: .a (.i .i64 (0 : Int)) :: us 9 ([]), [.row a0 61, .row a1 61, .no], []⟩ : St)) N ([.a (.b (false)), .a (.i .i64 (0 : Int))], [])) (fun e s => (kBlock 0 (kSeq (veC Try.prog (mkΓ []) N (cAt (codeOf Try.f89) [1, 1]) (pAt (mkPlan (codeOf Try.f89) [([4, 8], [])]).1 [1, 1]) (SV × Eff × Bool)) (finK Try.prog [] [.tmp 4]))) e (left (writes (cAt (codeOf Try.f89) [1, 0, 1, 0, 0])) [4, 8] [] (⟨.a (.g a0 61) :: .a (.g a1 61) :: .a (.w 0) :: .a (.w 1) :: .a (.b (false)) :: .a (.u) :: .a (.u) :: .a (.g a1 61) :: .a (.i .i64 (0 : Int)) :: us 9 ([]), [.row a0 61, .row a1 61, .no], []⟩ : St) s)))) (by kernel_rfl) ?_
  simp only [impl_covers_n0 N a0 a1]

theorem impl_covers_main (a0 : Array Value) (a1 : Array Value) (h_a0 : WT Try.prog 61 a0) (h_a1 : WT Try.prog 61 a1) (hg : (true) = true) : ansV Try.prog (mkΓ []) 1000 Try.f89 [([4, 8], [])] [.g a0 61, .g a1 61] [] = some (.a (.b ((cvB a0 a1))), .none, true) := by
  refine (impl_covers_ans 1000 a0 a1).trans ?_
  refine (iter_first (g := impl_covers_g0 Try.prog a0 a1) (fun k => (false, (k : Int))) (cvP a0 a1) 36 (N := 1000) (xd := .done (false, (36 : Int))) (by omega) (fun k hk hp => by
    have h1 : decide ((k : Int) < 36) = true := decide_eq_true (by omega)
    have h0 : decide (0 ≤ (k : Int)) = true := decide_eq_true (by omega)
    have h3 : IntKind.i64.wrap ((k : Int) + 1) = ((k + 1 : Nat) : Int) := by rw [w64 (by omega)]; omega
    unfold cvP at hp
    rw [Bool.not_eq_true'] at hp
    simp only [impl_covers_g0, h1, h0, h3, Int.toNat_natCast, Bool.and_self, cond_true, cond_false, hp]) (by
    have h1 : decide (((36 : Nat) : Int) < 36) = false := by decide
    simp only [impl_covers_g0, h1, cond_false]
    rfl) (cvB a0 a1) (all36 36 _) (some (.a (.b true), .none, true)) (some (.a (.b false), .none, true)) rfl (fun k hk hp => by
    refine ⟨.more (false, (k : Int)), ?_, rfl⟩
    have h1 : decide ((k : Int) < 36) = true := decide_eq_true (by omega)
    have h0 : decide (0 ≤ (k : Int)) = true := decide_eq_true (by omega)
    have h3 : IntKind.i64.wrap ((k : Int) + 1) = ((k + 1 : Nat) : Int) := by rw [w64 (by omega)]; omega
    have hp' : cvP a0 a1 k = false := hp
    unfold cvP at hp'
    rw [Bool.not_eq_false'] at hp'
    simp only [impl_covers_g0, h1, h0, Int.toNat_natCast, Bool.and_self, cond_true, hp'])).trans ?_
  cases cvB a0 a1 <;> rfl
noncomputable def impl_covers_con : Con := fun args h => match args, h with
  | [.g a0 61, .g a1 61], [] => some (.a (.b ((cvB a0 a1))), .none, true)
  | _, _ => none
theorem impl_covers_enter : ∀ args w, (callFunc 89 args).run Try.prog w = .ok (.enter 89 args) w := enter_ok (fn := Try.f89) (by kernel_rfl) (by kernel_rfl) (by kernel_rfl)
theorem impl_covers_ok : ConOk Try.prog 89 impl_covers_con := (ans_ok (N := 1000) (by kernel_rfl) mkΓ_nil (fn := Try.f89) (by kernel_rfl) (by kernel_rfl) [([4, 8], [])]).of (by
  intro ρ h w args vals r e hA hH hr
  unfold impl_covers_con at hr
  split at hr
  · rename_i a0 a1
    obtain ⟨rfl, hg⟩ := Prod.mk.inj (Option.some.inj hr)
    obtain ⟨rfl, hg2⟩ := Prod.mk.inj hg
    exact impl_covers_main a0 a1 (hA.wt 0 rfl) (hA.wt 1 rfl) hg2
  · cases hr)

noncomputable def impl_Bounds_proves_e0 : Bool × Int → LS
  | (y0_8, y0_22) => ([.a (.b (y0_8)), .a (.i .i64 (y0_22))], [])

noncomputable def impl_Bounds_proves_x0 : (Stp (Bool × Int) (Bool × Int)) → Exit × LS
  | .more t => (.ret, impl_Bounds_proves_e0 t)
  | .done t => ((.exit 0), impl_Bounds_proves_e0 t)

noncomputable def impl_Bounds_proves_g0 (P : Program) (a1 : Array Value) (a2 : Int) (a3 : Int) (b_a0 : Option (Option Addr)) (n_a0 : Nat) (a0 : Array Value) : Bool × Int → Option (Stp (Bool × Int) (Stp (Bool × Int) (Bool × Int)))
  | (y0_8, y0_22) => bif decide (y0_22 < (n_a0 : Int)) then (bif (decide (0 ≤ y0_22) && decide (y0_22 < (n_a0 : Int))) then (bif (!((bnB a1 (a0.extract ((y0_22).toNat * 36) (((y0_22).toNat * 36) + 36))))) then (some (.done (.more (false, y0_22))))
        else (some (.more (y0_8, (IntKind.i64.wrap (y0_22 + (1 : Int)))))))
      else (none))
    else (some (.done (.done (y0_8, y0_22))))

theorem impl_Bounds_proves_s0 (N : Nat) (a1 : Array Value) (a2 : Int) (a3 : Int) (b_a0 : Option (Option Addr)) (n_a0 : Nat) (a0 : Array Value) : ∀ t : Bool × Int, stepV Try.prog (mkΓ [(80, con impl_tideIn_con), (82, con most_impl_rowBack_con), (87, con impl_isBound_con), (88, con impl_Bounds_hours_con), (89, con impl_covers_con)]) N (cAt (codeOf Try.f61) [1, 1, 0, 1, 0, 0]) (pAt (mkPlan (codeOf Try.f61) [([8, 22], []), ([8, 11], [])]).1 [1, 1, 0, 1, 0]) [8, 22] [] (⟨.a (.l 0) :: .a (.g a1 36) :: .a (.i .i64 (a2)) :: .a (.i .i64 (a3)) :: .a (.u) :: .a (.w 1) :: .a (.u) :: .a (.u) :: .a (.b (false)) :: us 3 (.a (.l 0) :: .a (.i .i64 (n_a0 : Int)) :: .a (.b (decide ((n_a0 : Int) < (1 : Int)))) :: .a (.b (false)) :: .a (.l 0) :: .a (.i .i64 (n_a0 : Int)) :: .a (.b (decide ((n_a0 : Int) > (15 : Int)))) :: .a (.b (decide ((n_a0 : Int) > (15 : Int)))) :: .a (.l 0) :: .a (.i .i64 (n_a0 : Int)) :: .a (.i .i64 (0 : Int)) :: us 39 ([])), [.sl (.came b_a0) n_a0 a0 61, .row a1 36, .no], []⟩ : St) (impl_Bounds_proves_e0 t) = mapS impl_Bounds_proves_e0 impl_Bounds_proves_x0 (impl_Bounds_proves_g0 Try.prog a1 a2 a3 b_a0 n_a0 a0 t) := by
  rintro ⟨y0_8, y0_22⟩
  refine Eq.trans (b := (bif decide (y0_22 < (n_a0 : Int)) then (bif (decide (0 ≤ y0_22) && decide (y0_22 < (n_a0 : Int))) then (bif (!((bnB a1 (a0.extract ((y0_22).toNat * 36) (((y0_22).toNat * 36) + 36))))) then (some (.done (.ret, ([.a (.b (false)), .a (.i .i64 (y0_22))], []))))
        else (some (.more ([.a (.b (y0_8)), .a (.i .i64 (IntKind.i64.wrap (y0_22 + (1 : Int))))], []))))
      else (none))
    else (some (.done ((.exit 0), ([.a (.b (y0_8)), .a (.i .i64 (y0_22))], [])))))) (by kernel_rfl) ?_
  simp only [impl_Bounds_proves_g0, mapS_cond, mapS_more, mapS_done, mapS_none, impl_Bounds_proves_e0, impl_Bounds_proves_x0]

noncomputable def impl_Bounds_proves_e1 : Bool × Int → LS
  | (y1_8, y1_11) => ([.a (.b (y1_8)), .a (.i .i64 (y1_11))], [])

noncomputable def impl_Bounds_proves_x1 : (Stp (Bool × Int) (Bool × Int)) → Exit × LS
  | .more t => (.ret, impl_Bounds_proves_e1 t)
  | .done t => ((.exit 2), impl_Bounds_proves_e1 t)

noncomputable def impl_Bounds_proves_g1 (P : Program) (a1 : Array Value) (a2 : Int) (a3 : Int) (b_a0 : Option (Option Addr)) (n_a0 : Nat) (a0 : Array Value) (z0_8 : Bool) (z0_22 : Int) : Bool × Int → Option (Stp (Bool × Int) (Stp (Bool × Int) (Bool × Int)))
  | (y1_8, y1_11) => bif decide (y1_11 ≤ (IntKind.i64.wrap ((n_a0 : Int) - (1 : Int)))) then (bif (decide (0 ≤ y1_11) && decide (y1_11 < (n_a0 : Int))) then (bif (decide (0 ≤ (IntKind.i64.wrap (y1_11 - (1 : Int)))) && decide ((IntKind.i64.wrap (y1_11 - (1 : Int))) < (n_a0 : Int))) then (bif (okS a1 && (decide (0 ≤ (((IntKind.i64.wrap (a3 + (IntKind.i64.wrap ((IntKind.i64.wrap ((n_a0 : Int) - (1 : Int))) - y1_11))))).tmod (2 : Int))) && decide ((((IntKind.i64.wrap (a3 + (IntKind.i64.wrap ((IntKind.i64.wrap ((n_a0 : Int) - (1 : Int))) - y1_11))))).tmod (2 : Int)) < 2))) then (bif (!((cvB (a0.extract ((y1_11).toNat * 36) (((y1_11).toNat * 36) + 36)) (rowF Try.prog lkM a1 (a0.extract ((IntKind.i64.wrap (y1_11 - (1 : Int))).toNat * 36) (((IntKind.i64.wrap (y1_11 - (1 : Int))).toNat * 36) + 36)) (((IntKind.i64.wrap (a3 + (IntKind.i64.wrap ((IntKind.i64.wrap ((n_a0 : Int) - (1 : Int))) - y1_11))))).tmod (2 : Int)))))) then (some (.done (.more (false, y1_11))))
            else (some (.more (y1_8, (IntKind.i64.wrap (y1_11 + (1 : Int)))))))
          else (none))
        else (none))
      else (none))
    else (some (.done (.done (y1_8, y1_11))))

theorem impl_Bounds_proves_s1 (N : Nat) (a1 : Array Value) (a2 : Int) (a3 : Int) (b_a0 : Option (Option Addr)) (n_a0 : Nat) (a0 : Array Value) (z0_8 : Bool) (z0_22 : Int) : ∀ t : Bool × Int, stepV Try.prog (mkΓ [(80, con impl_tideIn_con), (82, con most_impl_rowBack_con), (87, con impl_isBound_con), (88, con impl_Bounds_hours_con), (89, con impl_covers_con)]) N (cAt (codeOf Try.f61) [1, 1, 1, 1, 0, 1, 0, 0]) (pAt (mkPlan (codeOf Try.f61) [([8, 22], []), ([8, 11], [])]).1 [1, 1, 1, 1, 0, 1, 0]) [8, 11] [] (⟨.a (.l 0) :: .a (.g a1 36) :: .a (.i .i64 (a2)) :: .a (.i .i64 (a3)) :: .a (.u) :: .a (.w 1) :: .a (.u) :: .a (.u) :: .a (.b (z0_8)) :: .a (.u) :: .a (.x) :: .a (.i .i64 (1 : Int)) :: .a (.l 0) :: .a (.i .i64 (n_a0 : Int)) :: .a (.b (decide ((n_a0 : Int) < (1 : Int)))) :: .a (.b (false)) :: .a (.l 0) :: .a (.i .i64 (n_a0 : Int)) :: .a (.b (decide ((n_a0 : Int) > (15 : Int)))) :: .a (.b (decide ((n_a0 : Int) > (15 : Int)))) :: .a (.l 0) :: .a (.i .i64 (n_a0 : Int)) :: .a (.i .i64 (z0_22)) :: xs 8 (.a (.l 0) :: .a (.i .i64 (a2)) :: .a (.q 0 (((0 : Int).toNat * 36)) 61) :: .a (.q 0 ((((0 : Int).toNat * 36) + ((a2).toNat * 1))) 2) :: .a (.i .i64 (num a0 (((0 : Int).toNat * 36) + ((a2).toNat * 1)))) :: .a (.b (decide ((num a0 (((0 : Int).toNat * 36) + ((a2).toNat * 1))) < (1 : Int)))) :: us 25 ([])), [.sl (.came b_a0) n_a0 a0 61, .row a1 36, .no], []⟩ : St) (impl_Bounds_proves_e1 t) = mapS impl_Bounds_proves_e1 impl_Bounds_proves_x1 (impl_Bounds_proves_g1 Try.prog a1 a2 a3 b_a0 n_a0 a0 z0_8 z0_22 t) := by
  rintro ⟨y1_8, y1_11⟩
  refine Eq.trans (b := (bif decide (y1_11 ≤ (IntKind.i64.wrap ((n_a0 : Int) - (1 : Int)))) then (bif (decide (0 ≤ y1_11) && decide (y1_11 < (n_a0 : Int))) then (bif (decide (0 ≤ (IntKind.i64.wrap (y1_11 - (1 : Int)))) && decide ((IntKind.i64.wrap (y1_11 - (1 : Int))) < (n_a0 : Int))) then (bif (okS a1 && (decide (0 ≤ (((IntKind.i64.wrap (a3 + (IntKind.i64.wrap ((IntKind.i64.wrap ((n_a0 : Int) - (1 : Int))) - y1_11))))).tmod (2 : Int))) && decide ((((IntKind.i64.wrap (a3 + (IntKind.i64.wrap ((IntKind.i64.wrap ((n_a0 : Int) - (1 : Int))) - y1_11))))).tmod (2 : Int)) < 2))) then (bif (!((cvB (a0.extract ((y1_11).toNat * 36) (((y1_11).toNat * 36) + 36)) (rowF Try.prog lkM a1 (a0.extract ((IntKind.i64.wrap (y1_11 - (1 : Int))).toNat * 36) (((IntKind.i64.wrap (y1_11 - (1 : Int))).toNat * 36) + 36)) (((IntKind.i64.wrap (a3 + (IntKind.i64.wrap ((IntKind.i64.wrap ((n_a0 : Int) - (1 : Int))) - y1_11))))).tmod (2 : Int)))))) then (some (.done (.ret, ([.a (.b (false)), .a (.i .i64 (y1_11))], []))))
            else (some (.more ([.a (.b (y1_8)), .a (.i .i64 (IntKind.i64.wrap (y1_11 + (1 : Int))))], []))))
          else (none))
        else (none))
      else (none))
    else (some (.done ((.exit 2), ([.a (.b (y1_8)), .a (.i .i64 (y1_11))], [])))))) (by kernel_rfl) ?_
  simp only [impl_Bounds_proves_g1, mapS_cond, mapS_more, mapS_done, mapS_none, impl_Bounds_proves_e1, impl_Bounds_proves_x1]

noncomputable def impl_Bounds_proves_k1_0 (P : Program) (N : Nat) (a1 : Array Value) (a2 : Int) (a3 : Int) (b_a0 : Option (Option Addr)) (n_a0 : Nat) (a0 : Array Value) (z0_8 : Bool) (z0_22 : Int) (z1_8 : Bool) (z1_11 : Int) : Option (SV × Eff × Bool) := some (.a (.b (z1_8)), .none, true)

theorem impl_Bounds_proves_k1_0_eq (N : Nat) (a1 : Array Value) (a2 : Int) (a3 : Int) (b_a0 : Option (Option Addr)) (n_a0 : Nat) (a0 : Array Value) (z0_8 : Bool) (z0_22 : Int) (z1_8 : Bool) (z1_11 : Int) : (kBlock 2 (kSeq (veC Try.prog (mkΓ [(80, con impl_tideIn_con), (82, con most_impl_rowBack_con), (87, con impl_isBound_con), (88, con impl_Bounds_hours_con), (89, con impl_covers_con)]) N (cAt (codeOf Try.f61) [1, 1, 1, 1, 1]) (pAt (mkPlan (codeOf Try.f61) [([8, 22], []), ([8, 11], [])]).1 [1, 1, 1, 1, 1]) (SV × Eff × Bool)) (finK Try.prog [.sl (.came b_a0) n_a0 a0 61] [.tmp 8]))) .ret (left (writes (cAt (codeOf Try.f61) [1, 1, 1, 1, 0, 1, 0, 0])) [8, 11] [] (⟨.a (.l 0) :: .a (.g a1 36) :: .a (.i .i64 (a2)) :: .a (.i .i64 (a3)) :: .a (.u) :: .a (.w 1) :: .a (.u) :: .a (.u) :: .a (.b (z0_8)) :: .a (.u) :: .a (.x) :: .a (.i .i64 (1 : Int)) :: .a (.l 0) :: .a (.i .i64 (n_a0 : Int)) :: .a (.b (decide ((n_a0 : Int) < (1 : Int)))) :: .a (.b (false)) :: .a (.l 0) :: .a (.i .i64 (n_a0 : Int)) :: .a (.b (decide ((n_a0 : Int) > (15 : Int)))) :: .a (.b (decide ((n_a0 : Int) > (15 : Int)))) :: .a (.l 0) :: .a (.i .i64 (n_a0 : Int)) :: .a (.i .i64 (z0_22)) :: xs 8 (.a (.l 0) :: .a (.i .i64 (a2)) :: .a (.q 0 (((0 : Int).toNat * 36)) 61) :: .a (.q 0 ((((0 : Int).toNat * 36) + ((a2).toNat * 1))) 2) :: .a (.i .i64 (num a0 (((0 : Int).toNat * 36) + ((a2).toNat * 1)))) :: .a (.b (decide ((num a0 (((0 : Int).toNat * 36) + ((a2).toNat * 1))) < (1 : Int)))) :: us 25 ([])), [.sl (.came b_a0) n_a0 a0 61, .row a1 36, .no], []⟩ : St) ([.a (.b (z1_8)), .a (.i .i64 (z1_11))], [])) = impl_Bounds_proves_k1_0 Try.prog N a1 a2 a3 b_a0 n_a0 a0 z0_8 z0_22 z1_8 z1_11 := by
  refine Eq.trans (b := (some (.a (.b (z1_8)), .none, true))) (by kernel_rfl) ?_
  rfl

noncomputable def impl_Bounds_proves_k1_1 (P : Program) (N : Nat) (a1 : Array Value) (a2 : Int) (a3 : Int) (b_a0 : Option (Option Addr)) (n_a0 : Nat) (a0 : Array Value) (z0_8 : Bool) (z0_22 : Int) (z1_8 : Bool) (z1_11 : Int) : Option (SV × Eff × Bool) := some (.a (.b (true)), .none, true)

theorem impl_Bounds_proves_k1_1_eq (N : Nat) (a1 : Array Value) (a2 : Int) (a3 : Int) (b_a0 : Option (Option Addr)) (n_a0 : Nat) (a0 : Array Value) (z0_8 : Bool) (z0_22 : Int) (z1_8 : Bool) (z1_11 : Int) : (kBlock 2 (kSeq (veC Try.prog (mkΓ [(80, con impl_tideIn_con), (82, con most_impl_rowBack_con), (87, con impl_isBound_con), (88, con impl_Bounds_hours_con), (89, con impl_covers_con)]) N (cAt (codeOf Try.f61) [1, 1, 1, 1, 1]) (pAt (mkPlan (codeOf Try.f61) [([8, 22], []), ([8, 11], [])]).1 [1, 1, 1, 1, 1]) (SV × Eff × Bool)) (finK Try.prog [.sl (.came b_a0) n_a0 a0 61] [.tmp 8]))) (.exit 2) (left (writes (cAt (codeOf Try.f61) [1, 1, 1, 1, 0, 1, 0, 0])) [8, 11] [] (⟨.a (.l 0) :: .a (.g a1 36) :: .a (.i .i64 (a2)) :: .a (.i .i64 (a3)) :: .a (.u) :: .a (.w 1) :: .a (.u) :: .a (.u) :: .a (.b (z0_8)) :: .a (.u) :: .a (.x) :: .a (.i .i64 (1 : Int)) :: .a (.l 0) :: .a (.i .i64 (n_a0 : Int)) :: .a (.b (decide ((n_a0 : Int) < (1 : Int)))) :: .a (.b (false)) :: .a (.l 0) :: .a (.i .i64 (n_a0 : Int)) :: .a (.b (decide ((n_a0 : Int) > (15 : Int)))) :: .a (.b (decide ((n_a0 : Int) > (15 : Int)))) :: .a (.l 0) :: .a (.i .i64 (n_a0 : Int)) :: .a (.i .i64 (z0_22)) :: xs 8 (.a (.l 0) :: .a (.i .i64 (a2)) :: .a (.q 0 (((0 : Int).toNat * 36)) 61) :: .a (.q 0 ((((0 : Int).toNat * 36) + ((a2).toNat * 1))) 2) :: .a (.i .i64 (num a0 (((0 : Int).toNat * 36) + ((a2).toNat * 1)))) :: .a (.b (decide ((num a0 (((0 : Int).toNat * 36) + ((a2).toNat * 1))) < (1 : Int)))) :: us 25 ([])), [.sl (.came b_a0) n_a0 a0 61, .row a1 36, .no], []⟩ : St) ([.a (.b (z1_8)), .a (.i .i64 (z1_11))], [])) = impl_Bounds_proves_k1_1 Try.prog N a1 a2 a3 b_a0 n_a0 a0 z0_8 z0_22 z1_8 z1_11 := by
  refine Eq.trans (b := (some (.a (.b (true)), .none, true))) (by kernel_rfl) ?_
  rfl

theorem impl_Bounds_proves_n1 (N : Nat) (a1 : Array Value) (a2 : Int) (a3 : Int) (b_a0 : Option (Option Addr)) (n_a0 : Nat) (a0 : Array Value) (z0_8 : Bool) (z0_22 : Int) : bindX (iterO (stepV Try.prog (mkΓ [(80, con impl_tideIn_con), (82, con most_impl_rowBack_con), (87, con impl_isBound_con), (88, con impl_Bounds_hours_con), (89, con impl_covers_con)]) N (cAt (codeOf Try.f61) [1, 1, 1, 1, 0, 1, 0, 0]) (pAt (mkPlan (codeOf Try.f61) [([8, 22], []), ([8, 11], [])]).1 [1, 1, 1, 1, 0, 1, 0]) [8, 11] [] (⟨.a (.l 0) :: .a (.g a1 36) :: .a (.i .i64 (a2)) :: .a (.i .i64 (a3)) :: .a (.u) :: .a (.w 1) :: .a (.u) :: .a (.u) :: .a (.b (z0_8)) :: .a (.u) :: .a (.x) :: .a (.i .i64 (1 : Int)) :: .a (.l 0) :: .a (.i .i64 (n_a0 : Int)) :: .a (.b (decide ((n_a0 : Int) < (1 : Int)))) :: .a (.b (false)) :: .a (.l 0) :: .a (.i .i64 (n_a0 : Int)) :: .a (.b (decide ((n_a0 : Int) > (15 : Int)))) :: .a (.b (decide ((n_a0 : Int) > (15 : Int)))) :: .a (.l 0) :: .a (.i .i64 (n_a0 : Int)) :: .a (.i .i64 (z0_22)) :: xs 8 (.a (.l 0) :: .a (.i .i64 (a2)) :: .a (.q 0 (((0 : Int).toNat * 36)) 61) :: .a (.q 0 ((((0 : Int).toNat * 36) + ((a2).toNat * 1))) 2) :: .a (.i .i64 (num a0 (((0 : Int).toNat * 36) + ((a2).toNat * 1)))) :: .a (.b (decide ((num a0 (((0 : Int).toNat * 36) + ((a2).toNat * 1))) < (1 : Int)))) :: us 25 ([])), [.sl (.came b_a0) n_a0 a0 61, .row a1 36, .no], []⟩ : St)) N ([.a (.b (z0_8)), .a (.i .i64 (1 : Int))], [])) (fun e s => (kBlock 2 (kSeq (veC Try.prog (mkΓ [(80, con impl_tideIn_con), (82, con most_impl_rowBack_con), (87, con impl_isBound_con), (88, con impl_Bounds_hours_con), (89, con impl_covers_con)]) N (cAt (codeOf Try.f61) [1, 1, 1, 1, 1]) (pAt (mkPlan (codeOf Try.f61) [([8, 22], []), ([8, 11], [])]).1 [1, 1, 1, 1, 1]) (SV × Eff × Bool)) (finK Try.prog [.sl (.came b_a0) n_a0 a0 61] [.tmp 8]))) e (left (writes (cAt (codeOf Try.f61) [1, 1, 1, 1, 0, 1, 0, 0])) [8, 11] [] (⟨.a (.l 0) :: .a (.g a1 36) :: .a (.i .i64 (a2)) :: .a (.i .i64 (a3)) :: .a (.u) :: .a (.w 1) :: .a (.u) :: .a (.u) :: .a (.b (z0_8)) :: .a (.u) :: .a (.x) :: .a (.i .i64 (1 : Int)) :: .a (.l 0) :: .a (.i .i64 (n_a0 : Int)) :: .a (.b (decide ((n_a0 : Int) < (1 : Int)))) :: .a (.b (false)) :: .a (.l 0) :: .a (.i .i64 (n_a0 : Int)) :: .a (.b (decide ((n_a0 : Int) > (15 : Int)))) :: .a (.b (decide ((n_a0 : Int) > (15 : Int)))) :: .a (.l 0) :: .a (.i .i64 (n_a0 : Int)) :: .a (.i .i64 (z0_22)) :: xs 8 (.a (.l 0) :: .a (.i .i64 (a2)) :: .a (.q 0 (((0 : Int).toNat * 36)) 61) :: .a (.q 0 ((((0 : Int).toNat * 36) + ((a2).toNat * 1))) 2) :: .a (.i .i64 (num a0 (((0 : Int).toNat * 36) + ((a2).toNat * 1)))) :: .a (.b (decide ((num a0 (((0 : Int).toNat * 36) + ((a2).toNat * 1))) < (1 : Int)))) :: us 25 ([])), [.sl (.came b_a0) n_a0 a0 61, .row a1 36, .no], []⟩ : St) s)) = nodeX (iterO (impl_Bounds_proves_g1 Try.prog a1 a2 a3 b_a0 n_a0 a0 z0_8 z0_22) N (z0_8, (1 : Int))) (st2 (fun x => impl_Bounds_proves_k1_0 Try.prog N a1 a2 a3 b_a0 n_a0 a0 z0_8 z0_22 x.1 x.2) (fun x => impl_Bounds_proves_k1_1 Try.prog N a1 a2 a3 b_a0 n_a0 a0 z0_8 z0_22 x.1 x.2)) := by
  refine loop_node impl_Bounds_proves_e1 impl_Bounds_proves_x1 _ _ (impl_Bounds_proves_s1 N a1 a2 a3 b_a0 n_a0 a0 z0_8 z0_22) N (z0_8, (1 : Int)) _ _ ?_
  intro x
  cases x with
  | more x => exact impl_Bounds_proves_k1_0_eq N a1 a2 a3 b_a0 n_a0 a0 z0_8 z0_22 x.1 x.2
  | done x => exact impl_Bounds_proves_k1_1_eq N a1 a2 a3 b_a0 n_a0 a0 z0_8 z0_22 x.1 x.2

noncomputable def impl_Bounds_proves_k0_0 (P : Program) (N : Nat) (a1 : Array Value) (a2 : Int) (a3 : Int) (b_a0 : Option (Option Addr)) (n_a0 : Nat) (a0 : Array Value) (z0_8 : Bool) (z0_22 : Int) : Option (SV × Eff × Bool) := some (.a (.b (z0_8)), .none, true)

theorem impl_Bounds_proves_k0_0_eq (N : Nat) (a1 : Array Value) (a2 : Int) (a3 : Int) (b_a0 : Option (Option Addr)) (n_a0 : Nat) (a0 : Array Value) (z0_8 : Bool) (z0_22 : Int) : (kBlock 0 (kSeq (veC Try.prog (mkΓ [(80, con impl_tideIn_con), (82, con most_impl_rowBack_con), (87, con impl_isBound_con), (88, con impl_Bounds_hours_con), (89, con impl_covers_con)]) N (cAt (codeOf Try.f61) [1, 1, 1]) (pAt (mkPlan (codeOf Try.f61) [([8, 22], []), ([8, 11], [])]).1 [1, 1, 1]) (SV × Eff × Bool)) (finK Try.prog [.sl (.came b_a0) n_a0 a0 61] [.tmp 8]))) .ret (left (writes (cAt (codeOf Try.f61) [1, 1, 0, 1, 0, 0])) [8, 22] [] (⟨.a (.l 0) :: .a (.g a1 36) :: .a (.i .i64 (a2)) :: .a (.i .i64 (a3)) :: .a (.u) :: .a (.w 1) :: .a (.u) :: .a (.u) :: .a (.b (false)) :: us 3 (.a (.l 0) :: .a (.i .i64 (n_a0 : Int)) :: .a (.b (decide ((n_a0 : Int) < (1 : Int)))) :: .a (.b (false)) :: .a (.l 0) :: .a (.i .i64 (n_a0 : Int)) :: .a (.b (decide ((n_a0 : Int) > (15 : Int)))) :: .a (.b (decide ((n_a0 : Int) > (15 : Int)))) :: .a (.l 0) :: .a (.i .i64 (n_a0 : Int)) :: .a (.i .i64 (0 : Int)) :: us 39 ([])), [.sl (.came b_a0) n_a0 a0 61, .row a1 36, .no], []⟩ : St) ([.a (.b (z0_8)), .a (.i .i64 (z0_22))], [])) = impl_Bounds_proves_k0_0 Try.prog N a1 a2 a3 b_a0 n_a0 a0 z0_8 z0_22 := by
  refine Eq.trans (b := (some (.a (.b (z0_8)), .none, true))) (by kernel_rfl) ?_
  rfl

noncomputable def impl_Bounds_proves_k0_1 (P : Program) (N : Nat) (a1 : Array Value) (a2 : Int) (a3 : Int) (b_a0 : Option (Option Addr)) (n_a0 : Nat) (a0 : Array Value) (z0_8 : Bool) (z0_22 : Int) : Option (SV × Eff × Bool) := bif (decide (0 ≤ (0 : Int)) && decide ((0 : Int) < (n_a0 : Int))) then (bif (decide (0 ≤ a2) && decide (a2 < 36)) then (bif decide ((num a0 (((0 : Int).toNat * 36) + ((a2).toNat * 1))) < (1 : Int)) then (some (.a (.b (false)), .none, true))
        else (nodeX (iterO (impl_Bounds_proves_g1 P a1 a2 a3 b_a0 n_a0 a0 z0_8 z0_22) N (z0_8, (1 : Int))) (st2 (fun x => impl_Bounds_proves_k1_0 P N a1 a2 a3 b_a0 n_a0 a0 z0_8 z0_22 x.1 x.2) (fun x => impl_Bounds_proves_k1_1 P N a1 a2 a3 b_a0 n_a0 a0 z0_8 z0_22 x.1 x.2))))
      else (none))
    else (none)

theorem impl_Bounds_proves_k0_1_eq (N : Nat) (a1 : Array Value) (a2 : Int) (a3 : Int) (b_a0 : Option (Option Addr)) (n_a0 : Nat) (a0 : Array Value) (z0_8 : Bool) (z0_22 : Int) : (kBlock 0 (kSeq (veC Try.prog (mkΓ [(80, con impl_tideIn_con), (82, con most_impl_rowBack_con), (87, con impl_isBound_con), (88, con impl_Bounds_hours_con), (89, con impl_covers_con)]) N (cAt (codeOf Try.f61) [1, 1, 1]) (pAt (mkPlan (codeOf Try.f61) [([8, 22], []), ([8, 11], [])]).1 [1, 1, 1]) (SV × Eff × Bool)) (finK Try.prog [.sl (.came b_a0) n_a0 a0 61] [.tmp 8]))) (.exit 0) (left (writes (cAt (codeOf Try.f61) [1, 1, 0, 1, 0, 0])) [8, 22] [] (⟨.a (.l 0) :: .a (.g a1 36) :: .a (.i .i64 (a2)) :: .a (.i .i64 (a3)) :: .a (.u) :: .a (.w 1) :: .a (.u) :: .a (.u) :: .a (.b (false)) :: us 3 (.a (.l 0) :: .a (.i .i64 (n_a0 : Int)) :: .a (.b (decide ((n_a0 : Int) < (1 : Int)))) :: .a (.b (false)) :: .a (.l 0) :: .a (.i .i64 (n_a0 : Int)) :: .a (.b (decide ((n_a0 : Int) > (15 : Int)))) :: .a (.b (decide ((n_a0 : Int) > (15 : Int)))) :: .a (.l 0) :: .a (.i .i64 (n_a0 : Int)) :: .a (.i .i64 (0 : Int)) :: us 39 ([])), [.sl (.came b_a0) n_a0 a0 61, .row a1 36, .no], []⟩ : St) ([.a (.b (z0_8)), .a (.i .i64 (z0_22))], [])) = impl_Bounds_proves_k0_1 Try.prog N a1 a2 a3 b_a0 n_a0 a0 z0_8 z0_22 := by
  refine Eq.trans (b := (bif (decide (0 ≤ (0 : Int)) && decide ((0 : Int) < (n_a0 : Int))) then (bif (decide (0 ≤ a2) && decide (a2 < 36)) then (bif decide ((num a0 (((0 : Int).toNat * 36) + ((a2).toNat * 1))) < (1 : Int)) then (some (.a (.b (false)), .none, true))
        else (bindX (iterO (stepV Try.prog (mkΓ [(80, con impl_tideIn_con), (82, con most_impl_rowBack_con), (87, con impl_isBound_con), (88, con impl_Bounds_hours_con), (89, con impl_covers_con)]) N (cAt (codeOf Try.f61) [1, 1, 1, 1, 0, 1, 0, 0]) (pAt (mkPlan (codeOf Try.f61) [([8, 22], []), ([8, 11], [])]).1 [1, 1, 1, 1, 0, 1, 0]) [8, 11] [] (⟨.a (.l 0) :: .a (.g a1 36) :: .a (.i .i64 (a2)) :: .a (.i .i64 (a3)) :: .a (.u) :: .a (.w 1) :: .a (.u) :: .a (.u) :: .a (.b (z0_8)) :: .a (.u) :: .a (.x) :: .a (.i .i64 (1 : Int)) :: .a (.l 0) :: .a (.i .i64 (n_a0 : Int)) :: .a (.b (decide ((n_a0 : Int) < (1 : Int)))) :: .a (.b (false)) :: .a (.l 0) :: .a (.i .i64 (n_a0 : Int)) :: .a (.b (decide ((n_a0 : Int) > (15 : Int)))) :: .a (.b (decide ((n_a0 : Int) > (15 : Int)))) :: .a (.l 0) :: .a (.i .i64 (n_a0 : Int)) :: .a (.i .i64 (z0_22)) :: xs 8 (.a (.l 0) :: .a (.i .i64 (a2)) :: .a (.q 0 (((0 : Int).toNat * 36)) 61) :: .a (.q 0 ((((0 : Int).toNat * 36) + ((a2).toNat * 1))) 2) :: .a (.i .i64 (num a0 (((0 : Int).toNat * 36) + ((a2).toNat * 1)))) :: .a (.b (decide ((num a0 (((0 : Int).toNat * 36) + ((a2).toNat * 1))) < (1 : Int)))) :: us 25 ([])), [.sl (.came b_a0) n_a0 a0 61, .row a1 36, .no], []⟩ : St)) N ([.a (.b (z0_8)), .a (.i .i64 (1 : Int))], [])) (fun e s => (kBlock 2 (kSeq (veC Try.prog (mkΓ [(80, con impl_tideIn_con), (82, con most_impl_rowBack_con), (87, con impl_isBound_con), (88, con impl_Bounds_hours_con), (89, con impl_covers_con)]) N (cAt (codeOf Try.f61) [1, 1, 1, 1, 1]) (pAt (mkPlan (codeOf Try.f61) [([8, 22], []), ([8, 11], [])]).1 [1, 1, 1, 1, 1]) (SV × Eff × Bool)) (finK Try.prog [.sl (.came b_a0) n_a0 a0 61] [.tmp 8]))) e (left (writes (cAt (codeOf Try.f61) [1, 1, 1, 1, 0, 1, 0, 0])) [8, 11] [] (⟨.a (.l 0) :: .a (.g a1 36) :: .a (.i .i64 (a2)) :: .a (.i .i64 (a3)) :: .a (.u) :: .a (.w 1) :: .a (.u) :: .a (.u) :: .a (.b (z0_8)) :: .a (.u) :: .a (.x) :: .a (.i .i64 (1 : Int)) :: .a (.l 0) :: .a (.i .i64 (n_a0 : Int)) :: .a (.b (decide ((n_a0 : Int) < (1 : Int)))) :: .a (.b (false)) :: .a (.l 0) :: .a (.i .i64 (n_a0 : Int)) :: .a (.b (decide ((n_a0 : Int) > (15 : Int)))) :: .a (.b (decide ((n_a0 : Int) > (15 : Int)))) :: .a (.l 0) :: .a (.i .i64 (n_a0 : Int)) :: .a (.i .i64 (z0_22)) :: xs 8 (.a (.l 0) :: .a (.i .i64 (a2)) :: .a (.q 0 (((0 : Int).toNat * 36)) 61) :: .a (.q 0 ((((0 : Int).toNat * 36) + ((a2).toNat * 1))) 2) :: .a (.i .i64 (num a0 (((0 : Int).toNat * 36) + ((a2).toNat * 1)))) :: .a (.b (decide ((num a0 (((0 : Int).toNat * 36) + ((a2).toNat * 1))) < (1 : Int)))) :: us 25 ([])), [.sl (.came b_a0) n_a0 a0 61, .row a1 36, .no], []⟩ : St) s))))
      else (none))
    else (none))) (by kernel_rfl) ?_
  simp only [impl_Bounds_proves_n1 N a1 a2 a3 b_a0 n_a0 a0 z0_8 z0_22, impl_Bounds_proves_k0_1]

theorem impl_Bounds_proves_n0 (N : Nat) (a1 : Array Value) (a2 : Int) (a3 : Int) (b_a0 : Option (Option Addr)) (n_a0 : Nat) (a0 : Array Value) : bindX (iterO (stepV Try.prog (mkΓ [(80, con impl_tideIn_con), (82, con most_impl_rowBack_con), (87, con impl_isBound_con), (88, con impl_Bounds_hours_con), (89, con impl_covers_con)]) N (cAt (codeOf Try.f61) [1, 1, 0, 1, 0, 0]) (pAt (mkPlan (codeOf Try.f61) [([8, 22], []), ([8, 11], [])]).1 [1, 1, 0, 1, 0]) [8, 22] [] (⟨.a (.l 0) :: .a (.g a1 36) :: .a (.i .i64 (a2)) :: .a (.i .i64 (a3)) :: .a (.u) :: .a (.w 1) :: .a (.u) :: .a (.u) :: .a (.b (false)) :: us 3 (.a (.l 0) :: .a (.i .i64 (n_a0 : Int)) :: .a (.b (decide ((n_a0 : Int) < (1 : Int)))) :: .a (.b (false)) :: .a (.l 0) :: .a (.i .i64 (n_a0 : Int)) :: .a (.b (decide ((n_a0 : Int) > (15 : Int)))) :: .a (.b (decide ((n_a0 : Int) > (15 : Int)))) :: .a (.l 0) :: .a (.i .i64 (n_a0 : Int)) :: .a (.i .i64 (0 : Int)) :: us 39 ([])), [.sl (.came b_a0) n_a0 a0 61, .row a1 36, .no], []⟩ : St)) N ([.a (.b (false)), .a (.i .i64 (0 : Int))], [])) (fun e s => (kBlock 0 (kSeq (veC Try.prog (mkΓ [(80, con impl_tideIn_con), (82, con most_impl_rowBack_con), (87, con impl_isBound_con), (88, con impl_Bounds_hours_con), (89, con impl_covers_con)]) N (cAt (codeOf Try.f61) [1, 1, 1]) (pAt (mkPlan (codeOf Try.f61) [([8, 22], []), ([8, 11], [])]).1 [1, 1, 1]) (SV × Eff × Bool)) (finK Try.prog [.sl (.came b_a0) n_a0 a0 61] [.tmp 8]))) e (left (writes (cAt (codeOf Try.f61) [1, 1, 0, 1, 0, 0])) [8, 22] [] (⟨.a (.l 0) :: .a (.g a1 36) :: .a (.i .i64 (a2)) :: .a (.i .i64 (a3)) :: .a (.u) :: .a (.w 1) :: .a (.u) :: .a (.u) :: .a (.b (false)) :: us 3 (.a (.l 0) :: .a (.i .i64 (n_a0 : Int)) :: .a (.b (decide ((n_a0 : Int) < (1 : Int)))) :: .a (.b (false)) :: .a (.l 0) :: .a (.i .i64 (n_a0 : Int)) :: .a (.b (decide ((n_a0 : Int) > (15 : Int)))) :: .a (.b (decide ((n_a0 : Int) > (15 : Int)))) :: .a (.l 0) :: .a (.i .i64 (n_a0 : Int)) :: .a (.i .i64 (0 : Int)) :: us 39 ([])), [.sl (.came b_a0) n_a0 a0 61, .row a1 36, .no], []⟩ : St) s)) = nodeX (iterO (impl_Bounds_proves_g0 Try.prog a1 a2 a3 b_a0 n_a0 a0) N (false, (0 : Int))) (st2 (fun x => impl_Bounds_proves_k0_0 Try.prog N a1 a2 a3 b_a0 n_a0 a0 x.1 x.2) (fun x => impl_Bounds_proves_k0_1 Try.prog N a1 a2 a3 b_a0 n_a0 a0 x.1 x.2)) := by
  refine loop_node impl_Bounds_proves_e0 impl_Bounds_proves_x0 _ _ (impl_Bounds_proves_s0 N a1 a2 a3 b_a0 n_a0 a0) N (false, (0 : Int)) _ _ ?_
  intro x
  cases x with
  | more x => exact impl_Bounds_proves_k0_0_eq N a1 a2 a3 b_a0 n_a0 a0 x.1 x.2
  | done x => exact impl_Bounds_proves_k0_1_eq N a1 a2 a3 b_a0 n_a0 a0 x.1 x.2

theorem impl_Bounds_proves_ans (N : Nat) (a1 : Array Value) (a2 : Int) (a3 : Int) (b_a0 : Option (Option Addr)) (n_a0 : Nat) (a0 : Array Value) : ansV Try.prog (mkΓ [(80, con impl_tideIn_con), (82, con most_impl_rowBack_con), (87, con impl_isBound_con), (88, con impl_Bounds_hours_con), (89, con impl_covers_con)]) N Try.f61 [([8, 22], []), ([8, 11], [])] [.l 0, .g a1 36, .i .i64 (a2), .i .i64 (a3)] [.sl (.came b_a0) n_a0 a0 61] = (bif decide ((n_a0 : Int) < (1 : Int)) then (some (.a (.b (false)), .none, true))
    else (bif decide ((n_a0 : Int) > (15 : Int)) then (some (.a (.b (false)), .none, true))
      else (nodeX (iterO (impl_Bounds_proves_g0 Try.prog a1 a2 a3 b_a0 n_a0 a0) N (false, (0 : Int))) (st2 (fun x => impl_Bounds_proves_k0_0 Try.prog N a1 a2 a3 b_a0 n_a0 a0 x.1 x.2) (fun x => impl_Bounds_proves_k0_1 Try.prog N a1 a2 a3 b_a0 n_a0 a0 x.1 x.2))))) := by
  refine Eq.trans (b := (bif decide ((n_a0 : Int) < (1 : Int)) then (some (.a (.b (false)), .none, true))
    else (bif decide ((n_a0 : Int) > (15 : Int)) then (some (.a (.b (false)), .none, true))
      else (bindX (iterO (stepV Try.prog (mkΓ [(80, con impl_tideIn_con), (82, con most_impl_rowBack_con), (87, con impl_isBound_con), (88, con impl_Bounds_hours_con), (89, con impl_covers_con)]) N (cAt (codeOf Try.f61) [1, 1, 0, 1, 0, 0]) (pAt (mkPlan (codeOf Try.f61) [([8, 22], []), ([8, 11], [])]).1 [1, 1, 0, 1, 0]) [8, 22] [] (⟨.a (.l 0) :: .a (.g a1 36) :: .a (.i .i64 (a2)) :: .a (.i .i64 (a3)) :: .a (.u) :: .a (.w 1) :: .a (.u) :: .a (.u) :: .a (.b (false)) :: us 3 (.a (.l 0) :: .a (.i .i64 (n_a0 : Int)) :: .a (.b (decide ((n_a0 : Int) < (1 : Int)))) :: .a (.b (false)) :: .a (.l 0) :: .a (.i .i64 (n_a0 : Int)) :: .a (.b (decide ((n_a0 : Int) > (15 : Int)))) :: .a (.b (decide ((n_a0 : Int) > (15 : Int)))) :: .a (.l 0) :: .a (.i .i64 (n_a0 : Int)) :: .a (.i .i64 (0 : Int)) :: us 39 ([])), [.sl (.came b_a0) n_a0 a0 61, .row a1 36, .no], []⟩ : St)) N ([.a (.b (false)), .a (.i .i64 (0 : Int))], [])) (fun e s => (kBlock 0 (kSeq (veC Try.prog (mkΓ [(80, con impl_tideIn_con), (82, con most_impl_rowBack_con), (87, con impl_isBound_con), (88, con impl_Bounds_hours_con), (89, con impl_covers_con)]) N (cAt (codeOf Try.f61) [1, 1, 1]) (pAt (mkPlan (codeOf Try.f61) [([8, 22], []), ([8, 11], [])]).1 [1, 1, 1]) (SV × Eff × Bool)) (finK Try.prog [.sl (.came b_a0) n_a0 a0 61] [.tmp 8]))) e (left (writes (cAt (codeOf Try.f61) [1, 1, 0, 1, 0, 0])) [8, 22] [] (⟨.a (.l 0) :: .a (.g a1 36) :: .a (.i .i64 (a2)) :: .a (.i .i64 (a3)) :: .a (.u) :: .a (.w 1) :: .a (.u) :: .a (.u) :: .a (.b (false)) :: us 3 (.a (.l 0) :: .a (.i .i64 (n_a0 : Int)) :: .a (.b (decide ((n_a0 : Int) < (1 : Int)))) :: .a (.b (false)) :: .a (.l 0) :: .a (.i .i64 (n_a0 : Int)) :: .a (.b (decide ((n_a0 : Int) > (15 : Int)))) :: .a (.b (decide ((n_a0 : Int) > (15 : Int)))) :: .a (.l 0) :: .a (.i .i64 (n_a0 : Int)) :: .a (.i .i64 (0 : Int)) :: us 39 ([])), [.sl (.came b_a0) n_a0 a0 61, .row a1 36, .no], []⟩ : St) s)))))) (by kernel_rfl) ?_
  simp only [impl_Bounds_proves_n0 N a1 a2 a3 b_a0 n_a0 a0]

theorem impl_Bounds_proves_main (a1 : Array Value) (a2 : Int) (a3 : Int) (b_a0 : Option (Option Addr)) (n_a0 : Nat) (a0 : Array Value) (h_a1 : WT Try.prog 36 a1) (h_a2 : IntKind.i64.min ≤ a2 ∧ a2 ≤ IntKind.i64.max) (h_a3 : IntKind.i64.min ≤ a3 ∧ a3 ≤ IntKind.i64.max) (h_a0 : a0.size = n_a0 * (lay Try.prog 61).length ∧ (∀ k, k < n_a0 → WT Try.prog 61 (a0.extract (k * (lay Try.prog 61).length) (k * (lay Try.prog 61).length + (lay Try.prog 61).length))) ∧ n_a0 ≤ 9223372036854775807) (hg : ((okS a1 && (spec_l01Is_v0 a2 a1 && spec_l00In_v0 a3 0 1))) = true) : ansV Try.prog (mkΓ [(80, con impl_tideIn_con), (82, con most_impl_rowBack_con), (87, con impl_isBound_con), (88, con impl_Bounds_hours_con), (89, con impl_covers_con)]) 18446744073709551616 Try.f61 [([8, 22], []), ([8, 11], [])] [.l 0, .g a1 36, .i .i64 (a2), .i .i64 (a3)] [.sl (.came b_a0) n_a0 a0 61] = some (.a (.b ((prB Try.prog a1 a2 a3 n_a0 a0))), .none, true) := by
  rw [Bool.and_eq_true, Bool.and_eq_true] at hg
  obtain ⟨hok, his, htd⟩ := hg
  have hb := in_range htd
  have hc := is_range his
  refine (impl_Bounds_proves_ans 18446744073709551616 a1 a2 a3 b_a0 n_a0 a0).trans ?_
  unfold prB
  rw [in_eq]
  by_cases c1 : (n_a0 : Int) < 1
  · rw [decide_eq_true c1, decide_eq_false (show ¬ (1 ≤ (n_a0 : Int) ∧ (n_a0 : Int) ≤ 15) by omega)]; rfl
  by_cases c2 : (n_a0 : Int) > 15
  · rw [decide_eq_false c1, decide_eq_true c2, decide_eq_false (show ¬ (1 ≤ (n_a0 : Int) ∧ (n_a0 : Int) ≤ 15) by omega)]; rfl
  rw [decide_eq_false c1, decide_eq_false c2, decide_eq_true (show (1 ≤ (n_a0 : Int) ∧ (n_a0 : Int) ≤ 15) by omega), Bool.true_and, cond_false, cond_false]
  have hn : 1 ≤ n_a0 ∧ n_a0 ≤ 15 := by omega
  have hrest : impl_Bounds_proves_k0_1 Try.prog 18446744073709551616 a1 a2 a3 b_a0 n_a0 a0 false (n_a0 : Int) = some (.a (.b (!(decide (num a0 (a2.toNat * 1) < 1)) && (List.range (n_a0 - 1)).all (coP Try.prog a1 a0 a3 n_a0))), .none, true) := by
    unfold impl_Bounds_proves_k0_1
    rw [show (decide (0 ≤ (0 : Int)) && decide ((0 : Int) < (n_a0 : Int))) = true by rw [decide_eq_true (show (0 : Int) < (n_a0 : Int) by omega)]; rfl, dec2 hc.1 (show a2 < 36 by omega)]
    simp only [cond_true]
    rw [show (0 : Int).toNat * 36 + a2.toNat * 1 = a2.toNat * 1 by show 0 * 36 + _ = _; omega]
    cases decide (num a0 (a2.toNat * 1) < 1)
    case true => rfl
    rw [cond_false, Bool.not_false, Bool.true_and]
    refine (iter_first (g := impl_Bounds_proves_g1 Try.prog a1 a2 a3 b_a0 n_a0 a0 false (n_a0 : Int)) (fun j => (false, ((1 + j : Nat) : Int))) (coP Try.prog a1 a0 a3 n_a0) (n_a0 - 1) (N := 18446744073709551616) (xd := .done (false, (n_a0 : Int))) (by omega) (fun j hj hp => by
      have h1 : decide (((1 + j : Nat) : Int) ≤ IntKind.i64.wrap ((n_a0 : Int) - 1)) = true := by rw [w64 (by omega)]; exact decide_eq_true (by omega)
      have h2 : IntKind.i64.wrap (((1 + j : Nat) : Int) - 1) = (j : Int) := by rw [w64 (by omega)]; omega
      have h3 : IntKind.i64.wrap (((1 + j : Nat) : Int) + 1) = ((1 + (j + 1) : Nat) : Int) := by rw [w64 (by omega)]; omega
      have h4 := dec2 (a := (j : Int)) (b := (n_a0 : Int)) (by omega) (by omega)
      have h5 := dec2 (a := ((1 + j : Nat) : Int)) (b := (n_a0 : Int)) (by omega) (by omega)
      have h6 := tdX_in (b := a3) (n := n_a0) (h := 1 + j) (by omega) hn (by omega)
      unfold tdX at h6
      have hp' : coP Try.prog a1 a0 a3 n_a0 j = true := hp
      unfold coP tdX rowX at hp'
      simp only [impl_Bounds_proves_g1, h1, h2, h3, h4, h5, h6, hok, Int.toNat_natCast, Bool.and_self, cond_true, hp', Bool.not_true, cond_false]) (by
      have h1 : decide (((1 + (n_a0 - 1) : Nat) : Int) ≤ IntKind.i64.wrap ((n_a0 : Int) - 1)) = false := by rw [w64 (by omega)]; exact decide_eq_false (by omega)
      simp only [impl_Bounds_proves_g1, h1, cond_false]
      rw [show 1 + (n_a0 - 1) = n_a0 by omega]) ((List.range (n_a0 - 1)).all (coP Try.prog a1 a0 a3 n_a0)) (all36 _ _) (some (.a (.b true), .none, true)) (some (.a (.b false), .none, true)) rfl (fun j hj hp => by
      refine ⟨.more (false, ((1 + j : Nat) : Int)), ?_, rfl⟩
      have h1 : decide (((1 + j : Nat) : Int) ≤ IntKind.i64.wrap ((n_a0 : Int) - 1)) = true := by rw [w64 (by omega)]; exact decide_eq_true (by omega)
      have h2 : IntKind.i64.wrap (((1 + j : Nat) : Int) - 1) = (j : Int) := by rw [w64 (by omega)]; omega
      have h4 := dec2 (a := (j : Int)) (b := (n_a0 : Int)) (by omega) (by omega)
      have h5 := dec2 (a := ((1 + j : Nat) : Int)) (b := (n_a0 : Int)) (by omega) (by omega)
      have h6 := tdX_in (b := a3) (n := n_a0) (h := 1 + j) (by omega) hn (by omega)
      unfold tdX at h6
      have hp' : coP Try.prog a1 a0 a3 n_a0 j = false := hp
      unfold coP tdX rowX at hp'
      simp only [impl_Bounds_proves_g1, h1, h2, h4, h5, h6, hok, Int.toNat_natCast, Bool.and_self, cond_true, hp', Bool.not_false])).trans ?_
    cases (List.range (n_a0 - 1)).all (coP Try.prog a1 a0 a3 n_a0) <;> rfl
  refine (iter_first (g := impl_Bounds_proves_g0 Try.prog a1 a2 a3 b_a0 n_a0 a0) (fun k => (false, (k : Int))) (fun h => bnB a1 (rowX a0 h)) n_a0 (N := 18446744073709551616) (xd := .done (false, (n_a0 : Int))) (by omega) (fun k hk hp => by
    have h1 : decide ((k : Int) < (n_a0 : Int)) = true := decide_eq_true (by omega)
    have h0 : decide (0 ≤ (k : Int)) = true := decide_eq_true (by omega)
    have h3 : IntKind.i64.wrap ((k : Int) + 1) = ((k + 1 : Nat) : Int) := by rw [w64 (by omega)]; omega
    have hp' : bnB a1 (rowX a0 k) = true := hp
    unfold rowX at hp'
    simp only [impl_Bounds_proves_g0, h1, h0, h3, Int.toNat_natCast, Bool.and_self, cond_true, hp', Bool.not_true, cond_false]) (by
    have h1 : decide ((n_a0 : Int) < (n_a0 : Int)) = false := decide_eq_false (by omega)
    simp only [impl_Bounds_proves_g0, h1, cond_false]) ((List.range n_a0).all fun h => bnB a1 (rowX a0 h)) (all36 _ _) _ (some (.a (.b false), .none, true)) hrest (fun k hk hp => by
    refine ⟨.more (false, (k : Int)), ?_, rfl⟩
    have h1 : decide ((k : Int) < (n_a0 : Int)) = true := decide_eq_true (by omega)
    have h0 : decide (0 ≤ (k : Int)) = true := decide_eq_true (by omega)
    have hp' : bnB a1 (rowX a0 k) = false := hp
    unfold rowX at hp'
    simp only [impl_Bounds_proves_g0, h1, h0, Int.toNat_natCast, Bool.and_self, cond_true, hp', Bool.not_false])).trans ?_
  cases (List.range n_a0).all fun h => bnB a1 (rowX a0 h) <;> rfl
noncomputable def impl_Bounds_proves_con : Con := fun args h => match args, h with
  | [.l 0, .g a1 36, .i .i64 a2, .i .i64 a3], [.sl (.came b_a0) n_a0 a0 61] => some (.a (.b ((prB Try.prog a1 a2 a3 n_a0 a0))), .none, (okS a1 && (spec_l01Is_v0 a2 a1 && spec_l00In_v0 a3 0 1)))
  | _, _ => none
theorem impl_Bounds_proves_enter : ∀ args w, (callFunc 61 args).run Try.prog w = .ok (.enter 61 args) w := enter_ok (fn := Try.f61) (by kernel_rfl) (by kernel_rfl) (by kernel_rfl)
theorem impl_Bounds_proves_ok : ConOk Try.prog 61 impl_Bounds_proves_con := (ans_ok (N := 18446744073709551616) (by kernel_rfl) (mkΓ_cons (con_ok impl_tideIn_ok) impl_tideIn_enter (mkΓ_cons (con_ok most_impl_rowBack_ok) most_impl_rowBack_enter (mkΓ_cons (con_ok impl_isBound_ok) impl_isBound_enter (mkΓ_cons (con_ok impl_Bounds_hours_ok) impl_Bounds_hours_enter (mkΓ_cons (con_ok impl_covers_ok) impl_covers_enter mkΓ_nil))))) (fn := Try.f61) (by kernel_rfl) (by kernel_rfl) [([8, 22], []), ([8, 11], [])]).of (by
  intro ρ h w args vals r e hA hH hr
  unfold impl_Bounds_proves_con at hr
  split at hr
  · rename_i a1 a2 a3 b_a0 n_a0 a0
    obtain ⟨rfl, hg⟩ := Prod.mk.inj (Option.some.inj hr)
    obtain ⟨rfl, hg2⟩ := Prod.mk.inj hg
    exact impl_Bounds_proves_main a1 a2 a3 b_a0 n_a0 a0 (hA.wt 1 rfl) (hA.rng 2 rfl) (hA.rng 3 rfl) (hH.slw 0 rfl) hg2
  · cases hr)

end
end Go.Proofs.Ytmkkckhfghomfaa
