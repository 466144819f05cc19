/- Some hours on, as they are asked and as they are done. -/
import Derived.Test.YtnbfkpecnhhecaaProg
import Derived.Test.YtnbfkpecnhhecaaCxK
namespace Go.Proofs.Ytnbfkpecnhhecaa
open Go.ChangeShapes Go.WideShapes Go.ChangeAt Go.RowKit Ve Vc
set_option linter.unusedVariables false
set_option linter.unusedSimpArgs false
set_option maxRecDepth 100000
noncomputable section
variable {F : Vc.Fd}
theorem spec_DriftHours_ans (N : Nat) (a0 : Array Value) (a1 : Array Value) (a2 : Int) : ansV Try.prog (mkΓ [(12, con spec_l02Asked_con), (17, con spec_l00In_con), (18, con spec_l02Drift_con)]) N Try.f10 [] [.g a0 39, .g a1 32, .i .i64 (a2)] [] = (bif ((spec_l02Asked_v0 a0 a1) != (0 : Int)) then (some (.t [.g (zc Try.prog 32) 32, .i .i64 (spec_l02Asked_v0 a0 a1)], .none, true))
    else (bif (!((spec_l00In_v0 a2 (0 : Int) (14 : Int)))) then (some (.t [.g (zc Try.prog 32) 32, .i .i64 (2 : Int)], .none, true))
      else (bif decide ((IntKind.i64.wrap ((IntKind.i64.wrap (num a1 1)) + a2)) > (14 : Int)) then (some (.t [.g (zc Try.prog 32) 32, .i .i64 (3 : Int)], .none, true))
        else (bif (okS a0 && ((decide (0 ≤ num a1 0) && decide (num a1 0 < 2)) && ((decide (0 ≤ num a1 1) && decide (num a1 1 ≤ 14)) && (decide (0 ≤ a2) && decide (a2 ≤ 14))))) then (some (.t [.g (driftV Try.prog a0 a1 a2.toNat) 32, .i .i64 (0 : Int)], .none, true))
          else (none))))) := by kernel_rfl
noncomputable def spec_DriftHours_v0 (P : Program) (a0 : Array Value) (a1 : Array Value) (a2 : Int) : Array Value := (bif ((spec_l02Asked_v0 a0 a1) != (0 : Int)) then (zc P 32) else (bif (!((spec_l00In_v0 a2 (0 : Int) (14 : Int)))) then (zc P 32) else (bif decide ((IntKind.i64.wrap ((IntKind.i64.wrap (num a1 1)) + a2)) > (14 : Int)) then (zc P 32) else (driftV P a0 a1 a2.toNat))))
noncomputable def spec_DriftHours_v1 (a0 : Array Value) (a1 : Array Value) (a2 : Int) : Int := (bif ((spec_l02Asked_v0 a0 a1) != (0 : Int)) then (spec_l02Asked_v0 a0 a1) else (bif (!((spec_l00In_v0 a2 (0 : Int) (14 : Int)))) then (2 : Int) else (bif decide ((IntKind.i64.wrap ((IntKind.i64.wrap (num a1 1)) + a2)) > (14 : Int)) then (3 : Int) else (0 : Int))))
noncomputable def spec_DriftHours_gd (a0 : Array Value) (a1 : Array Value) (a2 : Int) : Bool := (bif ((spec_l02Asked_v0 a0 a1) != (0 : Int)) then true else (bif (!((spec_l00In_v0 a2 (0 : Int) (14 : Int)))) then true else (bif decide ((IntKind.i64.wrap ((IntKind.i64.wrap (num a1 1)) + a2)) > (14 : Int)) then true else (okS a0 && ((decide (0 ≤ num a1 0) && decide (num a1 0 < 2)) && ((decide (0 ≤ num a1 1) && decide (num a1 1 ≤ 14)) && (decide (0 ≤ a2) && decide (a2 ≤ 14))))))))
theorem spec_DriftHours_main (a0 : Array Value) (a1 : Array Value) (a2 : Int) (h_a0 : WT Try.prog 39 a0) (h_a1 : WT Try.prog 32 a1) (h_a2 : IntKind.i64.min ≤ a2 ∧ a2 ≤ IntKind.i64.max) (hg : ((spec_DriftHours_gd a0 a1 a2)) = true) : ansV Try.prog (mkΓ [(12, con spec_l02Asked_con), (17, con spec_l00In_con), (18, con spec_l02Drift_con)]) 1000 Try.f10 [] [.g a0 39, .g a1 32, .i .i64 (a2)] [] = some (.t [.g (spec_DriftHours_v0 Try.prog a0 a1 a2) 32, .i .i64 (spec_DriftHours_v1 a0 a1 a2)], .none, true) := by
  refine (spec_DriftHours_ans 1000 a0 a1 a2).trans ?_
  unfold spec_DriftHours_gd at hg
  unfold spec_DriftHours_v0 spec_DriftHours_v1
  revert hg
  generalize (((spec_l02Asked_v0 a0 a1) != (0 : Int))) = b2
  intro hg
  cases b2
  · skip
    revert hg
    generalize ((!((spec_l00In_v0 a2 (0 : Int) (14 : Int))))) = b4
    intro hg
    cases b4
    · skip
      revert hg
      generalize (decide ((IntKind.i64.wrap ((IntKind.i64.wrap (num a1 1)) + a2)) > (14 : Int))) = b6
      intro hg
      cases b6
      · skip
        revert hg
        generalize ((okS a0 && ((decide (0 ≤ num a1 0) && decide (num a1 0 < 2)) && ((decide (0 ≤ num a1 1) && decide (num a1 1 ≤ 14)) && (decide (0 ≤ a2) && decide (a2 ≤ 14)))))) = b8
        intro hg
        cases b8
        · skip
          first | exact (nomatch (hg : false = true)) | (simp only [cond_true, cond_false, Bool.and_true, Bool.true_and, Bool.and_false, Bool.false_and]; done) | rfl
        · skip
          first | (simp only [cond_true, cond_false, Bool.and_true, Bool.true_and, Bool.and_false, Bool.false_and]; done) | rfl | exact (nomatch (hg : false = true))
      · skip
        first | (simp only [cond_true, cond_false, Bool.and_true, Bool.true_and, Bool.and_false, Bool.false_and]; done) | rfl | exact (nomatch (hg : false = true))
    · skip
      first | (simp only [cond_true, cond_false, Bool.and_true, Bool.true_and, Bool.and_false, Bool.false_and]; done) | rfl | exact (nomatch (hg : false = true))
  · skip
    first | (simp only [cond_true, cond_false, Bool.and_true, Bool.true_and, Bool.and_false, Bool.false_and]; done) | rfl | exact (nomatch (hg : false = true))
noncomputable def spec_DriftHours_con : Con := fun args h => match args, h with
  | [.g a0 39, .g a1 32, .i .i64 a2], [] => some (.t [.g (spec_DriftHours_v0 Try.prog a0 a1 a2) 32, .i .i64 (spec_DriftHours_v1 a0 a1 a2)], .none, (spec_DriftHours_gd a0 a1 a2))
  | _, _ => none
theorem spec_DriftHours_enter : EntX Try.prog 10 := entX_ok (fn := Try.f10) (by kernel_rfl) (by kernel_rfl) (by kernel_rfl)
theorem spec_DriftHours_ok : ConOkX (md F) Try.prog 10 spec_DriftHours_con := (ansX_ok (N := 1000) (by kernel_rfl) (mkΓ_consX (con_okX spec_l02Asked_ok) spec_l02Asked_enter (mkΓ_consX (con_okX spec_l00In_ok) spec_l00In_enter (mkΓ_consX (con_okX spec_l02Drift_ok) spec_l02Drift_enter mkΓ_nilX))) (fn := Try.f10) (by kernel_rfl) (by kernel_rfl) []).of (by
  intro ρ h w args vals r e hA hH hr
  unfold spec_DriftHours_con at hr
  split at hr
  · rename_i a0 a1 a2
    obtain ⟨rfl, hg⟩ := Prod.mk.inj (Option.some.inj hr)
    obtain ⟨rfl, hg2⟩ := Prod.mk.inj hg
    exact spec_DriftHours_main a0 a1 a2 (hA.wt 0 rfl) (hA.wt 1 rfl) (hA.rng 2 rfl) hg2
  · cases hr)
theorem spec_DriftHour_ans (N : Nat) (a0 : Array Value) (a1 : Array Value) : ansV Try.prog (mkΓ [(12, con spec_l02Asked_con), (13, con spec_l02Hour_con)]) N Try.f5 [] [.g a0 39, .g a1 32] [] = (bif ((spec_l02Asked_v0 a0 a1) != (0 : Int)) then (some (.t [.g (zc Try.prog 32) 32, .i .i64 (spec_l02Asked_v0 a0 a1)], .none, true))
    else (bif ((num a1 1) == (14 : Int)) then (some (.t [.g (zc Try.prog 32) 32, .i .i64 (3 : Int)], .none, true))
      else (bif (okS a0 && (decide (0 ≤ tdS a1) && decide (tdS a1 < 2))) then (some (.t [.g (hourV Try.prog a0 a1) 32, .i .i64 (0 : Int)], .none, true))
        else (none)))) := by kernel_rfl
noncomputable def spec_DriftHour_v0 (P : Program) (a0 : Array Value) (a1 : Array Value) : Array Value := (bif ((spec_l02Asked_v0 a0 a1) != (0 : Int)) then (zc P 32) else (bif ((num a1 1) == (14 : Int)) then (zc P 32) else (hourV P a0 a1)))
noncomputable def spec_DriftHour_v1 (a0 : Array Value) (a1 : Array Value) : Int := (bif ((spec_l02Asked_v0 a0 a1) != (0 : Int)) then (spec_l02Asked_v0 a0 a1) else (bif ((num a1 1) == (14 : Int)) then (3 : Int) else (0 : Int)))
noncomputable def spec_DriftHour_gd (a0 : Array Value) (a1 : Array Value) : Bool := (bif ((spec_l02Asked_v0 a0 a1) != (0 : Int)) then true else (bif ((num a1 1) == (14 : Int)) then true else (okS a0 && (decide (0 ≤ tdS a1) && decide (tdS a1 < 2)))))
theorem spec_DriftHour_main (a0 : Array Value) (a1 : Array Value) (h_a0 : WT Try.prog 39 a0) (h_a1 : WT Try.prog 32 a1) (hg : ((spec_DriftHour_gd a0 a1)) = true) : ansV Try.prog (mkΓ [(12, con spec_l02Asked_con), (13, con spec_l02Hour_con)]) 1000 Try.f5 [] [.g a0 39, .g a1 32] [] = some (.t [.g (spec_DriftHour_v0 Try.prog a0 a1) 32, .i .i64 (spec_DriftHour_v1 a0 a1)], .none, true) := by
  refine (spec_DriftHour_ans 1000 a0 a1).trans ?_
  unfold spec_DriftHour_gd at hg
  unfold spec_DriftHour_v0 spec_DriftHour_v1
  revert hg
  generalize (((spec_l02Asked_v0 a0 a1) != (0 : Int))) = b2
  intro hg
  cases b2
  · skip
    revert hg
    generalize (((num a1 1) == (14 : Int))) = b4
    intro hg
    cases b4
    · skip
      revert hg
      generalize ((okS a0 && (decide (0 ≤ tdS a1) && decide (tdS a1 < 2)))) = b6
      intro hg
      cases b6
      · skip
        first | exact (nomatch (hg : false = true)) | (simp only [cond_true, cond_false, Bool.and_true, Bool.true_and, Bool.and_false, Bool.false_and]; done) | rfl
      · skip
        first | (simp only [cond_true, cond_false, Bool.and_true, Bool.true_and, Bool.and_false, Bool.false_and]; done) | rfl | exact (nomatch (hg : false = true))
    · skip
      first | (simp only [cond_true, cond_false, Bool.and_true, Bool.true_and, Bool.and_false, Bool.false_and]; done) | rfl | exact (nomatch (hg : false = true))
  · skip
    first | (simp only [cond_true, cond_false, Bool.and_true, Bool.true_and, Bool.and_false, Bool.false_and]; done) | rfl | exact (nomatch (hg : false = true))
noncomputable def spec_DriftHour_con : Con := fun args h => match args, h with
  | [.g a0 39, .g a1 32], [] => some (.t [.g (spec_DriftHour_v0 Try.prog a0 a1) 32, .i .i64 (spec_DriftHour_v1 a0 a1)], .none, (spec_DriftHour_gd a0 a1))
  | _, _ => none
theorem spec_DriftHour_enter : EntX Try.prog 5 := entX_ok (fn := Try.f5) (by kernel_rfl) (by kernel_rfl) (by kernel_rfl)
theorem spec_DriftHour_ok : ConOkX (md F) Try.prog 5 spec_DriftHour_con := (ansX_ok (N := 1000) (by kernel_rfl) (mkΓ_consX (con_okX spec_l02Asked_ok) spec_l02Asked_enter (mkΓ_consX (con_okX spec_l02Hour_ok) spec_l02Hour_enter mkΓ_nilX)) (fn := Try.f5) (by kernel_rfl) (by kernel_rfl) []).of (by
  intro ρ h w args vals r e hA hH hr
  unfold spec_DriftHour_con at hr
  split at hr
  · rename_i a0 a1
    obtain ⟨rfl, hg⟩ := Prod.mk.inj (Option.some.inj hr)
    obtain ⟨rfl, hg2⟩ := Prod.mk.inj hg
    exact spec_DriftHour_main a0 a1 (hA.wt 0 rfl) (hA.wt 1 rfl) hg2
  · cases hr)
theorem asked_zero {S D : Array Value} (h : (spec_l02Asked_v0 S D != (0 : Int)) = false) : okS S = true ∧ specSp S D = true := by
  unfold spec_l02Asked_v0 at h
  cases h1 : okS S with
  | false => rw [h1] at h; exact nomatch h
  | true =>
    cases h2 : specSp S D with
    | false => rw [h1, h2] at h; exact nomatch h
    | true => exact ⟨rfl, rfl⟩
theorem hours_in {S D : Array Value} (hS : WT Try.prog 39 S) (hD : WT Try.prog 32 D) {n : Int} (h : (spec_l02Asked_v0 S D != (0 : Int)) = false) (hn : spec_l00In_v0 n 0 14 = true) : okS S = true ∧ (0 ≤ num D 0 ∧ num D 0 < 2) ∧ (0 ≤ num D 1 ∧ num D 1 ≤ 14) ∧ ZO S D ∧ ∃ m : Nat, n = m ∧ m ≤ 14 := by
  obtain ⟨hok, hsp⟩ := asked_zero h
  obtain ⟨h0, h1, hz⟩ := spec_facts hS hD hsp
  obtain ⟨n0, n1⟩ := in_range hn
  exact ⟨hok, h0, h1, hz, n.toNat, by omega, by omega⟩
theorem spec_DriftHours_free {S D : Array Value} (hS : WT Try.prog 39 S) (hD : WT Try.prog 32 D) (n : Int) : spec_DriftHours_gd S D n = true := by
  unfold spec_DriftHours_gd
  cases ha : (spec_l02Asked_v0 S D != (0 : Int)) with
  | true => rfl
  | false =>
    cases hi : spec_l00In_v0 n 0 14 with
    | false => rfl
    | true =>
      cases decide (IntKind.i64.wrap (IntKind.i64.wrap (num D 1) + n) > (14 : Int)) with
      | true => rfl
      | false =>
        obtain ⟨hok, h0, h1, _, m, rfl, hm⟩ := hours_in hS hD ha hi
        simp only [cond_false, Bool.not_true, hok, Bool.true_and, Bool.and_eq_true, decide_eq_true_eq]
        exact ⟨h0, h1, by omega, by omega⟩
noncomputable def impl_DriftHours_e0 : Int × Array Value → LS
  | (y0_28, r0_1) => ([.a (.i .i64 (y0_28))], [.row r0_1 32])
noncomputable def impl_DriftHours_x0 : Int × Array Value → Exit × LS
  | t => ((.exit 0), impl_DriftHours_e0 t)
noncomputable def impl_DriftHours_g0 (P : Program) (a0 : Array Value) (a1 : Array Value) (a2 : Int) : Int × Array Value → Option (Stp (Int × Array Value) (Int × Array Value))
  | (y0_28, r0_1) => bif decide (y0_28 < a2) then (bif (goG a0 r0_1) then (some (.more ((IntKind.i64.wrap (y0_28 + (1 : Int))), (hourV Try.prog a0 r0_1))))
      else (none))
    else (some (.done (y0_28, r0_1)))
theorem impl_DriftHours_s0 (N : Nat) (a0 : Array Value) (a1 : Array Value) (a2 : Int) : ∀ t : Int × Array Value, stepV Try.prog (mkΓ [(19, con impl_spreadCode_con), (20, con impl_hasHours_con), (21, con impl_driftOn_con)]) N (cAt (codeOf Try.f11) [1, 1, 1, 1, 0, 1, 0, 0]) (pAt (mkPlan (codeOf Try.f11) [([28], [1])]).1 [1, 1, 1, 1, 0, 1, 0]) [28] [1] (⟨.a (.g a0 39) :: .a (.g a1 32) :: .a (.i .i64 (a2)) :: .a (.w 0) :: .a (.w 1) :: .a (.u) :: .a (.w 2) :: .a (.i .i64 (0 : Int)) :: .a (.i .i64 (impl_spreadCode_v0 a0 a1)) :: .a (.g a0 39) :: .a (.g a1 32) :: .a (.i .i64 (impl_spreadCode_v0 a0 a1)) :: .a (.i .i64 (impl_spreadCode_v0 a0 a1)) :: .a (.b (((impl_spreadCode_v0 a0 a1) != (0 : Int)))) :: .a (.u) :: .a (.u) :: .a (.i .i64 (a2)) :: .a (.b ((impl_hasHours_v0 a2))) :: .a (.b ((!((impl_hasHours_v0 a2))))) :: .a (.u) :: .a (.p 1 (1) 22) :: .a (.i .i8 (num a1 1)) :: .a (.i .i64 (IntKind.i64.wrap (num a1 1))) :: .a (.i .i64 (a2)) :: .a (.i .i64 (IntKind.i64.wrap ((IntKind.i64.wrap (num a1 1)) + a2))) :: .a (.b (decide ((IntKind.i64.wrap ((IntKind.i64.wrap (num a1 1)) + a2)) > (14 : Int)))) :: .a (.u) :: .a (.i .i64 (a2)) :: .a (.i .i64 (0 : Int)) :: us 6 ([]), [.row a0 39, .row a1 32, .row (zc Try.prog 32) 32, .no], []⟩ : St) (impl_DriftHours_e0 t) = mapS impl_DriftHours_e0 impl_DriftHours_x0 (impl_DriftHours_g0 Try.prog a0 a1 a2 t) := by
  rintro ⟨y0_28, r0_1⟩
  refine Eq.trans (b := (bif decide (y0_28 < a2) then (bif (goG a0 r0_1) then (some (.more ([.a (.i .i64 (IntKind.i64.wrap (y0_28 + (1 : Int))))], [.row (hourV Try.prog a0 r0_1) 32])))
      else (none))
    else (some (.done ((.exit 0), ([.a (.i .i64 (y0_28))], [.row r0_1 32])))))) (by kernel_rfl) ?_
  simp only [impl_DriftHours_g0, mapS_cond, mapS_more, mapS_done, mapS_none, impl_DriftHours_e0, impl_DriftHours_x0]
noncomputable def impl_DriftHours_k0_0 (P : Program) (N : Nat) (a0 : Array Value) (a1 : Array Value) (a2 : Int) (z0_28 : Int) (q0_1 : Array Value) : Option (SV × Eff × Bool) := some (.t [.g q0_1 32, .i .i64 (0 : Int)], .none, true)
theorem impl_DriftHours_k0_0_eq (N : Nat) (a0 : Array Value) (a1 : Array Value) (a2 : Int) (z0_28 : Int) (q0_1 : Array Value) : (kBlock 0 (kSeq (veC Try.prog (mkΓ [(19, con impl_spreadCode_con), (20, con impl_hasHours_con), (21, con impl_driftOn_con)]) N (cAt (codeOf Try.f11) [1, 1, 1, 1, 1]) (pAt (mkPlan (codeOf Try.f11) [([28], [1])]).1 [1, 1, 1, 1, 1]) (SV × Eff × Bool)) (finK Try.prog [] [.cell 6 32, .tmp 7]))) (.exit 0) (left (writes (cAt (codeOf Try.f11) [1, 1, 1, 1, 0, 1, 0, 0])) [28] [1] (⟨.a (.g a0 39) :: .a (.g a1 32) :: .a (.i .i64 (a2)) :: .a (.w 0) :: .a (.w 1) :: .a (.u) :: .a (.w 2) :: .a (.i .i64 (0 : Int)) :: .a (.i .i64 (impl_spreadCode_v0 a0 a1)) :: .a (.g a0 39) :: .a (.g a1 32) :: .a (.i .i64 (impl_spreadCode_v0 a0 a1)) :: .a (.i .i64 (impl_spreadCode_v0 a0 a1)) :: .a (.b (((impl_spreadCode_v0 a0 a1) != (0 : Int)))) :: .a (.u) :: .a (.u) :: .a (.i .i64 (a2)) :: .a (.b ((impl_hasHours_v0 a2))) :: .a (.b ((!((impl_hasHours_v0 a2))))) :: .a (.u) :: .a (.p 1 (1) 22) :: .a (.i .i8 (num a1 1)) :: .a (.i .i64 (IntKind.i64.wrap (num a1 1))) :: .a (.i .i64 (a2)) :: .a (.i .i64 (IntKind.i64.wrap ((IntKind.i64.wrap (num a1 1)) + a2))) :: .a (.b (decide ((IntKind.i64.wrap ((IntKind.i64.wrap (num a1 1)) + a2)) > (14 : Int)))) :: .a (.u) :: .a (.i .i64 (a2)) :: .a (.i .i64 (0 : Int)) :: us 6 ([]), [.row a0 39, .row a1 32, .row (zc Try.prog 32) 32, .no], []⟩ : St) ([.a (.i .i64 (z0_28))], [.row q0_1 32])) = impl_DriftHours_k0_0 Try.prog N a0 a1 a2 z0_28 q0_1 := by
  refine Eq.trans (b := (some (.t [.g q0_1 32, .i .i64 (0 : Int)], .none, true))) (by kernel_rfl) ?_
  rfl
theorem impl_DriftHours_n0 (N : Nat) (a0 : Array Value) (a1 : Array Value) (a2 : Int) : bindX (iterO (stepV Try.prog (mkΓ [(19, con impl_spreadCode_con), (20, con impl_hasHours_con), (21, con impl_driftOn_con)]) N (cAt (codeOf Try.f11) [1, 1, 1, 1, 0, 1, 0, 0]) (pAt (mkPlan (codeOf Try.f11) [([28], [1])]).1 [1, 1, 1, 1, 0, 1, 0]) [28] [1] (⟨.a (.g a0 39) :: .a (.g a1 32) :: .a (.i .i64 (a2)) :: .a (.w 0) :: .a (.w 1) :: .a (.u) :: .a (.w 2) :: .a (.i .i64 (0 : Int)) :: .a (.i .i64 (impl_spreadCode_v0 a0 a1)) :: .a (.g a0 39) :: .a (.g a1 32) :: .a (.i .i64 (impl_spreadCode_v0 a0 a1)) :: .a (.i .i64 (impl_spreadCode_v0 a0 a1)) :: .a (.b (((impl_spreadCode_v0 a0 a1) != (0 : Int)))) :: .a (.u) :: .a (.u) :: .a (.i .i64 (a2)) :: .a (.b ((impl_hasHours_v0 a2))) :: .a (.b ((!((impl_hasHours_v0 a2))))) :: .a (.u) :: .a (.p 1 (1) 22) :: .a (.i .i8 (num a1 1)) :: .a (.i .i64 (IntKind.i64.wrap (num a1 1))) :: .a (.i .i64 (a2)) :: .a (.i .i64 (IntKind.i64.wrap ((IntKind.i64.wrap (num a1 1)) + a2))) :: .a (.b (decide ((IntKind.i64.wrap ((IntKind.i64.wrap (num a1 1)) + a2)) > (14 : Int)))) :: .a (.u) :: .a (.i .i64 (a2)) :: .a (.i .i64 (0 : Int)) :: us 6 ([]), [.row a0 39, .row a1 32, .row (zc Try.prog 32) 32, .no], []⟩ : St)) N ([.a (.i .i64 (0 : Int))], [.row a1 32])) (fun e s => (kBlock 0 (kSeq (veC Try.prog (mkΓ [(19, con impl_spreadCode_con), (20, con impl_hasHours_con), (21, con impl_driftOn_con)]) N (cAt (codeOf Try.f11) [1, 1, 1, 1, 1]) (pAt (mkPlan (codeOf Try.f11) [([28], [1])]).1 [1, 1, 1, 1, 1]) (SV × Eff × Bool)) (finK Try.prog [] [.cell 6 32, .tmp 7]))) e (left (writes (cAt (codeOf Try.f11) [1, 1, 1, 1, 0, 1, 0, 0])) [28] [1] (⟨.a (.g a0 39) :: .a (.g a1 32) :: .a (.i .i64 (a2)) :: .a (.w 0) :: .a (.w 1) :: .a (.u) :: .a (.w 2) :: .a (.i .i64 (0 : Int)) :: .a (.i .i64 (impl_spreadCode_v0 a0 a1)) :: .a (.g a0 39) :: .a (.g a1 32) :: .a (.i .i64 (impl_spreadCode_v0 a0 a1)) :: .a (.i .i64 (impl_spreadCode_v0 a0 a1)) :: .a (.b (((impl_spreadCode_v0 a0 a1) != (0 : Int)))) :: .a (.u) :: .a (.u) :: .a (.i .i64 (a2)) :: .a (.b ((impl_hasHours_v0 a2))) :: .a (.b ((!((impl_hasHours_v0 a2))))) :: .a (.u) :: .a (.p 1 (1) 22) :: .a (.i .i8 (num a1 1)) :: .a (.i .i64 (IntKind.i64.wrap (num a1 1))) :: .a (.i .i64 (a2)) :: .a (.i .i64 (IntKind.i64.wrap ((IntKind.i64.wrap (num a1 1)) + a2))) :: .a (.b (decide ((IntKind.i64.wrap ((IntKind.i64.wrap (num a1 1)) + a2)) > (14 : Int)))) :: .a (.u) :: .a (.i .i64 (a2)) :: .a (.i .i64 (0 : Int)) :: us 6 ([]), [.row a0 39, .row a1 32, .row (zc Try.prog 32) 32, .no], []⟩ : St) s)) = nodeX (iterO (impl_DriftHours_g0 Try.prog a0 a1 a2) N ((0 : Int), a1)) (fun x => impl_DriftHours_k0_0 Try.prog N a0 a1 a2 x.1 x.2) := by
  refine loop_node impl_DriftHours_e0 impl_DriftHours_x0 _ _ (impl_DriftHours_s0 N a0 a1 a2) N ((0 : Int), a1) _ _ ?_
  intro x; exact impl_DriftHours_k0_0_eq N a0 a1 a2 x.1 x.2
theorem impl_DriftHours_ans (N : Nat) (a0 : Array Value) (a1 : Array Value) (a2 : Int) : ansV Try.prog (mkΓ [(19, con impl_spreadCode_con), (20, con impl_hasHours_con), (21, con impl_driftOn_con)]) N Try.f11 [([28], [1])] [.g a0 39, .g a1 32, .i .i64 (a2)] [] = (bif (impl_ValidSpread_gd a0 a1) then (bif ((impl_spreadCode_v0 a0 a1) != (0 : Int)) then (some (.t [.g (zc Try.prog 32) 32, .i .i64 (impl_spreadCode_v0 a0 a1)], .none, true))
      else (bif (!((impl_hasHours_v0 a2))) then (some (.t [.g (zc Try.prog 32) 32, .i .i64 (2 : Int)], .none, true))
        else (bif decide ((IntKind.i64.wrap ((IntKind.i64.wrap (num a1 1)) + a2)) > (14 : Int)) then (some (.t [.g (zc Try.prog 32) 32, .i .i64 (3 : Int)], .none, true))
          else (nodeX (iterO (impl_DriftHours_g0 Try.prog a0 a1 a2) N ((0 : Int), a1)) (fun x => impl_DriftHours_k0_0 Try.prog N a0 a1 a2 x.1 x.2)))))
    else (none)) := by
  refine Eq.trans (b := (bif (impl_ValidSpread_gd a0 a1) then (bif ((impl_spreadCode_v0 a0 a1) != (0 : Int)) then (some (.t [.g (zc Try.prog 32) 32, .i .i64 (impl_spreadCode_v0 a0 a1)], .none, true))
      else (bif (!((impl_hasHours_v0 a2))) then (some (.t [.g (zc Try.prog 32) 32, .i .i64 (2 : Int)], .none, true))
        else (bif decide ((IntKind.i64.wrap ((IntKind.i64.wrap (num a1 1)) + a2)) > (14 : Int)) then (some (.t [.g (zc Try.prog 32) 32, .i .i64 (3 : Int)], .none, true))
          else (bindX (iterO (stepV Try.prog (mkΓ [(19, con impl_spreadCode_con), (20, con impl_hasHours_con), (21, con impl_driftOn_con)]) N (cAt (codeOf Try.f11) [1, 1, 1, 1, 0, 1, 0, 0]) (pAt (mkPlan (codeOf Try.f11) [([28], [1])]).1 [1, 1, 1, 1, 0, 1, 0]) [28] [1] (⟨.a (.g a0 39) :: .a (.g a1 32) :: .a (.i .i64 (a2)) :: .a (.w 0) :: .a (.w 1) :: .a (.u) :: .a (.w 2) :: .a (.i .i64 (0 : Int)) :: .a (.i .i64 (impl_spreadCode_v0 a0 a1)) :: .a (.g a0 39) :: .a (.g a1 32) :: .a (.i .i64 (impl_spreadCode_v0 a0 a1)) :: .a (.i .i64 (impl_spreadCode_v0 a0 a1)) :: .a (.b (((impl_spreadCode_v0 a0 a1) != (0 : Int)))) :: .a (.u) :: .a (.u) :: .a (.i .i64 (a2)) :: .a (.b ((impl_hasHours_v0 a2))) :: .a (.b ((!((impl_hasHours_v0 a2))))) :: .a (.u) :: .a (.p 1 (1) 22) :: .a (.i .i8 (num a1 1)) :: .a (.i .i64 (IntKind.i64.wrap (num a1 1))) :: .a (.i .i64 (a2)) :: .a (.i .i64 (IntKind.i64.wrap ((IntKind.i64.wrap (num a1 1)) + a2))) :: .a (.b (decide ((IntKind.i64.wrap ((IntKind.i64.wrap (num a1 1)) + a2)) > (14 : Int)))) :: .a (.u) :: .a (.i .i64 (a2)) :: .a (.i .i64 (0 : Int)) :: us 6 ([]), [.row a0 39, .row a1 32, .row (zc Try.prog 32) 32, .no], []⟩ : St)) N ([.a (.i .i64 (0 : Int))], [.row a1 32])) (fun e s => (kBlock 0 (kSeq (veC Try.prog (mkΓ [(19, con impl_spreadCode_con), (20, con impl_hasHours_con), (21, con impl_driftOn_con)]) N (cAt (codeOf Try.f11) [1, 1, 1, 1, 1]) (pAt (mkPlan (codeOf Try.f11) [([28], [1])]).1 [1, 1, 1, 1, 1]) (SV × Eff × Bool)) (finK Try.prog [] [.cell 6 32, .tmp 7]))) e (left (writes (cAt (codeOf Try.f11) [1, 1, 1, 1, 0, 1, 0, 0])) [28] [1] (⟨.a (.g a0 39) :: .a (.g a1 32) :: .a (.i .i64 (a2)) :: .a (.w 0) :: .a (.w 1) :: .a (.u) :: .a (.w 2) :: .a (.i .i64 (0 : Int)) :: .a (.i .i64 (impl_spreadCode_v0 a0 a1)) :: .a (.g a0 39) :: .a (.g a1 32) :: .a (.i .i64 (impl_spreadCode_v0 a0 a1)) :: .a (.i .i64 (impl_spreadCode_v0 a0 a1)) :: .a (.b (((impl_spreadCode_v0 a0 a1) != (0 : Int)))) :: .a (.u) :: .a (.u) :: .a (.i .i64 (a2)) :: .a (.b ((impl_hasHours_v0 a2))) :: .a (.b ((!((impl_hasHours_v0 a2))))) :: .a (.u) :: .a (.p 1 (1) 22) :: .a (.i .i8 (num a1 1)) :: .a (.i .i64 (IntKind.i64.wrap (num a1 1))) :: .a (.i .i64 (a2)) :: .a (.i .i64 (IntKind.i64.wrap ((IntKind.i64.wrap (num a1 1)) + a2))) :: .a (.b (decide ((IntKind.i64.wrap ((IntKind.i64.wrap (num a1 1)) + a2)) > (14 : Int)))) :: .a (.u) :: .a (.i .i64 (a2)) :: .a (.i .i64 (0 : Int)) :: us 6 ([]), [.row a0 39, .row a1 32, .row (zc Try.prog 32) 32, .no], []⟩ : St) s))))))
    else (none))) (by kernel_rfl) ?_
  simp only [impl_DriftHours_n0 N a0 a1 a2]
theorem impl_DriftHours_main (a0 : Array Value) (a1 : Array Value) (a2 : Int) (h_a0 : WT Try.prog 39 a0) (h_a1 : WT Try.prog 32 a1) (h_a2 : IntKind.i64.min ≤ a2 ∧ a2 ≤ IntKind.i64.max) (hg : (true) = true) : ansV Try.prog (mkΓ [(19, con impl_spreadCode_con), (20, con impl_hasHours_con), (21, con impl_driftOn_con)]) 1000 Try.f11 [([28], [1])] [.g a0 39, .g a1 32, .i .i64 (a2)] [] = some (.t [.g (spec_DriftHours_v0 Try.prog a0 a1 a2) 32, .i .i64 (spec_DriftHours_v1 a0 a1 a2)], .none, true) := by
  refine (impl_DriftHours_ans 1000 a0 a1 a2).trans ?_
  unfold spec_DriftHours_v0 spec_DriftHours_v1
  have hh : impl_hasHours_v0 a2 = spec_l00In_v0 a2 0 14 := rfl
  rw [(valid_spread a0 a1).2, cond_true, asked_eq, hh]
  cases ha : (spec_l02Asked_v0 a0 a1 != (0 : Int)) with
  | true => rfl
  | false =>
    cases hi : spec_l00In_v0 a2 0 14 with
    | false => rfl
    | true =>
      cases decide (IntKind.i64.wrap (IntKind.i64.wrap (num a1 1) + a2) > (14 : Int)) with
      | true => rfl
      | false =>
        obtain ⟨hok, h0, h1, hz, m, rfl, hm⟩ := hours_in h_a0 h_a1 ha hi
        have h := iter_all (g := impl_DriftHours_g0 Try.prog a0 a1 (m : Int)) (fun j => ((j : Int), driftV Try.prog a0 a1 j)) (m := m) (x := ((m : Int), driftV Try.prog a0 a1 m)) (N := 1000) (fun j hj => by
          have h2 : decide ((j : Int) < (m : Int)) = true := decide_eq_true (by omega)
          have h3 : IntKind.i64.wrap ((j : Int) + 1) = ((j + 1 : Nat) : Int) := by rw [w64 (by omega)]; omega
          have hl := drift_low (S := a0) h0 h1 j (by omega)
          have hg : goG a0 (driftV Try.prog a0 a1 j) = true := goG_iff.2 ⟨hok, by rw [hl.1]; exact h0, by rw [hl.2]; omega, drift_zero h_a1 hok h_a0 hz j⟩
          simp only [impl_DriftHours_g0, h2, h3, hg, cond_true]
          rfl) (by
          have h2 : decide ((m : Int) < (m : Int)) = false := decide_eq_false (by omega)
          simp only [impl_DriftHours_g0, h2, cond_false]) (by omega)
        have h' : iterO (impl_DriftHours_g0 Try.prog a0 a1 (m : Int)) 1000 ((0 : Int), a1) = some ((m : Int), driftV Try.prog a0 a1 m) := h
        simp only [cond_false, Bool.not_true]
        rw [h']
        rfl
noncomputable def impl_DriftHours_con : Con := fun args h => match args, h with
  | [.g a0 39, .g a1 32, .i .i64 a2], [] => some (.t [.g (spec_DriftHours_v0 Try.prog a0 a1 a2) 32, .i .i64 (spec_DriftHours_v1 a0 a1 a2)], .none, true)
  | _, _ => none
theorem impl_DriftHours_enter : EntX Try.prog 11 := entX_ok (fn := Try.f11) (by kernel_rfl) (by kernel_rfl) (by kernel_rfl)
theorem impl_DriftHours_ok : ConOkX (md F) Try.prog 11 impl_DriftHours_con := (ansX_ok (N := 1000) (by kernel_rfl) (mkΓ_consX (con_okX impl_spreadCode_ok) impl_spreadCode_enter (mkΓ_consX (con_okX impl_hasHours_ok) impl_hasHours_enter (mkΓ_consX (con_okX impl_driftOn_ok) impl_driftOn_enter mkΓ_nilX))) (fn := Try.f11) (by kernel_rfl) (by kernel_rfl) [([28], [1])]).of (by
  intro ρ h w args vals r e hA hH hr
  unfold impl_DriftHours_con at hr
  split at hr
  · rename_i a0 a1 a2
    obtain ⟨rfl, hg⟩ := Prod.mk.inj (Option.some.inj hr)
    obtain ⟨rfl, hg2⟩ := Prod.mk.inj hg
    exact impl_DriftHours_main a0 a1 a2 (hA.wt 0 rfl) (hA.wt 1 rfl) (hA.rng 2 rfl) hg2
  · cases hr)
theorem impl_DriftHour_ans (N : Nat) (a0 : Array Value) (a1 : Array Value) : ansV Try.prog (mkΓ [(11, con impl_DriftHours_con)]) N Try.f8 [] [.g a0 39, .g a1 32] [] = (some (.t [.g (spec_DriftHours_v0 Try.prog a0 a1 (1 : Int)) 32, .i .i64 (spec_DriftHours_v1 a0 a1 (1 : Int))], .none, true)) := by kernel_rfl
theorem impl_DriftHour_main (a0 : Array Value) (a1 : Array Value) (h_a0 : WT Try.prog 39 a0) (h_a1 : WT Try.prog 32 a1) (hg : (true) = true) : ansV Try.prog (mkΓ [(11, con impl_DriftHours_con)]) 1000 Try.f8 [] [.g a0 39, .g a1 32] [] = some (.t [.g (spec_DriftHours_v0 Try.prog a0 a1 (1 : Int)) 32, .i .i64 (spec_DriftHours_v1 a0 a1 (1 : Int))], .none, true) := by
  refine (impl_DriftHour_ans 1000 a0 a1).trans ?_
  rfl
noncomputable def impl_DriftHour_con : Con := fun args h => match args, h with
  | [.g a0 39, .g a1 32], [] => some (.t [.g (spec_DriftHours_v0 Try.prog a0 a1 (1 : Int)) 32, .i .i64 (spec_DriftHours_v1 a0 a1 (1 : Int))], .none, true)
  | _, _ => none
theorem impl_DriftHour_enter : EntX Try.prog 8 := entX_ok (fn := Try.f8) (by kernel_rfl) (by kernel_rfl) (by kernel_rfl)
theorem impl_DriftHour_ok : ConOkX (md F) Try.prog 8 impl_DriftHour_con := (ansX_ok (N := 1000) (by kernel_rfl) (mkΓ_consX (con_okX impl_DriftHours_ok) impl_DriftHours_enter mkΓ_nilX) (fn := Try.f8) (by kernel_rfl) (by kernel_rfl) []).of (by
  intro ρ h w args vals r e hA hH hr
  unfold impl_DriftHour_con at hr
  split at hr
  · rename_i a0 a1
    obtain ⟨rfl, hg⟩ := Prod.mk.inj (Option.some.inj hr)
    obtain ⟨rfl, hg2⟩ := Prod.mk.inj hg
    exact impl_DriftHour_main a0 a1 (hA.wt 0 rfl) (hA.wt 1 rfl) hg2
  · cases hr)
end
end Go.Proofs.Ytnbfkpecnhhecaa
