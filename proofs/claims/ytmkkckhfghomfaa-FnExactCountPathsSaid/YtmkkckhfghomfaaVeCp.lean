/- Counted paths and bounds. -/
import Derived.Test.YtmkkckhfghomfaaProg
import Derived.Test.YtmkkckhfghomfaaVeMk
namespace Go.Proofs.Ytmkkckhfghomfaa
open Go.ChangeShapes Go.WideShapes Go.ChangeAt Go.RowKit Ve
set_option linter.unusedVariables false
set_option linter.unusedSimpArgs false
set_option maxRecDepth 100000
noncomputable section
theorem tide_eq (t : Int) : impl_hasTide_v0 t = spec_l00In_v0 t 0 1 := by
  unfold impl_hasTide_v0 spec_l00In_v0
  by_cases h0 : t = 0
  · subst h0; rfl
  · by_cases h1 : t = 1
    · subst h1; rfl
    · rw [show (t == 0) = false from beq_eq_false_iff_ne.2 h0, show (t == 1) = false from beq_eq_false_iff_ne.2 h1]
      by_cases h2 : t ≥ 0
      · rw [decide_eq_true h2, decide_eq_false (show ¬ t ≤ 1 by omega)]; rfl
      · rw [decide_eq_false h2]; rfl
theorem tide_range {t : Int} (h : spec_l00In_v0 t 0 1 = true) : 0 ≤ t ∧ t ≤ 1 := by
  unfold spec_l00In_v0 at h
  cases h0 : decide (t ≥ 0) with
  | false => rw [h0] at h; exact nomatch h
  | true => rw [h0] at h; exact ⟨of_decide_eq_true h0, of_decide_eq_true h⟩

theorem ask_bottle (S : Array Value) (c b h : Int) : impl_bottleCode_v0 S c b h = spec_l04Asked_v0 c c b h S := by
  unfold impl_bottleCode_v0 spec_l04Asked_v0 impl_spotCode_v0 impl_cellCode_v0
  rw [tide_eq, cell_is, show impl_hasHours_v0 h = spec_l00In_v0 h 0 14 from rfl]
  cases okS S <;> cases spec_l01Is_v0 c S <;> cases spec_l00In_v0 b 0 1 <;> cases spec_l00In_v0 h 0 14 <;> rfl
theorem ask_ends (S : Array Value) (c b h to : Int) : impl_endsCode_v0 S c b h to = spec_l04Asked_v0 c to b h S := by
  unfold impl_endsCode_v0
  rw [ask_bottle, cell_is]
  unfold spec_l04Asked_v0
  cases okS S <;> cases spec_l01Is_v0 c S <;> cases spec_l01Is_v0 to S <;> cases spec_l00In_v0 b 0 1 <;> cases spec_l00In_v0 h 0 14 <;> rfl
theorem ask_all {S : Array Value} {c to b h : Int} (h0 : (spec_l04Asked_v0 c to b h S == 0) = true) : okS S = true ∧ spec_l01Is_v0 c S = true ∧ spec_l01Is_v0 to S = true ∧ spec_l00In_v0 b 0 1 = true ∧ spec_l00In_v0 h 0 14 = true := by
  unfold spec_l04Asked_v0 at h0
  cases h1 : okS S
  · rw [h1] at h0; exact nomatch h0
  · cases h2 : spec_l01Is_v0 c S
    · rw [h1, h2] at h0; exact nomatch h0
    · cases h3 : spec_l01Is_v0 to S
      · rw [h1, h2, h3] at h0; exact nomatch h0
      · cases h4 : spec_l00In_v0 b 0 1
        · rw [h1, h2, h3, h4] at h0; exact nomatch h0
        · cases h5 : spec_l00In_v0 h 0 14
          · rw [h1, h2, h3, h4, h5] at h0; exact nomatch h0
          · exact ⟨rfl, rfl, rfl, rfl, rfl⟩
theorem in_range {n lo hi : Int} (h : spec_l00In_v0 n lo hi = true) : lo ≤ n ∧ n ≤ hi := by rw [in_eq] at h; exact of_decide_eq_true h
theorem ask_guard {S : Array Value} {c to b h : Int} (h0 : (spec_l04Asked_v0 c to b h S == 0) = true) : (decide (0 ≤ c) && decide (c < 36)) = true ∧ (decide (0 ≤ to) && decide (to < 36)) = true ∧ ((okS S && (decide (0 ≤ b) && decide (b < 2))) && (decide (0 ≤ h) && decide (h ≤ 14))) = true ∧ impl_boundsFor_gd S to b h = true := by
  obtain ⟨h1, h2, h3, h4, h5⟩ := ask_all h0
  have r2 := is_range h2; have r3 := is_range h3; have r4 := in_range h4; have r5 := in_range h5
  have e2 : (decide (0 ≤ c) && decide (c < 36)) = true := by rw [decide_eq_true r2.1, decide_eq_true (show c < 36 by omega)]; rfl
  have e3 : (decide (0 ≤ to) && decide (to < 36)) = true := by rw [decide_eq_true r3.1, decide_eq_true (show to < 36 by omega)]; rfl
  have e4 : ((okS S && (decide (0 ≤ b) && decide (b < 2))) && (decide (0 ≤ h) && decide (h ≤ 14))) = true := by rw [h1, decide_eq_true r4.1, decide_eq_true (show b < 2 by omega), decide_eq_true r5.1, decide_eq_true r5.2]; rfl
  refine ⟨e2, e3, e4, ?_⟩
  unfold impl_boundsFor_gd
  rw [e3, e4]; rfl
theorem ne_of {x : Int} (h : (x == 0) = true) : (x != 0) = false := by unfold bne; rw [h]; rfl
theorem ne_of' {x : Int} (h : (x == 0) = false) : (x != 0) = true := by unfold bne; rw [h]; rfl

theorem impl_CountPaths_ans (N : Nat) (a0 : Array Value) (a1 : Int) (a2 : Int) (a3 : Int) (a4 : Int) : ansV Try.prog (mkΓ [(51, con impl_endsCode_con), (52, con cnt_impl_rowsBack_con), (53, con impl_onlyAt_con)]) N Try.f17 [] [.g a0 36, .i .i64 (a1), .i .i64 (a2), .i .i64 (a3), .i .i64 (a4)] [] = (bif ((impl_endsCode_v0 a0 a1 a2 a3 a4) != (0 : Int)) then (some (.t [.i .i64 (0 : Int), .i .i64 (impl_endsCode_v0 a0 a1 a2 a3 a4)], .none, true))
    else (bif (decide (0 ≤ a4) && decide (a4 < 36)) then (bif ((okS a0 && (decide (0 ≤ a2) && decide (a2 < 2))) && (decide (0 ≤ a3) && decide (a3 ≤ 14))) then (bif (decide (0 ≤ a3) && decide (a3 < (((a3.toNat + 1)) : Int))) then (bif (decide (0 ≤ a1) && decide (a1 < 36)) then (some (.t [.i .i64 (num (catR Try.prog cntL a0 (impl_onlyAt_v0 Try.prog a4) a2 a3 (a3.toNat + 1)) (((a3).toNat * 36) + ((a1).toNat * 1))), .i .i64 (0 : Int)], .none, true))
            else (none))
          else (none))
        else (none))
      else (none))) := by kernel_rfl

noncomputable def spec_CountPaths_e2 : Int × Array Value → LS
  | (y2_18, r2_7) => ([.a (.i .i64 (y2_18))], [.row r2_7 61])

noncomputable def spec_CountPaths_x2 : Int × Array Value → Exit × LS
  | t => ((.exit 4), spec_CountPaths_e2 t)

noncomputable def spec_CountPaths_g2 (P : Program) (a0 : Array Value) (a1 : Int) (a2 : Int) (a3 : Int) (a4 : Int) (y0_14 : Int) (r0_4 : Array Value) (y1_16 : Int) (r1_7 : Array Value) : Int × Array Value → Option (Stp (Int × Array Value) (Int × Array Value))
  | (y2_18, r2_7) => bif decide (y2_18 < (((nxL a0 y1_16 (((IntKind.i64.wrap (a2 + (IntKind.i64.wrap (a3 - y0_14))))).tmod (2 : Int))).length) : Int)) then (bif (decide (0 ≤ y1_16) && decide (y1_16 < 36)) then (bif (decide (0 ≤ y2_18) && decide (y2_18 < (((nxL a0 y1_16 (((IntKind.i64.wrap (a2 + (IntKind.i64.wrap (a3 - y0_14))))).tmod (2 : Int))).length) : Int))) then (bif (decide (0 ≤ (num (encI (nxL a0 y1_16 (((IntKind.i64.wrap (a2 + (IntKind.i64.wrap (a3 - y0_14))))).tmod (2 : Int)))) ((y2_18).toNat * 1))) && decide ((num (encI (nxL a0 y1_16 (((IntKind.i64.wrap (a2 + (IntKind.i64.wrap (a3 - y0_14))))).tmod (2 : Int)))) ((y2_18).toNat * 1)) < 36)) then (bif (decide (0 ≤ y1_16) && decide (y1_16 < 36)) then (some (.more ((IntKind.i64.wrap (y2_18 + (1 : Int))), (r2_7.setIfInBounds ((y1_16).toNat * 1) (.int .i64 (IntKind.i64.wrap ((num r2_7 ((y1_16).toNat * 1)) + (num r0_4 ((num (encI (nxL a0 y1_16 (((IntKind.i64.wrap (a2 + (IntKind.i64.wrap (a3 - y0_14))))).tmod (2 : Int)))) ((y2_18).toNat * 1)).toNat * 1)))))))))
            else (none))
          else (none))
        else (none))
      else (none))
    else (some (.done (y2_18, r2_7)))

theorem spec_CountPaths_s2 (N : Nat) (a0 : Array Value) (a1 : Int) (a2 : Int) (a3 : Int) (a4 : Int) (y0_14 : Int) (r0_4 : Array Value) (y1_16 : Int) (r1_7 : Array Value) : ∀ t : Int × Array Value, stepV Try.prog (mkΓ [(41, con spec_l01Is_con), (43, con spec_l04Tide_con), (49, con spec_l04Asked_con), (50, con spec_l04Next_con)]) N (cAt (codeOf Try.f16) [1, 1, 1, 1, 0, 1, 0, 0, 1, 0, 0, 1, 0, 1, 0, 0, 1, 0, 0, 1, 1, 1, 0, 0]) (pAt (mkPlan (codeOf Try.f16) [([14], [4]), ([16], [7]), ([18], [7])]).1 [1, 1, 1, 1, 0, 1, 0, 1, 0, 1, 0, 1, 0, 1, 0, 1, 1, 1, 0]) [18] [7] (⟨[.a (.g a0 36), .a (.i .i64 (a1)), .a (.i .i64 (a2)), .a (.i .i64 (a3)), .a (.i .i64 (a4)), .a (.w 0), .a (.u), .a (.u), .a (.u), .a (.u), .a (.i .i64 (0 : Int)), .a (.i .i64 (0 : Int)), .a (.i .i64 (spec_l04Asked_v0 a1 a4 a2 a3 a0)), .a (.w 4), .a (.i .i64 (y0_14)), .a (.w 7), .a (.i .i64 (y1_16)), .a (.l 15), .a (.i .i64 (0 : Int)), .a (.i .i64 (a1)), .a (.i .i64 (a4)), .a (.i .i64 (a2)), .a (.i .i64 (a3)), .a (.i .i64 (spec_l04Asked_v0 a1 a4 a2 a3 a0)), .a (.i .i64 (spec_l04Asked_v0 a1 a4 a2 a3 a0)), .a (.b (((spec_l04Asked_v0 a1 a4 a2 a3 a0) != (0 : Int)))), .a (.u), .a (.g (zc Try.prog 61) 61), .a (.i .i64 (a4)), .a (.p 4 (((a4).toNat * 1)) 2), .a (.i .i64 (y0_14)), .a (.i .i64 (a3)), .a (.b (decide (y0_14 ≤ a3))), .a (.x), .a (.x), .a (.g (zc Try.prog 61) 61), .a (.i .i64 (y1_16)), .a (.b (decide (y1_16 < (36 : Int)))), .a (.x), .a (.x), .a (.i .i64 (y1_16)), .a (.b ((spec_l01Is_v0 y1_16 a0))), .a (.b ((!((spec_l01Is_v0 y1_16 a0))))), .a (.i .i64 (y1_16)), .a (.i .i64 (a2)), .a (.i .i64 (a3)), .a (.i .i64 (y0_14)), .a (.i .i64 (IntKind.i64.wrap (a3 - y0_14))), .a (.i .i64 (((IntKind.i64.wrap (a2 + (IntKind.i64.wrap (a3 - y0_14))))).tmod (2 : Int))), .a (.l 15), .a (.x), .a (.x), .a (.x), .a (.x), .a (.x), .a (.x), .a (.x), .a (.x), .a (.x), .a (.x), .a (.x), .a (.x), .a (.x), .a (.x), .a (.x), .a (.x), .a (.x), .a (.x), .a (.u), .a (.u), .a (.u)], [.row a0 36, .no, .no, .no, .row r0_4 61, .no, .no, .row r1_7 61, .no, .no, .no, .no, .no, .no, .no, .sl .own ((nxL a0 y1_16 (((IntKind.i64.wrap (a2 + (IntKind.i64.wrap (a3 - y0_14))))).tmod (2 : Int))).length) (encI (nxL a0 y1_16 (((IntKind.i64.wrap (a2 + (IntKind.i64.wrap (a3 - y0_14))))).tmod (2 : Int)))) 2, .no], [7]⟩ : St) (spec_CountPaths_e2 t) = mapS spec_CountPaths_e2 spec_CountPaths_x2 (spec_CountPaths_g2 Try.prog a0 a1 a2 a3 a4 y0_14 r0_4 y1_16 r1_7 t) := by
  rintro ⟨y2_18, r2_7⟩
  have h : stepV Try.prog (mkΓ [(41, con spec_l01Is_con), (43, con spec_l04Tide_con), (49, con spec_l04Asked_con), (50, con spec_l04Next_con)]) N (cAt (codeOf Try.f16) [1, 1, 1, 1, 0, 1, 0, 0, 1, 0, 0, 1, 0, 1, 0, 0, 1, 0, 0, 1, 1, 1, 0, 0]) (pAt (mkPlan (codeOf Try.f16) [([14], [4]), ([16], [7]), ([18], [7])]).1 [1, 1, 1, 1, 0, 1, 0, 1, 0, 1, 0, 1, 0, 1, 0, 1, 1, 1, 0]) [18] [7] (⟨[.a (.g a0 36), .a (.i .i64 (a1)), .a (.i .i64 (a2)), .a (.i .i64 (a3)), .a (.i .i64 (a4)), .a (.w 0), .a (.u), .a (.u), .a (.u), .a (.u), .a (.i .i64 (0 : Int)), .a (.i .i64 (0 : Int)), .a (.i .i64 (spec_l04Asked_v0 a1 a4 a2 a3 a0)), .a (.w 4), .a (.i .i64 (y0_14)), .a (.w 7), .a (.i .i64 (y1_16)), .a (.l 15), .a (.i .i64 (0 : Int)), .a (.i .i64 (a1)), .a (.i .i64 (a4)), .a (.i .i64 (a2)), .a (.i .i64 (a3)), .a (.i .i64 (spec_l04Asked_v0 a1 a4 a2 a3 a0)), .a (.i .i64 (spec_l04Asked_v0 a1 a4 a2 a3 a0)), .a (.b (((spec_l04Asked_v0 a1 a4 a2 a3 a0) != (0 : Int)))), .a (.u), .a (.g (zc Try.prog 61) 61), .a (.i .i64 (a4)), .a (.p 4 (((a4).toNat * 1)) 2), .a (.i .i64 (y0_14)), .a (.i .i64 (a3)), .a (.b (decide (y0_14 ≤ a3))), .a (.x), .a (.x), .a (.g (zc Try.prog 61) 61), .a (.i .i64 (y1_16)), .a (.b (decide (y1_16 < (36 : Int)))), .a (.x), .a (.x), .a (.i .i64 (y1_16)), .a (.b ((spec_l01Is_v0 y1_16 a0))), .a (.b ((!((spec_l01Is_v0 y1_16 a0))))), .a (.i .i64 (y1_16)), .a (.i .i64 (a2)), .a (.i .i64 (a3)), .a (.i .i64 (y0_14)), .a (.i .i64 (IntKind.i64.wrap (a3 - y0_14))), .a (.i .i64 (((IntKind.i64.wrap (a2 + (IntKind.i64.wrap (a3 - y0_14))))).tmod (2 : Int))), .a (.l 15), .a (.x), .a (.x), .a (.x), .a (.x), .a (.x), .a (.x), .a (.x), .a (.x), .a (.x), .a (.x), .a (.x), .a (.x), .a (.x), .a (.x), .a (.x), .a (.x), .a (.x), .a (.x), .a (.u), .a (.u), .a (.u)], [.row a0 36, .no, .no, .no, .row r0_4 61, .no, .no, .row r1_7 61, .no, .no, .no, .no, .no, .no, .no, .sl .own ((nxL a0 y1_16 (((IntKind.i64.wrap (a2 + (IntKind.i64.wrap (a3 - y0_14))))).tmod (2 : Int))).length) (encI (nxL a0 y1_16 (((IntKind.i64.wrap (a2 + (IntKind.i64.wrap (a3 - y0_14))))).tmod (2 : Int)))) 2, .no], [7]⟩ : St) ([.a (.i .i64 (y2_18))], [.row r2_7 61]) = (bif decide (y2_18 < (((nxL a0 y1_16 (((IntKind.i64.wrap (a2 + (IntKind.i64.wrap (a3 - y0_14))))).tmod (2 : Int))).length) : Int)) then (bif (decide (0 ≤ y1_16) && decide (y1_16 < 36)) then (bif (decide (0 ≤ y2_18) && decide (y2_18 < (((nxL a0 y1_16 (((IntKind.i64.wrap (a2 + (IntKind.i64.wrap (a3 - y0_14))))).tmod (2 : Int))).length) : Int))) then (bif (decide (0 ≤ (num (encI (nxL a0 y1_16 (((IntKind.i64.wrap (a2 + (IntKind.i64.wrap (a3 - y0_14))))).tmod (2 : Int)))) ((y2_18).toNat * 1))) && decide ((num (encI (nxL a0 y1_16 (((IntKind.i64.wrap (a2 + (IntKind.i64.wrap (a3 - y0_14))))).tmod (2 : Int)))) ((y2_18).toNat * 1)) < 36)) then (bif (decide (0 ≤ y1_16) && decide (y1_16 < 36)) then (some (.more ([.a (.i .i64 (IntKind.i64.wrap (y2_18 + (1 : Int))))], [.row (r2_7.setIfInBounds ((y1_16).toNat * 1) (.int .i64 (IntKind.i64.wrap ((num r2_7 ((y1_16).toNat * 1)) + (num r0_4 ((num (encI (nxL a0 y1_16 (((IntKind.i64.wrap (a2 + (IntKind.i64.wrap (a3 - y0_14))))).tmod (2 : Int)))) ((y2_18).toNat * 1)).toNat * 1)))))) 61])))
            else (none))
          else (none))
        else (none))
      else (none))
    else (some (.done ((.exit 4), ([.a (.i .i64 (y2_18))], [.row r2_7 61]))))) := by kernel_rfl
  refine h.trans ?_
  simp only [spec_CountPaths_g2, mapS_cond, mapS_more, mapS_done, mapS_none, spec_CountPaths_e2, spec_CountPaths_x2]

noncomputable def spec_CountPaths_e1 : Int × Array Value → LS
  | (y1_16, r1_7) => ([.a (.i .i64 (y1_16))], [.row r1_7 61])

noncomputable def spec_CountPaths_x1 : Int × Array Value → Exit × LS
  | t => ((.exit 2), spec_CountPaths_e1 t)

noncomputable def spec_CountPaths_k2_0 (P : Program) (N : Nat) (a0 : Array Value) (a1 : Int) (a2 : Int) (a3 : Int) (a4 : Int) (y0_14 : Int) (r0_4 : Array Value) (y1_16 : Int) (r1_7 : Array Value) (z2_18 : Int) (q2_7 : Array Value) : Option (Stp (Int × Array Value) (Int × Array Value)) := some (.more ((IntKind.i64.wrap (y1_16 + (1 : Int))), q2_7))

theorem spec_CountPaths_k2_0_eq (N : Nat) (a0 : Array Value) (a1 : Int) (a2 : Int) (a3 : Int) (a4 : Int) (y0_14 : Int) (r0_4 : Array Value) (y1_16 : Int) (r1_7 : Array Value) (z2_18 : Int) (q2_7 : Array Value) : (kBlock 4 (kBlock 3 (kSeq (veC Try.prog (mkΓ [(41, con spec_l01Is_con), (43, con spec_l04Tide_con), (49, con spec_l04Asked_con), (50, con spec_l04Next_con)]) N (cAt (codeOf Try.f16) [1, 1, 1, 1, 0, 1, 0, 0, 1, 0, 0, 1, 0, 1, 0, 0, 1, 1]) (pAt (mkPlan (codeOf Try.f16) [([14], [4]), ([16], [7]), ([18], [7])]).1 [1, 1, 1, 1, 0, 1, 0, 1, 0, 1, 0, 1, 0, 1, 1]) (Stp LS (Exit × LS))) (kBody 9 [16] [7])))) (.exit 4) (left (writes (cAt (codeOf Try.f16) [1, 1, 1, 1, 0, 1, 0, 0, 1, 0, 0, 1, 0, 1, 0, 0, 1, 0, 0, 1, 1, 1, 0, 0])) [18] [7] (⟨[.a (.g a0 36), .a (.i .i64 (a1)), .a (.i .i64 (a2)), .a (.i .i64 (a3)), .a (.i .i64 (a4)), .a (.w 0), .a (.u), .a (.u), .a (.u), .a (.u), .a (.i .i64 (0 : Int)), .a (.i .i64 (0 : Int)), .a (.i .i64 (spec_l04Asked_v0 a1 a4 a2 a3 a0)), .a (.w 4), .a (.i .i64 (y0_14)), .a (.w 7), .a (.i .i64 (y1_16)), .a (.l 15), .a (.i .i64 (0 : Int)), .a (.i .i64 (a1)), .a (.i .i64 (a4)), .a (.i .i64 (a2)), .a (.i .i64 (a3)), .a (.i .i64 (spec_l04Asked_v0 a1 a4 a2 a3 a0)), .a (.i .i64 (spec_l04Asked_v0 a1 a4 a2 a3 a0)), .a (.b (((spec_l04Asked_v0 a1 a4 a2 a3 a0) != (0 : Int)))), .a (.u), .a (.g (zc Try.prog 61) 61), .a (.i .i64 (a4)), .a (.p 4 (((a4).toNat * 1)) 2), .a (.i .i64 (y0_14)), .a (.i .i64 (a3)), .a (.b (decide (y0_14 ≤ a3))), .a (.x), .a (.x), .a (.g (zc Try.prog 61) 61), .a (.i .i64 (y1_16)), .a (.b (decide (y1_16 < (36 : Int)))), .a (.x), .a (.x), .a (.i .i64 (y1_16)), .a (.b ((spec_l01Is_v0 y1_16 a0))), .a (.b ((!((spec_l01Is_v0 y1_16 a0))))), .a (.i .i64 (y1_16)), .a (.i .i64 (a2)), .a (.i .i64 (a3)), .a (.i .i64 (y0_14)), .a (.i .i64 (IntKind.i64.wrap (a3 - y0_14))), .a (.i .i64 (((IntKind.i64.wrap (a2 + (IntKind.i64.wrap (a3 - y0_14))))).tmod (2 : Int))), .a (.l 15), .a (.x), .a (.x), .a (.x), .a (.x), .a (.x), .a (.x), .a (.x), .a (.x), .a (.x), .a (.x), .a (.x), .a (.x), .a (.x), .a (.x), .a (.x), .a (.x), .a (.x), .a (.x), .a (.u), .a (.u), .a (.u)], [.row a0 36, .no, .no, .no, .row r0_4 61, .no, .no, .row r1_7 61, .no, .no, .no, .no, .no, .no, .no, .sl .own ((nxL a0 y1_16 (((IntKind.i64.wrap (a2 + (IntKind.i64.wrap (a3 - y0_14))))).tmod (2 : Int))).length) (encI (nxL a0 y1_16 (((IntKind.i64.wrap (a2 + (IntKind.i64.wrap (a3 - y0_14))))).tmod (2 : Int)))) 2, .no], [7]⟩ : St) ([.a (.i .i64 (z2_18))], [.row q2_7 61])) = mapS spec_CountPaths_e1 spec_CountPaths_x1 (spec_CountPaths_k2_0 Try.prog N a0 a1 a2 a3 a4 y0_14 r0_4 y1_16 r1_7 z2_18 q2_7) := by
  have h : (kBlock 4 (kBlock 3 (kSeq (veC Try.prog (mkΓ [(41, con spec_l01Is_con), (43, con spec_l04Tide_con), (49, con spec_l04Asked_con), (50, con spec_l04Next_con)]) N (cAt (codeOf Try.f16) [1, 1, 1, 1, 0, 1, 0, 0, 1, 0, 0, 1, 0, 1, 0, 0, 1, 1]) (pAt (mkPlan (codeOf Try.f16) [([14], [4]), ([16], [7]), ([18], [7])]).1 [1, 1, 1, 1, 0, 1, 0, 1, 0, 1, 0, 1, 0, 1, 1]) (Stp LS (Exit × LS))) (kBody 9 [16] [7])))) (.exit 4) (left (writes (cAt (codeOf Try.f16) [1, 1, 1, 1, 0, 1, 0, 0, 1, 0, 0, 1, 0, 1, 0, 0, 1, 0, 0, 1, 1, 1, 0, 0])) [18] [7] (⟨[.a (.g a0 36), .a (.i .i64 (a1)), .a (.i .i64 (a2)), .a (.i .i64 (a3)), .a (.i .i64 (a4)), .a (.w 0), .a (.u), .a (.u), .a (.u), .a (.u), .a (.i .i64 (0 : Int)), .a (.i .i64 (0 : Int)), .a (.i .i64 (spec_l04Asked_v0 a1 a4 a2 a3 a0)), .a (.w 4), .a (.i .i64 (y0_14)), .a (.w 7), .a (.i .i64 (y1_16)), .a (.l 15), .a (.i .i64 (0 : Int)), .a (.i .i64 (a1)), .a (.i .i64 (a4)), .a (.i .i64 (a2)), .a (.i .i64 (a3)), .a (.i .i64 (spec_l04Asked_v0 a1 a4 a2 a3 a0)), .a (.i .i64 (spec_l04Asked_v0 a1 a4 a2 a3 a0)), .a (.b (((spec_l04Asked_v0 a1 a4 a2 a3 a0) != (0 : Int)))), .a (.u), .a (.g (zc Try.prog 61) 61), .a (.i .i64 (a4)), .a (.p 4 (((a4).toNat * 1)) 2), .a (.i .i64 (y0_14)), .a (.i .i64 (a3)), .a (.b (decide (y0_14 ≤ a3))), .a (.x), .a (.x), .a (.g (zc Try.prog 61) 61), .a (.i .i64 (y1_16)), .a (.b (decide (y1_16 < (36 : Int)))), .a (.x), .a (.x), .a (.i .i64 (y1_16)), .a (.b ((spec_l01Is_v0 y1_16 a0))), .a (.b ((!((spec_l01Is_v0 y1_16 a0))))), .a (.i .i64 (y1_16)), .a (.i .i64 (a2)), .a (.i .i64 (a3)), .a (.i .i64 (y0_14)), .a (.i .i64 (IntKind.i64.wrap (a3 - y0_14))), .a (.i .i64 (((IntKind.i64.wrap (a2 + (IntKind.i64.wrap (a3 - y0_14))))).tmod (2 : Int))), .a (.l 15), .a (.x), .a (.x), .a (.x), .a (.x), .a (.x), .a (.x), .a (.x), .a (.x), .a (.x), .a (.x), .a (.x), .a (.x), .a (.x), .a (.x), .a (.x), .a (.x), .a (.x), .a (.x), .a (.u), .a (.u), .a (.u)], [.row a0 36, .no, .no, .no, .row r0_4 61, .no, .no, .row r1_7 61, .no, .no, .no, .no, .no, .no, .no, .sl .own ((nxL a0 y1_16 (((IntKind.i64.wrap (a2 + (IntKind.i64.wrap (a3 - y0_14))))).tmod (2 : Int))).length) (encI (nxL a0 y1_16 (((IntKind.i64.wrap (a2 + (IntKind.i64.wrap (a3 - y0_14))))).tmod (2 : Int)))) 2, .no], [7]⟩ : St) ([.a (.i .i64 (z2_18))], [.row q2_7 61])) = (some (.more ([.a (.i .i64 (IntKind.i64.wrap (y1_16 + (1 : Int))))], [.row q2_7 61]))) := by kernel_rfl
  refine h.trans ?_
  simp only [spec_CountPaths_k2_0, mapS_cond, mapS_more, mapS_done, mapS_none, spec_CountPaths_e1, spec_CountPaths_x1]

theorem spec_CountPaths_n2 (N : Nat) (a0 : Array Value) (a1 : Int) (a2 : Int) (a3 : Int) (a4 : Int) (y0_14 : Int) (r0_4 : Array Value) (y1_16 : Int) (r1_7 : Array Value) : bindX (iterO (stepV Try.prog (mkΓ [(41, con spec_l01Is_con), (43, con spec_l04Tide_con), (49, con spec_l04Asked_con), (50, con spec_l04Next_con)]) N (cAt (codeOf Try.f16) [1, 1, 1, 1, 0, 1, 0, 0, 1, 0, 0, 1, 0, 1, 0, 0, 1, 0, 0, 1, 1, 1, 0, 0]) (pAt (mkPlan (codeOf Try.f16) [([14], [4]), ([16], [7]), ([18], [7])]).1 [1, 1, 1, 1, 0, 1, 0, 1, 0, 1, 0, 1, 0, 1, 0, 1, 1, 1, 0]) [18] [7] (⟨[.a (.g a0 36), .a (.i .i64 (a1)), .a (.i .i64 (a2)), .a (.i .i64 (a3)), .a (.i .i64 (a4)), .a (.w 0), .a (.u), .a (.u), .a (.u), .a (.u), .a (.i .i64 (0 : Int)), .a (.i .i64 (0 : Int)), .a (.i .i64 (spec_l04Asked_v0 a1 a4 a2 a3 a0)), .a (.w 4), .a (.i .i64 (y0_14)), .a (.w 7), .a (.i .i64 (y1_16)), .a (.l 15), .a (.i .i64 (0 : Int)), .a (.i .i64 (a1)), .a (.i .i64 (a4)), .a (.i .i64 (a2)), .a (.i .i64 (a3)), .a (.i .i64 (spec_l04Asked_v0 a1 a4 a2 a3 a0)), .a (.i .i64 (spec_l04Asked_v0 a1 a4 a2 a3 a0)), .a (.b (((spec_l04Asked_v0 a1 a4 a2 a3 a0) != (0 : Int)))), .a (.u), .a (.g (zc Try.prog 61) 61), .a (.i .i64 (a4)), .a (.p 4 (((a4).toNat * 1)) 2), .a (.i .i64 (y0_14)), .a (.i .i64 (a3)), .a (.b (decide (y0_14 ≤ a3))), .a (.x), .a (.x), .a (.g (zc Try.prog 61) 61), .a (.i .i64 (y1_16)), .a (.b (decide (y1_16 < (36 : Int)))), .a (.x), .a (.x), .a (.i .i64 (y1_16)), .a (.b ((spec_l01Is_v0 y1_16 a0))), .a (.b ((!((spec_l01Is_v0 y1_16 a0))))), .a (.i .i64 (y1_16)), .a (.i .i64 (a2)), .a (.i .i64 (a3)), .a (.i .i64 (y0_14)), .a (.i .i64 (IntKind.i64.wrap (a3 - y0_14))), .a (.i .i64 (((IntKind.i64.wrap (a2 + (IntKind.i64.wrap (a3 - y0_14))))).tmod (2 : Int))), .a (.l 15), .a (.x), .a (.x), .a (.x), .a (.x), .a (.x), .a (.x), .a (.x), .a (.x), .a (.x), .a (.x), .a (.x), .a (.x), .a (.x), .a (.x), .a (.x), .a (.x), .a (.x), .a (.x), .a (.u), .a (.u), .a (.u)], [.row a0 36, .no, .no, .no, .row r0_4 61, .no, .no, .row r1_7 61, .no, .no, .no, .no, .no, .no, .no, .sl .own ((nxL a0 y1_16 (((IntKind.i64.wrap (a2 + (IntKind.i64.wrap (a3 - y0_14))))).tmod (2 : Int))).length) (encI (nxL a0 y1_16 (((IntKind.i64.wrap (a2 + (IntKind.i64.wrap (a3 - y0_14))))).tmod (2 : Int)))) 2, .no], [7]⟩ : St)) N ([.a (.i .i64 (0 : Int))], [.row r1_7 61])) (fun e s => (kBlock 4 (kBlock 3 (kSeq (veC Try.prog (mkΓ [(41, con spec_l01Is_con), (43, con spec_l04Tide_con), (49, con spec_l04Asked_con), (50, con spec_l04Next_con)]) N (cAt (codeOf Try.f16) [1, 1, 1, 1, 0, 1, 0, 0, 1, 0, 0, 1, 0, 1, 0, 0, 1, 1]) (pAt (mkPlan (codeOf Try.f16) [([14], [4]), ([16], [7]), ([18], [7])]).1 [1, 1, 1, 1, 0, 1, 0, 1, 0, 1, 0, 1, 0, 1, 1]) (Stp LS (Exit × LS))) (kBody 9 [16] [7])))) e (left (writes (cAt (codeOf Try.f16) [1, 1, 1, 1, 0, 1, 0, 0, 1, 0, 0, 1, 0, 1, 0, 0, 1, 0, 0, 1, 1, 1, 0, 0])) [18] [7] (⟨[.a (.g a0 36), .a (.i .i64 (a1)), .a (.i .i64 (a2)), .a (.i .i64 (a3)), .a (.i .i64 (a4)), .a (.w 0), .a (.u), .a (.u), .a (.u), .a (.u), .a (.i .i64 (0 : Int)), .a (.i .i64 (0 : Int)), .a (.i .i64 (spec_l04Asked_v0 a1 a4 a2 a3 a0)), .a (.w 4), .a (.i .i64 (y0_14)), .a (.w 7), .a (.i .i64 (y1_16)), .a (.l 15), .a (.i .i64 (0 : Int)), .a (.i .i64 (a1)), .a (.i .i64 (a4)), .a (.i .i64 (a2)), .a (.i .i64 (a3)), .a (.i .i64 (spec_l04Asked_v0 a1 a4 a2 a3 a0)), .a (.i .i64 (spec_l04Asked_v0 a1 a4 a2 a3 a0)), .a (.b (((spec_l04Asked_v0 a1 a4 a2 a3 a0) != (0 : Int)))), .a (.u), .a (.g (zc Try.prog 61) 61), .a (.i .i64 (a4)), .a (.p 4 (((a4).toNat * 1)) 2), .a (.i .i64 (y0_14)), .a (.i .i64 (a3)), .a (.b (decide (y0_14 ≤ a3))), .a (.x), .a (.x), .a (.g (zc Try.prog 61) 61), .a (.i .i64 (y1_16)), .a (.b (decide (y1_16 < (36 : Int)))), .a (.x), .a (.x), .a (.i .i64 (y1_16)), .a (.b ((spec_l01Is_v0 y1_16 a0))), .a (.b ((!((spec_l01Is_v0 y1_16 a0))))), .a (.i .i64 (y1_16)), .a (.i .i64 (a2)), .a (.i .i64 (a3)), .a (.i .i64 (y0_14)), .a (.i .i64 (IntKind.i64.wrap (a3 - y0_14))), .a (.i .i64 (((IntKind.i64.wrap (a2 + (IntKind.i64.wrap (a3 - y0_14))))).tmod (2 : Int))), .a (.l 15), .a (.x), .a (.x), .a (.x), .a (.x), .a (.x), .a (.x), .a (.x), .a (.x), .a (.x), .a (.x), .a (.x), .a (.x), .a (.x), .a (.x), .a (.x), .a (.x), .a (.x), .a (.x), .a (.u), .a (.u), .a (.u)], [.row a0 36, .no, .no, .no, .row r0_4 61, .no, .no, .row r1_7 61, .no, .no, .no, .no, .no, .no, .no, .sl .own ((nxL a0 y1_16 (((IntKind.i64.wrap (a2 + (IntKind.i64.wrap (a3 - y0_14))))).tmod (2 : Int))).length) (encI (nxL a0 y1_16 (((IntKind.i64.wrap (a2 + (IntKind.i64.wrap (a3 - y0_14))))).tmod (2 : Int)))) 2, .no], [7]⟩ : St) s)) = mapS spec_CountPaths_e1 spec_CountPaths_x1 (nodeX (iterO (spec_CountPaths_g2 Try.prog a0 a1 a2 a3 a4 y0_14 r0_4 y1_16 r1_7) N ((0 : Int), r1_7)) (fun x => spec_CountPaths_k2_0 Try.prog N a0 a1 a2 a3 a4 y0_14 r0_4 y1_16 r1_7 x.1 x.2)) := by
  refine (loop_node spec_CountPaths_e2 spec_CountPaths_x2 _ _ (spec_CountPaths_s2 N a0 a1 a2 a3 a4 y0_14 r0_4 y1_16 r1_7) N ((0 : Int), r1_7) _ (fun x => mapS spec_CountPaths_e1 spec_CountPaths_x1 ((fun x => spec_CountPaths_k2_0 Try.prog N a0 a1 a2 a3 a4 y0_14 r0_4 y1_16 r1_7 x.1 x.2) x)) ?_).trans (mapS_nodeX spec_CountPaths_e1 spec_CountPaths_x1 _ _).symm
  intro x; exact spec_CountPaths_k2_0_eq N a0 a1 a2 a3 a4 y0_14 r0_4 y1_16 r1_7 x.1 x.2

noncomputable def spec_CountPaths_g1 (P : Program) (N : Nat) (a0 : Array Value) (a1 : Int) (a2 : Int) (a3 : Int) (a4 : Int) (y0_14 : Int) (r0_4 : Array Value) : Int × Array Value → Option (Stp (Int × Array Value) (Int × Array Value))
  | (y1_16, r1_7) => bif decide (y1_16 < (36 : Int)) then (bif (!((spec_l01Is_v0 y1_16 a0))) then (some (.more ((IntKind.i64.wrap (y1_16 + (1 : Int))), r1_7)))
      else (bif ((decide (0 ≤ y1_16) && decide (y1_16 < 36)) && (decide (0 ≤ (((IntKind.i64.wrap (a2 + (IntKind.i64.wrap (a3 - y0_14))))).tmod (2 : Int))) && decide ((((IntKind.i64.wrap (a2 + (IntKind.i64.wrap (a3 - y0_14))))).tmod (2 : Int)) < 2))) then (nodeX (iterO (spec_CountPaths_g2 P a0 a1 a2 a3 a4 y0_14 r0_4 y1_16 r1_7) N ((0 : Int), r1_7)) (fun x => spec_CountPaths_k2_0 P N a0 a1 a2 a3 a4 y0_14 r0_4 y1_16 r1_7 x.1 x.2))
        else (none)))
    else (some (.done (y1_16, r1_7)))

theorem spec_CountPaths_s1 (N : Nat) (a0 : Array Value) (a1 : Int) (a2 : Int) (a3 : Int) (a4 : Int) (y0_14 : Int) (r0_4 : Array Value) : ∀ t : Int × Array Value, stepV Try.prog (mkΓ [(41, con spec_l01Is_con), (43, con spec_l04Tide_con), (49, con spec_l04Asked_con), (50, con spec_l04Next_con)]) N (cAt (codeOf Try.f16) [1, 1, 1, 1, 0, 1, 0, 0, 1, 0, 0, 1, 0, 1, 0, 0]) (pAt (mkPlan (codeOf Try.f16) [([14], [4]), ([16], [7]), ([18], [7])]).1 [1, 1, 1, 1, 0, 1, 0, 1, 0, 1, 0, 1, 0]) [16] [7] (⟨[.a (.g a0 36), .a (.i .i64 (a1)), .a (.i .i64 (a2)), .a (.i .i64 (a3)), .a (.i .i64 (a4)), .a (.w 0), .a (.u), .a (.u), .a (.u), .a (.u), .a (.i .i64 (0 : Int)), .a (.i .i64 (0 : Int)), .a (.i .i64 (spec_l04Asked_v0 a1 a4 a2 a3 a0)), .a (.w 4), .a (.i .i64 (y0_14)), .a (.w 7), .a (.i .i64 (0 : Int)), .a (.x), .a (.x), .a (.i .i64 (a1)), .a (.i .i64 (a4)), .a (.i .i64 (a2)), .a (.i .i64 (a3)), .a (.i .i64 (spec_l04Asked_v0 a1 a4 a2 a3 a0)), .a (.i .i64 (spec_l04Asked_v0 a1 a4 a2 a3 a0)), .a (.b (((spec_l04Asked_v0 a1 a4 a2 a3 a0) != (0 : Int)))), .a (.u), .a (.g (zc Try.prog 61) 61), .a (.i .i64 (a4)), .a (.p 4 (((a4).toNat * 1)) 2), .a (.i .i64 (y0_14)), .a (.i .i64 (a3)), .a (.b (decide (y0_14 ≤ a3))), .a (.x), .a (.x), .a (.g (zc Try.prog 61) 61), .a (.x), .a (.x), .a (.x), .a (.x), .a (.x), .a (.x), .a (.x), .a (.x), .a (.x), .a (.x), .a (.x), .a (.x), .a (.x), .a (.x), .a (.x), .a (.x), .a (.x), .a (.x), .a (.x), .a (.x), .a (.x), .a (.x), .a (.x), .a (.x), .a (.x), .a (.x), .a (.x), .a (.x), .a (.x), .a (.x), .a (.x), .a (.x), .a (.u), .a (.u), .a (.u)], [.row a0 36, .no, .no, .no, .row r0_4 61, .no, .no, .row (zc Try.prog 61) 61, .no], [7, 4]⟩ : St) (spec_CountPaths_e1 t) = mapS spec_CountPaths_e1 spec_CountPaths_x1 (spec_CountPaths_g1 Try.prog N a0 a1 a2 a3 a4 y0_14 r0_4 t) := by
  rintro ⟨y1_16, r1_7⟩
  have h : stepV Try.prog (mkΓ [(41, con spec_l01Is_con), (43, con spec_l04Tide_con), (49, con spec_l04Asked_con), (50, con spec_l04Next_con)]) N (cAt (codeOf Try.f16) [1, 1, 1, 1, 0, 1, 0, 0, 1, 0, 0, 1, 0, 1, 0, 0]) (pAt (mkPlan (codeOf Try.f16) [([14], [4]), ([16], [7]), ([18], [7])]).1 [1, 1, 1, 1, 0, 1, 0, 1, 0, 1, 0, 1, 0]) [16] [7] (⟨[.a (.g a0 36), .a (.i .i64 (a1)), .a (.i .i64 (a2)), .a (.i .i64 (a3)), .a (.i .i64 (a4)), .a (.w 0), .a (.u), .a (.u), .a (.u), .a (.u), .a (.i .i64 (0 : Int)), .a (.i .i64 (0 : Int)), .a (.i .i64 (spec_l04Asked_v0 a1 a4 a2 a3 a0)), .a (.w 4), .a (.i .i64 (y0_14)), .a (.w 7), .a (.i .i64 (0 : Int)), .a (.x), .a (.x), .a (.i .i64 (a1)), .a (.i .i64 (a4)), .a (.i .i64 (a2)), .a (.i .i64 (a3)), .a (.i .i64 (spec_l04Asked_v0 a1 a4 a2 a3 a0)), .a (.i .i64 (spec_l04Asked_v0 a1 a4 a2 a3 a0)), .a (.b (((spec_l04Asked_v0 a1 a4 a2 a3 a0) != (0 : Int)))), .a (.u), .a (.g (zc Try.prog 61) 61), .a (.i .i64 (a4)), .a (.p 4 (((a4).toNat * 1)) 2), .a (.i .i64 (y0_14)), .a (.i .i64 (a3)), .a (.b (decide (y0_14 ≤ a3))), .a (.x), .a (.x), .a (.g (zc Try.prog 61) 61), .a (.x), .a (.x), .a (.x), .a (.x), .a (.x), .a (.x), .a (.x), .a (.x), .a (.x), .a (.x), .a (.x), .a (.x), .a (.x), .a (.x), .a (.x), .a (.x), .a (.x), .a (.x), .a (.x), .a (.x), .a (.x), .a (.x), .a (.x), .a (.x), .a (.x), .a (.x), .a (.x), .a (.x), .a (.x), .a (.x), .a (.x), .a (.x), .a (.u), .a (.u), .a (.u)], [.row a0 36, .no, .no, .no, .row r0_4 61, .no, .no, .row (zc Try.prog 61) 61, .no], [7, 4]⟩ : St) ([.a (.i .i64 (y1_16))], [.row r1_7 61]) = (bif decide (y1_16 < (36 : Int)) then (bif (!((spec_l01Is_v0 y1_16 a0))) then (some (.more ([.a (.i .i64 (IntKind.i64.wrap (y1_16 + (1 : Int))))], [.row r1_7 61])))
      else (bif ((decide (0 ≤ y1_16) && decide (y1_16 < 36)) && (decide (0 ≤ (((IntKind.i64.wrap (a2 + (IntKind.i64.wrap (a3 - y0_14))))).tmod (2 : Int))) && decide ((((IntKind.i64.wrap (a2 + (IntKind.i64.wrap (a3 - y0_14))))).tmod (2 : Int)) < 2))) then (bindX (iterO (stepV Try.prog (mkΓ [(41, con spec_l01Is_con), (43, con spec_l04Tide_con), (49, con spec_l04Asked_con), (50, con spec_l04Next_con)]) N (cAt (codeOf Try.f16) [1, 1, 1, 1, 0, 1, 0, 0, 1, 0, 0, 1, 0, 1, 0, 0, 1, 0, 0, 1, 1, 1, 0, 0]) (pAt (mkPlan (codeOf Try.f16) [([14], [4]), ([16], [7]), ([18], [7])]).1 [1, 1, 1, 1, 0, 1, 0, 1, 0, 1, 0, 1, 0, 1, 0, 1, 1, 1, 0]) [18] [7] (⟨[.a (.g a0 36), .a (.i .i64 (a1)), .a (.i .i64 (a2)), .a (.i .i64 (a3)), .a (.i .i64 (a4)), .a (.w 0), .a (.u), .a (.u), .a (.u), .a (.u), .a (.i .i64 (0 : Int)), .a (.i .i64 (0 : Int)), .a (.i .i64 (spec_l04Asked_v0 a1 a4 a2 a3 a0)), .a (.w 4), .a (.i .i64 (y0_14)), .a (.w 7), .a (.i .i64 (y1_16)), .a (.l 15), .a (.i .i64 (0 : Int)), .a (.i .i64 (a1)), .a (.i .i64 (a4)), .a (.i .i64 (a2)), .a (.i .i64 (a3)), .a (.i .i64 (spec_l04Asked_v0 a1 a4 a2 a3 a0)), .a (.i .i64 (spec_l04Asked_v0 a1 a4 a2 a3 a0)), .a (.b (((spec_l04Asked_v0 a1 a4 a2 a3 a0) != (0 : Int)))), .a (.u), .a (.g (zc Try.prog 61) 61), .a (.i .i64 (a4)), .a (.p 4 (((a4).toNat * 1)) 2), .a (.i .i64 (y0_14)), .a (.i .i64 (a3)), .a (.b (decide (y0_14 ≤ a3))), .a (.x), .a (.x), .a (.g (zc Try.prog 61) 61), .a (.i .i64 (y1_16)), .a (.b (decide (y1_16 < (36 : Int)))), .a (.x), .a (.x), .a (.i .i64 (y1_16)), .a (.b ((spec_l01Is_v0 y1_16 a0))), .a (.b ((!((spec_l01Is_v0 y1_16 a0))))), .a (.i .i64 (y1_16)), .a (.i .i64 (a2)), .a (.i .i64 (a3)), .a (.i .i64 (y0_14)), .a (.i .i64 (IntKind.i64.wrap (a3 - y0_14))), .a (.i .i64 (((IntKind.i64.wrap (a2 + (IntKind.i64.wrap (a3 - y0_14))))).tmod (2 : Int))), .a (.l 15), .a (.x), .a (.x), .a (.x), .a (.x), .a (.x), .a (.x), .a (.x), .a (.x), .a (.x), .a (.x), .a (.x), .a (.x), .a (.x), .a (.x), .a (.x), .a (.x), .a (.x), .a (.x), .a (.u), .a (.u), .a (.u)], [.row a0 36, .no, .no, .no, .row r0_4 61, .no, .no, .row r1_7 61, .no, .no, .no, .no, .no, .no, .no, .sl .own ((nxL a0 y1_16 (((IntKind.i64.wrap (a2 + (IntKind.i64.wrap (a3 - y0_14))))).tmod (2 : Int))).length) (encI (nxL a0 y1_16 (((IntKind.i64.wrap (a2 + (IntKind.i64.wrap (a3 - y0_14))))).tmod (2 : Int)))) 2, .no], [7]⟩ : St)) N ([.a (.i .i64 (0 : Int))], [.row r1_7 61])) (fun e s => (kBlock 4 (kBlock 3 (kSeq (veC Try.prog (mkΓ [(41, con spec_l01Is_con), (43, con spec_l04Tide_con), (49, con spec_l04Asked_con), (50, con spec_l04Next_con)]) N (cAt (codeOf Try.f16) [1, 1, 1, 1, 0, 1, 0, 0, 1, 0, 0, 1, 0, 1, 0, 0, 1, 1]) (pAt (mkPlan (codeOf Try.f16) [([14], [4]), ([16], [7]), ([18], [7])]).1 [1, 1, 1, 1, 0, 1, 0, 1, 0, 1, 0, 1, 0, 1, 1]) (Stp LS (Exit × LS))) (kBody 9 [16] [7])))) e (left (writes (cAt (codeOf Try.f16) [1, 1, 1, 1, 0, 1, 0, 0, 1, 0, 0, 1, 0, 1, 0, 0, 1, 0, 0, 1, 1, 1, 0, 0])) [18] [7] (⟨[.a (.g a0 36), .a (.i .i64 (a1)), .a (.i .i64 (a2)), .a (.i .i64 (a3)), .a (.i .i64 (a4)), .a (.w 0), .a (.u), .a (.u), .a (.u), .a (.u), .a (.i .i64 (0 : Int)), .a (.i .i64 (0 : Int)), .a (.i .i64 (spec_l04Asked_v0 a1 a4 a2 a3 a0)), .a (.w 4), .a (.i .i64 (y0_14)), .a (.w 7), .a (.i .i64 (y1_16)), .a (.l 15), .a (.i .i64 (0 : Int)), .a (.i .i64 (a1)), .a (.i .i64 (a4)), .a (.i .i64 (a2)), .a (.i .i64 (a3)), .a (.i .i64 (spec_l04Asked_v0 a1 a4 a2 a3 a0)), .a (.i .i64 (spec_l04Asked_v0 a1 a4 a2 a3 a0)), .a (.b (((spec_l04Asked_v0 a1 a4 a2 a3 a0) != (0 : Int)))), .a (.u), .a (.g (zc Try.prog 61) 61), .a (.i .i64 (a4)), .a (.p 4 (((a4).toNat * 1)) 2), .a (.i .i64 (y0_14)), .a (.i .i64 (a3)), .a (.b (decide (y0_14 ≤ a3))), .a (.x), .a (.x), .a (.g (zc Try.prog 61) 61), .a (.i .i64 (y1_16)), .a (.b (decide (y1_16 < (36 : Int)))), .a (.x), .a (.x), .a (.i .i64 (y1_16)), .a (.b ((spec_l01Is_v0 y1_16 a0))), .a (.b ((!((spec_l01Is_v0 y1_16 a0))))), .a (.i .i64 (y1_16)), .a (.i .i64 (a2)), .a (.i .i64 (a3)), .a (.i .i64 (y0_14)), .a (.i .i64 (IntKind.i64.wrap (a3 - y0_14))), .a (.i .i64 (((IntKind.i64.wrap (a2 + (IntKind.i64.wrap (a3 - y0_14))))).tmod (2 : Int))), .a (.l 15), .a (.x), .a (.x), .a (.x), .a (.x), .a (.x), .a (.x), .a (.x), .a (.x), .a (.x), .a (.x), .a (.x), .a (.x), .a (.x), .a (.x), .a (.x), .a (.x), .a (.x), .a (.x), .a (.u), .a (.u), .a (.u)], [.row a0 36, .no, .no, .no, .row r0_4 61, .no, .no, .row r1_7 61, .no, .no, .no, .no, .no, .no, .no, .sl .own ((nxL a0 y1_16 (((IntKind.i64.wrap (a2 + (IntKind.i64.wrap (a3 - y0_14))))).tmod (2 : Int))).length) (encI (nxL a0 y1_16 (((IntKind.i64.wrap (a2 + (IntKind.i64.wrap (a3 - y0_14))))).tmod (2 : Int)))) 2, .no], [7]⟩ : St) s)))
        else (none)))
    else (some (.done ((.exit 2), ([.a (.i .i64 (y1_16))], [.row r1_7 61]))))) := by kernel_rfl
  refine h.trans ?_
  simp only [spec_CountPaths_n2 N a0 a1 a2 a3 a4 y0_14 r0_4 y1_16 r1_7, spec_CountPaths_g1, mapS_cond, mapS_more, mapS_done, mapS_none, spec_CountPaths_e1, spec_CountPaths_x1]

noncomputable def spec_CountPaths_e0 : Int × Array Value → LS
  | (y0_14, r0_4) => ([.a (.i .i64 (y0_14))], [.row r0_4 61])

noncomputable def spec_CountPaths_x0 : Int × Array Value → Exit × LS
  | t => ((.exit 0), spec_CountPaths_e0 t)

noncomputable def spec_CountPaths_k1_0 (P : Program) (N : Nat) (a0 : Array Value) (a1 : Int) (a2 : Int) (a3 : Int) (a4 : Int) (y0_14 : Int) (r0_4 : Array Value) (z1_16 : Int) (q1_7 : Array Value) : Option (Stp (Int × Array Value) (Int × Array Value)) := some (.more ((IntKind.i64.wrap (y0_14 + (1 : Int))), q1_7))

theorem spec_CountPaths_k1_0_eq (N : Nat) (a0 : Array Value) (a1 : Int) (a2 : Int) (a3 : Int) (a4 : Int) (y0_14 : Int) (r0_4 : Array Value) (z1_16 : Int) (q1_7 : Array Value) : (kBlock 2 (kSeq (veC Try.prog (mkΓ [(41, con spec_l01Is_con), (43, con spec_l04Tide_con), (49, con spec_l04Asked_con), (50, con spec_l04Next_con)]) N (cAt (codeOf Try.f16) [1, 1, 1, 1, 0, 1, 0, 0, 1, 0, 0, 1, 1]) (pAt (mkPlan (codeOf Try.f16) [([14], [4]), ([16], [7]), ([18], [7])]).1 [1, 1, 1, 1, 0, 1, 0, 1, 0, 1, 1]) (Stp LS (Exit × LS))) (kBlock 1 (kSeq (veC Try.prog (mkΓ [(41, con spec_l01Is_con), (43, con spec_l04Tide_con), (49, con spec_l04Asked_con), (50, con spec_l04Next_con)]) N (cAt (codeOf Try.f16) [1, 1, 1, 1, 0, 1, 0, 0, 1, 1]) (pAt (mkPlan (codeOf Try.f16) [([14], [4]), ([16], [7]), ([18], [7])]).1 [1, 1, 1, 1, 0, 1, 0, 1, 1]) (Stp LS (Exit × LS))) (kBody 6 [14] [4]))))) (.exit 2) (left (writes (cAt (codeOf Try.f16) [1, 1, 1, 1, 0, 1, 0, 0, 1, 0, 0, 1, 0, 1, 0, 0])) [16] [7] (⟨[.a (.g a0 36), .a (.i .i64 (a1)), .a (.i .i64 (a2)), .a (.i .i64 (a3)), .a (.i .i64 (a4)), .a (.w 0), .a (.u), .a (.u), .a (.u), .a (.u), .a (.i .i64 (0 : Int)), .a (.i .i64 (0 : Int)), .a (.i .i64 (spec_l04Asked_v0 a1 a4 a2 a3 a0)), .a (.w 4), .a (.i .i64 (y0_14)), .a (.w 7), .a (.i .i64 (0 : Int)), .a (.x), .a (.x), .a (.i .i64 (a1)), .a (.i .i64 (a4)), .a (.i .i64 (a2)), .a (.i .i64 (a3)), .a (.i .i64 (spec_l04Asked_v0 a1 a4 a2 a3 a0)), .a (.i .i64 (spec_l04Asked_v0 a1 a4 a2 a3 a0)), .a (.b (((spec_l04Asked_v0 a1 a4 a2 a3 a0) != (0 : Int)))), .a (.u), .a (.g (zc Try.prog 61) 61), .a (.i .i64 (a4)), .a (.p 4 (((a4).toNat * 1)) 2), .a (.i .i64 (y0_14)), .a (.i .i64 (a3)), .a (.b (decide (y0_14 ≤ a3))), .a (.x), .a (.x), .a (.g (zc Try.prog 61) 61), .a (.x), .a (.x), .a (.x), .a (.x), .a (.x), .a (.x), .a (.x), .a (.x), .a (.x), .a (.x), .a (.x), .a (.x), .a (.x), .a (.x), .a (.x), .a (.x), .a (.x), .a (.x), .a (.x), .a (.x), .a (.x), .a (.x), .a (.x), .a (.x), .a (.x), .a (.x), .a (.x), .a (.x), .a (.x), .a (.x), .a (.x), .a (.x), .a (.u), .a (.u), .a (.u)], [.row a0 36, .no, .no, .no, .row r0_4 61, .no, .no, .row (zc Try.prog 61) 61, .no], [7, 4]⟩ : St) ([.a (.i .i64 (z1_16))], [.row q1_7 61])) = mapS spec_CountPaths_e0 spec_CountPaths_x0 (spec_CountPaths_k1_0 Try.prog N a0 a1 a2 a3 a4 y0_14 r0_4 z1_16 q1_7) := by
  have h : (kBlock 2 (kSeq (veC Try.prog (mkΓ [(41, con spec_l01Is_con), (43, con spec_l04Tide_con), (49, con spec_l04Asked_con), (50, con spec_l04Next_con)]) N (cAt (codeOf Try.f16) [1, 1, 1, 1, 0, 1, 0, 0, 1, 0, 0, 1, 1]) (pAt (mkPlan (codeOf Try.f16) [([14], [4]), ([16], [7]), ([18], [7])]).1 [1, 1, 1, 1, 0, 1, 0, 1, 0, 1, 1]) (Stp LS (Exit × LS))) (kBlock 1 (kSeq (veC Try.prog (mkΓ [(41, con spec_l01Is_con), (43, con spec_l04Tide_con), (49, con spec_l04Asked_con), (50, con spec_l04Next_con)]) N (cAt (codeOf Try.f16) [1, 1, 1, 1, 0, 1, 0, 0, 1, 1]) (pAt (mkPlan (codeOf Try.f16) [([14], [4]), ([16], [7]), ([18], [7])]).1 [1, 1, 1, 1, 0, 1, 0, 1, 1]) (Stp LS (Exit × LS))) (kBody 6 [14] [4]))))) (.exit 2) (left (writes (cAt (codeOf Try.f16) [1, 1, 1, 1, 0, 1, 0, 0, 1, 0, 0, 1, 0, 1, 0, 0])) [16] [7] (⟨[.a (.g a0 36), .a (.i .i64 (a1)), .a (.i .i64 (a2)), .a (.i .i64 (a3)), .a (.i .i64 (a4)), .a (.w 0), .a (.u), .a (.u), .a (.u), .a (.u), .a (.i .i64 (0 : Int)), .a (.i .i64 (0 : Int)), .a (.i .i64 (spec_l04Asked_v0 a1 a4 a2 a3 a0)), .a (.w 4), .a (.i .i64 (y0_14)), .a (.w 7), .a (.i .i64 (0 : Int)), .a (.x), .a (.x), .a (.i .i64 (a1)), .a (.i .i64 (a4)), .a (.i .i64 (a2)), .a (.i .i64 (a3)), .a (.i .i64 (spec_l04Asked_v0 a1 a4 a2 a3 a0)), .a (.i .i64 (spec_l04Asked_v0 a1 a4 a2 a3 a0)), .a (.b (((spec_l04Asked_v0 a1 a4 a2 a3 a0) != (0 : Int)))), .a (.u), .a (.g (zc Try.prog 61) 61), .a (.i .i64 (a4)), .a (.p 4 (((a4).toNat * 1)) 2), .a (.i .i64 (y0_14)), .a (.i .i64 (a3)), .a (.b (decide (y0_14 ≤ a3))), .a (.x), .a (.x), .a (.g (zc Try.prog 61) 61), .a (.x), .a (.x), .a (.x), .a (.x), .a (.x), .a (.x), .a (.x), .a (.x), .a (.x), .a (.x), .a (.x), .a (.x), .a (.x), .a (.x), .a (.x), .a (.x), .a (.x), .a (.x), .a (.x), .a (.x), .a (.x), .a (.x), .a (.x), .a (.x), .a (.x), .a (.x), .a (.x), .a (.x), .a (.x), .a (.x), .a (.x), .a (.x), .a (.u), .a (.u), .a (.u)], [.row a0 36, .no, .no, .no, .row r0_4 61, .no, .no, .row (zc Try.prog 61) 61, .no], [7, 4]⟩ : St) ([.a (.i .i64 (z1_16))], [.row q1_7 61])) = (some (.more ([.a (.i .i64 (IntKind.i64.wrap (y0_14 + (1 : Int))))], [.row q1_7 61]))) := by kernel_rfl
  refine h.trans ?_
  simp only [spec_CountPaths_k1_0, mapS_cond, mapS_more, mapS_done, mapS_none, spec_CountPaths_e0, spec_CountPaths_x0]

theorem spec_CountPaths_n1 (N : Nat) (a0 : Array Value) (a1 : Int) (a2 : Int) (a3 : Int) (a4 : Int) (y0_14 : Int) (r0_4 : Array Value) : bindX (iterO (stepV Try.prog (mkΓ [(41, con spec_l01Is_con), (43, con spec_l04Tide_con), (49, con spec_l04Asked_con), (50, con spec_l04Next_con)]) N (cAt (codeOf Try.f16) [1, 1, 1, 1, 0, 1, 0, 0, 1, 0, 0, 1, 0, 1, 0, 0]) (pAt (mkPlan (codeOf Try.f16) [([14], [4]), ([16], [7]), ([18], [7])]).1 [1, 1, 1, 1, 0, 1, 0, 1, 0, 1, 0, 1, 0]) [16] [7] (⟨[.a (.g a0 36), .a (.i .i64 (a1)), .a (.i .i64 (a2)), .a (.i .i64 (a3)), .a (.i .i64 (a4)), .a (.w 0), .a (.u), .a (.u), .a (.u), .a (.u), .a (.i .i64 (0 : Int)), .a (.i .i64 (0 : Int)), .a (.i .i64 (spec_l04Asked_v0 a1 a4 a2 a3 a0)), .a (.w 4), .a (.i .i64 (y0_14)), .a (.w 7), .a (.i .i64 (0 : Int)), .a (.x), .a (.x), .a (.i .i64 (a1)), .a (.i .i64 (a4)), .a (.i .i64 (a2)), .a (.i .i64 (a3)), .a (.i .i64 (spec_l04Asked_v0 a1 a4 a2 a3 a0)), .a (.i .i64 (spec_l04Asked_v0 a1 a4 a2 a3 a0)), .a (.b (((spec_l04Asked_v0 a1 a4 a2 a3 a0) != (0 : Int)))), .a (.u), .a (.g (zc Try.prog 61) 61), .a (.i .i64 (a4)), .a (.p 4 (((a4).toNat * 1)) 2), .a (.i .i64 (y0_14)), .a (.i .i64 (a3)), .a (.b (decide (y0_14 ≤ a3))), .a (.x), .a (.x), .a (.g (zc Try.prog 61) 61), .a (.x), .a (.x), .a (.x), .a (.x), .a (.x), .a (.x), .a (.x), .a (.x), .a (.x), .a (.x), .a (.x), .a (.x), .a (.x), .a (.x), .a (.x), .a (.x), .a (.x), .a (.x), .a (.x), .a (.x), .a (.x), .a (.x), .a (.x), .a (.x), .a (.x), .a (.x), .a (.x), .a (.x), .a (.x), .a (.x), .a (.x), .a (.x), .a (.u), .a (.u), .a (.u)], [.row a0 36, .no, .no, .no, .row r0_4 61, .no, .no, .row (zc Try.prog 61) 61, .no], [7, 4]⟩ : St)) N ([.a (.i .i64 (0 : Int))], [.row (zc Try.prog 61) 61])) (fun e s => (kBlock 2 (kSeq (veC Try.prog (mkΓ [(41, con spec_l01Is_con), (43, con spec_l04Tide_con), (49, con spec_l04Asked_con), (50, con spec_l04Next_con)]) N (cAt (codeOf Try.f16) [1, 1, 1, 1, 0, 1, 0, 0, 1, 0, 0, 1, 1]) (pAt (mkPlan (codeOf Try.f16) [([14], [4]), ([16], [7]), ([18], [7])]).1 [1, 1, 1, 1, 0, 1, 0, 1, 0, 1, 1]) (Stp LS (Exit × LS))) (kBlock 1 (kSeq (veC Try.prog (mkΓ [(41, con spec_l01Is_con), (43, con spec_l04Tide_con), (49, con spec_l04Asked_con), (50, con spec_l04Next_con)]) N (cAt (codeOf Try.f16) [1, 1, 1, 1, 0, 1, 0, 0, 1, 1]) (pAt (mkPlan (codeOf Try.f16) [([14], [4]), ([16], [7]), ([18], [7])]).1 [1, 1, 1, 1, 0, 1, 0, 1, 1]) (Stp LS (Exit × LS))) (kBody 6 [14] [4]))))) e (left (writes (cAt (codeOf Try.f16) [1, 1, 1, 1, 0, 1, 0, 0, 1, 0, 0, 1, 0, 1, 0, 0])) [16] [7] (⟨[.a (.g a0 36), .a (.i .i64 (a1)), .a (.i .i64 (a2)), .a (.i .i64 (a3)), .a (.i .i64 (a4)), .a (.w 0), .a (.u), .a (.u), .a (.u), .a (.u), .a (.i .i64 (0 : Int)), .a (.i .i64 (0 : Int)), .a (.i .i64 (spec_l04Asked_v0 a1 a4 a2 a3 a0)), .a (.w 4), .a (.i .i64 (y0_14)), .a (.w 7), .a (.i .i64 (0 : Int)), .a (.x), .a (.x), .a (.i .i64 (a1)), .a (.i .i64 (a4)), .a (.i .i64 (a2)), .a (.i .i64 (a3)), .a (.i .i64 (spec_l04Asked_v0 a1 a4 a2 a3 a0)), .a (.i .i64 (spec_l04Asked_v0 a1 a4 a2 a3 a0)), .a (.b (((spec_l04Asked_v0 a1 a4 a2 a3 a0) != (0 : Int)))), .a (.u), .a (.g (zc Try.prog 61) 61), .a (.i .i64 (a4)), .a (.p 4 (((a4).toNat * 1)) 2), .a (.i .i64 (y0_14)), .a (.i .i64 (a3)), .a (.b (decide (y0_14 ≤ a3))), .a (.x), .a (.x), .a (.g (zc Try.prog 61) 61), .a (.x), .a (.x), .a (.x), .a (.x), .a (.x), .a (.x), .a (.x), .a (.x), .a (.x), .a (.x), .a (.x), .a (.x), .a (.x), .a (.x), .a (.x), .a (.x), .a (.x), .a (.x), .a (.x), .a (.x), .a (.x), .a (.x), .a (.x), .a (.x), .a (.x), .a (.x), .a (.x), .a (.x), .a (.x), .a (.x), .a (.x), .a (.x), .a (.u), .a (.u), .a (.u)], [.row a0 36, .no, .no, .no, .row r0_4 61, .no, .no, .row (zc Try.prog 61) 61, .no], [7, 4]⟩ : St) s)) = mapS spec_CountPaths_e0 spec_CountPaths_x0 (nodeX (iterO (spec_CountPaths_g1 Try.prog N a0 a1 a2 a3 a4 y0_14 r0_4) N ((0 : Int), (zc Try.prog 61))) (fun x => spec_CountPaths_k1_0 Try.prog N a0 a1 a2 a3 a4 y0_14 r0_4 x.1 x.2)) := by
  refine (loop_node spec_CountPaths_e1 spec_CountPaths_x1 _ _ (spec_CountPaths_s1 N a0 a1 a2 a3 a4 y0_14 r0_4) N ((0 : Int), (zc Try.prog 61)) _ (fun x => mapS spec_CountPaths_e0 spec_CountPaths_x0 ((fun x => spec_CountPaths_k1_0 Try.prog N a0 a1 a2 a3 a4 y0_14 r0_4 x.1 x.2) x)) ?_).trans (mapS_nodeX spec_CountPaths_e0 spec_CountPaths_x0 _ _).symm
  intro x; exact spec_CountPaths_k1_0_eq N a0 a1 a2 a3 a4 y0_14 r0_4 x.1 x.2

noncomputable def spec_CountPaths_g0 (P : Program) (N : Nat) (a0 : Array Value) (a1 : Int) (a2 : Int) (a3 : Int) (a4 : Int) : Int × Array Value → Option (Stp (Int × Array Value) (Int × Array Value))
  | (y0_14, r0_4) => bif decide (y0_14 ≤ a3) then (nodeX (iterO (spec_CountPaths_g1 P N a0 a1 a2 a3 a4 y0_14 r0_4) N ((0 : Int), (zc Try.prog 61))) (fun x => spec_CountPaths_k1_0 P N a0 a1 a2 a3 a4 y0_14 r0_4 x.1 x.2))
    else (some (.done (y0_14, r0_4)))

theorem spec_CountPaths_s0 (N : Nat) (a0 : Array Value) (a1 : Int) (a2 : Int) (a3 : Int) (a4 : Int) : ∀ t : Int × Array Value, stepV Try.prog (mkΓ [(41, con spec_l01Is_con), (43, con spec_l04Tide_con), (49, con spec_l04Asked_con), (50, con spec_l04Next_con)]) N (cAt (codeOf Try.f16) [1, 1, 1, 1, 0, 1, 0, 0]) (pAt (mkPlan (codeOf Try.f16) [([14], [4]), ([16], [7]), ([18], [7])]).1 [1, 1, 1, 1, 0, 1, 0]) [14] [4] (⟨[.a (.g a0 36), .a (.i .i64 (a1)), .a (.i .i64 (a2)), .a (.i .i64 (a3)), .a (.i .i64 (a4)), .a (.w 0), .a (.u), .a (.u), .a (.u), .a (.u), .a (.i .i64 (0 : Int)), .a (.i .i64 (0 : Int)), .a (.i .i64 (spec_l04Asked_v0 a1 a4 a2 a3 a0)), .a (.w 4), .a (.i .i64 (1 : Int)), .a (.u), .a (.u), .a (.u), .a (.u), .a (.i .i64 (a1)), .a (.i .i64 (a4)), .a (.i .i64 (a2)), .a (.i .i64 (a3)), .a (.i .i64 (spec_l04Asked_v0 a1 a4 a2 a3 a0)), .a (.i .i64 (spec_l04Asked_v0 a1 a4 a2 a3 a0)), .a (.b (((spec_l04Asked_v0 a1 a4 a2 a3 a0) != (0 : Int)))), .a (.u), .a (.g (zc Try.prog 61) 61), .a (.i .i64 (a4)), .a (.p 4 (((a4).toNat * 1)) 2), .a (.u), .a (.u), .a (.u), .a (.u), .a (.u), .a (.u), .a (.u), .a (.u), .a (.u), .a (.u), .a (.u), .a (.u), .a (.u), .a (.u), .a (.u), .a (.u), .a (.u), .a (.u), .a (.u), .a (.u), .a (.u), .a (.u), .a (.u), .a (.u), .a (.u), .a (.u), .a (.u), .a (.u), .a (.u), .a (.u), .a (.u), .a (.u), .a (.u), .a (.u), .a (.u), .a (.u), .a (.u), .a (.u), .a (.u), .a (.u), .a (.u)], [.row a0 36, .no, .no, .no, .row ((zc Try.prog 61).setIfInBounds ((a4).toNat * 1) (.int .i64 (1 : Int))) 61, .no], [4, 4]⟩ : St) (spec_CountPaths_e0 t) = mapS spec_CountPaths_e0 spec_CountPaths_x0 (spec_CountPaths_g0 Try.prog N a0 a1 a2 a3 a4 t) := by
  rintro ⟨y0_14, r0_4⟩
  have h : stepV Try.prog (mkΓ [(41, con spec_l01Is_con), (43, con spec_l04Tide_con), (49, con spec_l04Asked_con), (50, con spec_l04Next_con)]) N (cAt (codeOf Try.f16) [1, 1, 1, 1, 0, 1, 0, 0]) (pAt (mkPlan (codeOf Try.f16) [([14], [4]), ([16], [7]), ([18], [7])]).1 [1, 1, 1, 1, 0, 1, 0]) [14] [4] (⟨[.a (.g a0 36), .a (.i .i64 (a1)), .a (.i .i64 (a2)), .a (.i .i64 (a3)), .a (.i .i64 (a4)), .a (.w 0), .a (.u), .a (.u), .a (.u), .a (.u), .a (.i .i64 (0 : Int)), .a (.i .i64 (0 : Int)), .a (.i .i64 (spec_l04Asked_v0 a1 a4 a2 a3 a0)), .a (.w 4), .a (.i .i64 (1 : Int)), .a (.u), .a (.u), .a (.u), .a (.u), .a (.i .i64 (a1)), .a (.i .i64 (a4)), .a (.i .i64 (a2)), .a (.i .i64 (a3)), .a (.i .i64 (spec_l04Asked_v0 a1 a4 a2 a3 a0)), .a (.i .i64 (spec_l04Asked_v0 a1 a4 a2 a3 a0)), .a (.b (((spec_l04Asked_v0 a1 a4 a2 a3 a0) != (0 : Int)))), .a (.u), .a (.g (zc Try.prog 61) 61), .a (.i .i64 (a4)), .a (.p 4 (((a4).toNat * 1)) 2), .a (.u), .a (.u), .a (.u), .a (.u), .a (.u), .a (.u), .a (.u), .a (.u), .a (.u), .a (.u), .a (.u), .a (.u), .a (.u), .a (.u), .a (.u), .a (.u), .a (.u), .a (.u), .a (.u), .a (.u), .a (.u), .a (.u), .a (.u), .a (.u), .a (.u), .a (.u), .a (.u), .a (.u), .a (.u), .a (.u), .a (.u), .a (.u), .a (.u), .a (.u), .a (.u), .a (.u), .a (.u), .a (.u), .a (.u), .a (.u), .a (.u)], [.row a0 36, .no, .no, .no, .row ((zc Try.prog 61).setIfInBounds ((a4).toNat * 1) (.int .i64 (1 : Int))) 61, .no], [4, 4]⟩ : St) ([.a (.i .i64 (y0_14))], [.row r0_4 61]) = (bif decide (y0_14 ≤ a3) then (bindX (iterO (stepV Try.prog (mkΓ [(41, con spec_l01Is_con), (43, con spec_l04Tide_con), (49, con spec_l04Asked_con), (50, con spec_l04Next_con)]) N (cAt (codeOf Try.f16) [1, 1, 1, 1, 0, 1, 0, 0, 1, 0, 0, 1, 0, 1, 0, 0]) (pAt (mkPlan (codeOf Try.f16) [([14], [4]), ([16], [7]), ([18], [7])]).1 [1, 1, 1, 1, 0, 1, 0, 1, 0, 1, 0, 1, 0]) [16] [7] (⟨[.a (.g a0 36), .a (.i .i64 (a1)), .a (.i .i64 (a2)), .a (.i .i64 (a3)), .a (.i .i64 (a4)), .a (.w 0), .a (.u), .a (.u), .a (.u), .a (.u), .a (.i .i64 (0 : Int)), .a (.i .i64 (0 : Int)), .a (.i .i64 (spec_l04Asked_v0 a1 a4 a2 a3 a0)), .a (.w 4), .a (.i .i64 (y0_14)), .a (.w 7), .a (.i .i64 (0 : Int)), .a (.x), .a (.x), .a (.i .i64 (a1)), .a (.i .i64 (a4)), .a (.i .i64 (a2)), .a (.i .i64 (a3)), .a (.i .i64 (spec_l04Asked_v0 a1 a4 a2 a3 a0)), .a (.i .i64 (spec_l04Asked_v0 a1 a4 a2 a3 a0)), .a (.b (((spec_l04Asked_v0 a1 a4 a2 a3 a0) != (0 : Int)))), .a (.u), .a (.g (zc Try.prog 61) 61), .a (.i .i64 (a4)), .a (.p 4 (((a4).toNat * 1)) 2), .a (.i .i64 (y0_14)), .a (.i .i64 (a3)), .a (.b (decide (y0_14 ≤ a3))), .a (.x), .a (.x), .a (.g (zc Try.prog 61) 61), .a (.x), .a (.x), .a (.x), .a (.x), .a (.x), .a (.x), .a (.x), .a (.x), .a (.x), .a (.x), .a (.x), .a (.x), .a (.x), .a (.x), .a (.x), .a (.x), .a (.x), .a (.x), .a (.x), .a (.x), .a (.x), .a (.x), .a (.x), .a (.x), .a (.x), .a (.x), .a (.x), .a (.x), .a (.x), .a (.x), .a (.x), .a (.x), .a (.u), .a (.u), .a (.u)], [.row a0 36, .no, .no, .no, .row r0_4 61, .no, .no, .row (zc Try.prog 61) 61, .no], [7, 4]⟩ : St)) N ([.a (.i .i64 (0 : Int))], [.row (zc Try.prog 61) 61])) (fun e s => (kBlock 2 (kSeq (veC Try.prog (mkΓ [(41, con spec_l01Is_con), (43, con spec_l04Tide_con), (49, con spec_l04Asked_con), (50, con spec_l04Next_con)]) N (cAt (codeOf Try.f16) [1, 1, 1, 1, 0, 1, 0, 0, 1, 0, 0, 1, 1]) (pAt (mkPlan (codeOf Try.f16) [([14], [4]), ([16], [7]), ([18], [7])]).1 [1, 1, 1, 1, 0, 1, 0, 1, 0, 1, 1]) (Stp LS (Exit × LS))) (kBlock 1 (kSeq (veC Try.prog (mkΓ [(41, con spec_l01Is_con), (43, con spec_l04Tide_con), (49, con spec_l04Asked_con), (50, con spec_l04Next_con)]) N (cAt (codeOf Try.f16) [1, 1, 1, 1, 0, 1, 0, 0, 1, 1]) (pAt (mkPlan (codeOf Try.f16) [([14], [4]), ([16], [7]), ([18], [7])]).1 [1, 1, 1, 1, 0, 1, 0, 1, 1]) (Stp LS (Exit × LS))) (kBody 6 [14] [4]))))) e (left (writes (cAt (codeOf Try.f16) [1, 1, 1, 1, 0, 1, 0, 0, 1, 0, 0, 1, 0, 1, 0, 0])) [16] [7] (⟨[.a (.g a0 36), .a (.i .i64 (a1)), .a (.i .i64 (a2)), .a (.i .i64 (a3)), .a (.i .i64 (a4)), .a (.w 0), .a (.u), .a (.u), .a (.u), .a (.u), .a (.i .i64 (0 : Int)), .a (.i .i64 (0 : Int)), .a (.i .i64 (spec_l04Asked_v0 a1 a4 a2 a3 a0)), .a (.w 4), .a (.i .i64 (y0_14)), .a (.w 7), .a (.i .i64 (0 : Int)), .a (.x), .a (.x), .a (.i .i64 (a1)), .a (.i .i64 (a4)), .a (.i .i64 (a2)), .a (.i .i64 (a3)), .a (.i .i64 (spec_l04Asked_v0 a1 a4 a2 a3 a0)), .a (.i .i64 (spec_l04Asked_v0 a1 a4 a2 a3 a0)), .a (.b (((spec_l04Asked_v0 a1 a4 a2 a3 a0) != (0 : Int)))), .a (.u), .a (.g (zc Try.prog 61) 61), .a (.i .i64 (a4)), .a (.p 4 (((a4).toNat * 1)) 2), .a (.i .i64 (y0_14)), .a (.i .i64 (a3)), .a (.b (decide (y0_14 ≤ a3))), .a (.x), .a (.x), .a (.g (zc Try.prog 61) 61), .a (.x), .a (.x), .a (.x), .a (.x), .a (.x), .a (.x), .a (.x), .a (.x), .a (.x), .a (.x), .a (.x), .a (.x), .a (.x), .a (.x), .a (.x), .a (.x), .a (.x), .a (.x), .a (.x), .a (.x), .a (.x), .a (.x), .a (.x), .a (.x), .a (.x), .a (.x), .a (.x), .a (.x), .a (.x), .a (.x), .a (.x), .a (.x), .a (.u), .a (.u), .a (.u)], [.row a0 36, .no, .no, .no, .row r0_4 61, .no, .no, .row (zc Try.prog 61) 61, .no], [7, 4]⟩ : St) s)))
    else (some (.done ((.exit 0), ([.a (.i .i64 (y0_14))], [.row r0_4 61]))))) := by kernel_rfl
  refine h.trans ?_
  simp only [spec_CountPaths_n1 N a0 a1 a2 a3 a4 y0_14 r0_4, spec_CountPaths_g0, mapS_cond, mapS_more, mapS_done, mapS_none, spec_CountPaths_e0, spec_CountPaths_x0]

noncomputable def spec_CountPaths_k0_0 (P : Program) (N : Nat) (a0 : Array Value) (a1 : Int) (a2 : Int) (a3 : Int) (a4 : Int) (z0_14 : Int) (q0_4 : Array Value) : Option (SV × Eff × Bool) := bif (decide (0 ≤ a1) && decide (a1 < 36)) then (some (.t [.i .i64 (num q0_4 ((a1).toNat * 1)), .i .i64 (0 : Int)], .none, true))
    else (none)

theorem spec_CountPaths_k0_0_eq (N : Nat) (a0 : Array Value) (a1 : Int) (a2 : Int) (a3 : Int) (a4 : Int) (z0_14 : Int) (q0_4 : Array Value) : (kBlock 0 (kSeq (veC Try.prog (mkΓ [(41, con spec_l01Is_con), (43, con spec_l04Tide_con), (49, con spec_l04Asked_con), (50, con spec_l04Next_con)]) N (cAt (codeOf Try.f16) [1, 1, 1, 1, 1]) (pAt (mkPlan (codeOf Try.f16) [([14], [4]), ([16], [7]), ([18], [7])]).1 [1, 1, 1, 1, 1]) (SV × Eff × Bool)) (finK Try.prog [] [.tmp 10, .tmp 11]))) (.exit 0) (left (writes (cAt (codeOf Try.f16) [1, 1, 1, 1, 0, 1, 0, 0])) [14] [4] (⟨[.a (.g a0 36), .a (.i .i64 (a1)), .a (.i .i64 (a2)), .a (.i .i64 (a3)), .a (.i .i64 (a4)), .a (.w 0), .a (.u), .a (.u), .a (.u), .a (.u), .a (.i .i64 (0 : Int)), .a (.i .i64 (0 : Int)), .a (.i .i64 (spec_l04Asked_v0 a1 a4 a2 a3 a0)), .a (.w 4), .a (.i .i64 (1 : Int)), .a (.u), .a (.u), .a (.u), .a (.u), .a (.i .i64 (a1)), .a (.i .i64 (a4)), .a (.i .i64 (a2)), .a (.i .i64 (a3)), .a (.i .i64 (spec_l04Asked_v0 a1 a4 a2 a3 a0)), .a (.i .i64 (spec_l04Asked_v0 a1 a4 a2 a3 a0)), .a (.b (((spec_l04Asked_v0 a1 a4 a2 a3 a0) != (0 : Int)))), .a (.u), .a (.g (zc Try.prog 61) 61), .a (.i .i64 (a4)), .a (.p 4 (((a4).toNat * 1)) 2), .a (.u), .a (.u), .a (.u), .a (.u), .a (.u), .a (.u), .a (.u), .a (.u), .a (.u), .a (.u), .a (.u), .a (.u), .a (.u), .a (.u), .a (.u), .a (.u), .a (.u), .a (.u), .a (.u), .a (.u), .a (.u), .a (.u), .a (.u), .a (.u), .a (.u), .a (.u), .a (.u), .a (.u), .a (.u), .a (.u), .a (.u), .a (.u), .a (.u), .a (.u), .a (.u), .a (.u), .a (.u), .a (.u), .a (.u), .a (.u), .a (.u)], [.row a0 36, .no, .no, .no, .row ((zc Try.prog 61).setIfInBounds ((a4).toNat * 1) (.int .i64 (1 : Int))) 61, .no], [4, 4]⟩ : St) ([.a (.i .i64 (z0_14))], [.row q0_4 61])) = spec_CountPaths_k0_0 Try.prog N a0 a1 a2 a3 a4 z0_14 q0_4 := by
  have h : (kBlock 0 (kSeq (veC Try.prog (mkΓ [(41, con spec_l01Is_con), (43, con spec_l04Tide_con), (49, con spec_l04Asked_con), (50, con spec_l04Next_con)]) N (cAt (codeOf Try.f16) [1, 1, 1, 1, 1]) (pAt (mkPlan (codeOf Try.f16) [([14], [4]), ([16], [7]), ([18], [7])]).1 [1, 1, 1, 1, 1]) (SV × Eff × Bool)) (finK Try.prog [] [.tmp 10, .tmp 11]))) (.exit 0) (left (writes (cAt (codeOf Try.f16) [1, 1, 1, 1, 0, 1, 0, 0])) [14] [4] (⟨[.a (.g a0 36), .a (.i .i64 (a1)), .a (.i .i64 (a2)), .a (.i .i64 (a3)), .a (.i .i64 (a4)), .a (.w 0), .a (.u), .a (.u), .a (.u), .a (.u), .a (.i .i64 (0 : Int)), .a (.i .i64 (0 : Int)), .a (.i .i64 (spec_l04Asked_v0 a1 a4 a2 a3 a0)), .a (.w 4), .a (.i .i64 (1 : Int)), .a (.u), .a (.u), .a (.u), .a (.u), .a (.i .i64 (a1)), .a (.i .i64 (a4)), .a (.i .i64 (a2)), .a (.i .i64 (a3)), .a (.i .i64 (spec_l04Asked_v0 a1 a4 a2 a3 a0)), .a (.i .i64 (spec_l04Asked_v0 a1 a4 a2 a3 a0)), .a (.b (((spec_l04Asked_v0 a1 a4 a2 a3 a0) != (0 : Int)))), .a (.u), .a (.g (zc Try.prog 61) 61), .a (.i .i64 (a4)), .a (.p 4 (((a4).toNat * 1)) 2), .a (.u), .a (.u), .a (.u), .a (.u), .a (.u), .a (.u), .a (.u), .a (.u), .a (.u), .a (.u), .a (.u), .a (.u), .a (.u), .a (.u), .a (.u), .a (.u), .a (.u), .a (.u), .a (.u), .a (.u), .a (.u), .a (.u), .a (.u), .a (.u), .a (.u), .a (.u), .a (.u), .a (.u), .a (.u), .a (.u), .a (.u), .a (.u), .a (.u), .a (.u), .a (.u), .a (.u), .a (.u), .a (.u), .a (.u), .a (.u), .a (.u)], [.row a0 36, .no, .no, .no, .row ((zc Try.prog 61).setIfInBounds ((a4).toNat * 1) (.int .i64 (1 : Int))) 61, .no], [4, 4]⟩ : St) ([.a (.i .i64 (z0_14))], [.row q0_4 61])) = (bif (decide (0 ≤ a1) && decide (a1 < 36)) then (some (.t [.i .i64 (num q0_4 ((a1).toNat * 1)), .i .i64 (0 : Int)], .none, true))
    else (none)) := by kernel_rfl
  refine h.trans ?_
  rfl

theorem spec_CountPaths_n0 (N : Nat) (a0 : Array Value) (a1 : Int) (a2 : Int) (a3 : Int) (a4 : Int) : bindX (iterO (stepV Try.prog (mkΓ [(41, con spec_l01Is_con), (43, con spec_l04Tide_con), (49, con spec_l04Asked_con), (50, con spec_l04Next_con)]) N (cAt (codeOf Try.f16) [1, 1, 1, 1, 0, 1, 0, 0]) (pAt (mkPlan (codeOf Try.f16) [([14], [4]), ([16], [7]), ([18], [7])]).1 [1, 1, 1, 1, 0, 1, 0]) [14] [4] (⟨[.a (.g a0 36), .a (.i .i64 (a1)), .a (.i .i64 (a2)), .a (.i .i64 (a3)), .a (.i .i64 (a4)), .a (.w 0), .a (.u), .a (.u), .a (.u), .a (.u), .a (.i .i64 (0 : Int)), .a (.i .i64 (0 : Int)), .a (.i .i64 (spec_l04Asked_v0 a1 a4 a2 a3 a0)), .a (.w 4), .a (.i .i64 (1 : Int)), .a (.u), .a (.u), .a (.u), .a (.u), .a (.i .i64 (a1)), .a (.i .i64 (a4)), .a (.i .i64 (a2)), .a (.i .i64 (a3)), .a (.i .i64 (spec_l04Asked_v0 a1 a4 a2 a3 a0)), .a (.i .i64 (spec_l04Asked_v0 a1 a4 a2 a3 a0)), .a (.b (((spec_l04Asked_v0 a1 a4 a2 a3 a0) != (0 : Int)))), .a (.u), .a (.g (zc Try.prog 61) 61), .a (.i .i64 (a4)), .a (.p 4 (((a4).toNat * 1)) 2), .a (.u), .a (.u), .a (.u), .a (.u), .a (.u), .a (.u), .a (.u), .a (.u), .a (.u), .a (.u), .a (.u), .a (.u), .a (.u), .a (.u), .a (.u), .a (.u), .a (.u), .a (.u), .a (.u), .a (.u), .a (.u), .a (.u), .a (.u), .a (.u), .a (.u), .a (.u), .a (.u), .a (.u), .a (.u), .a (.u), .a (.u), .a (.u), .a (.u), .a (.u), .a (.u), .a (.u), .a (.u), .a (.u), .a (.u), .a (.u), .a (.u)], [.row a0 36, .no, .no, .no, .row ((zc Try.prog 61).setIfInBounds ((a4).toNat * 1) (.int .i64 (1 : Int))) 61, .no], [4, 4]⟩ : St)) N ([.a (.i .i64 (1 : Int))], [.row ((zc Try.prog 61).setIfInBounds ((a4).toNat * 1) (.int .i64 (1 : Int))) 61])) (fun e s => (kBlock 0 (kSeq (veC Try.prog (mkΓ [(41, con spec_l01Is_con), (43, con spec_l04Tide_con), (49, con spec_l04Asked_con), (50, con spec_l04Next_con)]) N (cAt (codeOf Try.f16) [1, 1, 1, 1, 1]) (pAt (mkPlan (codeOf Try.f16) [([14], [4]), ([16], [7]), ([18], [7])]).1 [1, 1, 1, 1, 1]) (SV × Eff × Bool)) (finK Try.prog [] [.tmp 10, .tmp 11]))) e (left (writes (cAt (codeOf Try.f16) [1, 1, 1, 1, 0, 1, 0, 0])) [14] [4] (⟨[.a (.g a0 36), .a (.i .i64 (a1)), .a (.i .i64 (a2)), .a (.i .i64 (a3)), .a (.i .i64 (a4)), .a (.w 0), .a (.u), .a (.u), .a (.u), .a (.u), .a (.i .i64 (0 : Int)), .a (.i .i64 (0 : Int)), .a (.i .i64 (spec_l04Asked_v0 a1 a4 a2 a3 a0)), .a (.w 4), .a (.i .i64 (1 : Int)), .a (.u), .a (.u), .a (.u), .a (.u), .a (.i .i64 (a1)), .a (.i .i64 (a4)), .a (.i .i64 (a2)), .a (.i .i64 (a3)), .a (.i .i64 (spec_l04Asked_v0 a1 a4 a2 a3 a0)), .a (.i .i64 (spec_l04Asked_v0 a1 a4 a2 a3 a0)), .a (.b (((spec_l04Asked_v0 a1 a4 a2 a3 a0) != (0 : Int)))), .a (.u), .a (.g (zc Try.prog 61) 61), .a (.i .i64 (a4)), .a (.p 4 (((a4).toNat * 1)) 2), .a (.u), .a (.u), .a (.u), .a (.u), .a (.u), .a (.u), .a (.u), .a (.u), .a (.u), .a (.u), .a (.u), .a (.u), .a (.u), .a (.u), .a (.u), .a (.u), .a (.u), .a (.u), .a (.u), .a (.u), .a (.u), .a (.u), .a (.u), .a (.u), .a (.u), .a (.u), .a (.u), .a (.u), .a (.u), .a (.u), .a (.u), .a (.u), .a (.u), .a (.u), .a (.u), .a (.u), .a (.u), .a (.u), .a (.u), .a (.u), .a (.u)], [.row a0 36, .no, .no, .no, .row ((zc Try.prog 61).setIfInBounds ((a4).toNat * 1) (.int .i64 (1 : Int))) 61, .no], [4, 4]⟩ : St) s)) = nodeX (iterO (spec_CountPaths_g0 Try.prog N a0 a1 a2 a3 a4) N ((1 : Int), ((zc Try.prog 61).setIfInBounds ((a4).toNat * 1) (.int .i64 (1 : Int))))) (fun x => spec_CountPaths_k0_0 Try.prog N a0 a1 a2 a3 a4 x.1 x.2) := by
  refine loop_node spec_CountPaths_e0 spec_CountPaths_x0 _ _ (spec_CountPaths_s0 N a0 a1 a2 a3 a4) N ((1 : Int), ((zc Try.prog 61).setIfInBounds ((a4).toNat * 1) (.int .i64 (1 : Int)))) _ _ ?_
  intro x; exact spec_CountPaths_k0_0_eq N a0 a1 a2 a3 a4 x.1 x.2

theorem spec_CountPaths_ans (N : Nat) (a0 : Array Value) (a1 : Int) (a2 : Int) (a3 : Int) (a4 : Int) : ansV Try.prog (mkΓ [(41, con spec_l01Is_con), (43, con spec_l04Tide_con), (49, con spec_l04Asked_con), (50, con spec_l04Next_con)]) N Try.f16 [([14], [4]), ([16], [7]), ([18], [7])] [.g a0 36, .i .i64 (a1), .i .i64 (a2), .i .i64 (a3), .i .i64 (a4)] [] = (bif ((spec_l04Asked_v0 a1 a4 a2 a3 a0) != (0 : Int)) then (some (.t [.i .i64 (0 : Int), .i .i64 (spec_l04Asked_v0 a1 a4 a2 a3 a0)], .none, true))
    else (bif (decide (0 ≤ a4) && decide (a4 < 36)) then (nodeX (iterO (spec_CountPaths_g0 Try.prog N a0 a1 a2 a3 a4) N ((1 : Int), ((zc Try.prog 61).setIfInBounds ((a4).toNat * 1) (.int .i64 (1 : Int))))) (fun x => spec_CountPaths_k0_0 Try.prog N a0 a1 a2 a3 a4 x.1 x.2))
      else (none))) := by
  have h : ansV Try.prog (mkΓ [(41, con spec_l01Is_con), (43, con spec_l04Tide_con), (49, con spec_l04Asked_con), (50, con spec_l04Next_con)]) N Try.f16 [([14], [4]), ([16], [7]), ([18], [7])] [.g a0 36, .i .i64 (a1), .i .i64 (a2), .i .i64 (a3), .i .i64 (a4)] [] = (bif ((spec_l04Asked_v0 a1 a4 a2 a3 a0) != (0 : Int)) then (some (.t [.i .i64 (0 : Int), .i .i64 (spec_l04Asked_v0 a1 a4 a2 a3 a0)], .none, true))
    else (bif (decide (0 ≤ a4) && decide (a4 < 36)) then (bindX (iterO (stepV Try.prog (mkΓ [(41, con spec_l01Is_con), (43, con spec_l04Tide_con), (49, con spec_l04Asked_con), (50, con spec_l04Next_con)]) N (cAt (codeOf Try.f16) [1, 1, 1, 1, 0, 1, 0, 0]) (pAt (mkPlan (codeOf Try.f16) [([14], [4]), ([16], [7]), ([18], [7])]).1 [1, 1, 1, 1, 0, 1, 0]) [14] [4] (⟨[.a (.g a0 36), .a (.i .i64 (a1)), .a (.i .i64 (a2)), .a (.i .i64 (a3)), .a (.i .i64 (a4)), .a (.w 0), .a (.u), .a (.u), .a (.u), .a (.u), .a (.i .i64 (0 : Int)), .a (.i .i64 (0 : Int)), .a (.i .i64 (spec_l04Asked_v0 a1 a4 a2 a3 a0)), .a (.w 4), .a (.i .i64 (1 : Int)), .a (.u), .a (.u), .a (.u), .a (.u), .a (.i .i64 (a1)), .a (.i .i64 (a4)), .a (.i .i64 (a2)), .a (.i .i64 (a3)), .a (.i .i64 (spec_l04Asked_v0 a1 a4 a2 a3 a0)), .a (.i .i64 (spec_l04Asked_v0 a1 a4 a2 a3 a0)), .a (.b (((spec_l04Asked_v0 a1 a4 a2 a3 a0) != (0 : Int)))), .a (.u), .a (.g (zc Try.prog 61) 61), .a (.i .i64 (a4)), .a (.p 4 (((a4).toNat * 1)) 2), .a (.u), .a (.u), .a (.u), .a (.u), .a (.u), .a (.u), .a (.u), .a (.u), .a (.u), .a (.u), .a (.u), .a (.u), .a (.u), .a (.u), .a (.u), .a (.u), .a (.u), .a (.u), .a (.u), .a (.u), .a (.u), .a (.u), .a (.u), .a (.u), .a (.u), .a (.u), .a (.u), .a (.u), .a (.u), .a (.u), .a (.u), .a (.u), .a (.u), .a (.u), .a (.u), .a (.u), .a (.u), .a (.u), .a (.u), .a (.u), .a (.u)], [.row a0 36, .no, .no, .no, .row ((zc Try.prog 61).setIfInBounds ((a4).toNat * 1) (.int .i64 (1 : Int))) 61, .no], [4, 4]⟩ : St)) N ([.a (.i .i64 (1 : Int))], [.row ((zc Try.prog 61).setIfInBounds ((a4).toNat * 1) (.int .i64 (1 : Int))) 61])) (fun e s => (kBlock 0 (kSeq (veC Try.prog (mkΓ [(41, con spec_l01Is_con), (43, con spec_l04Tide_con), (49, con spec_l04Asked_con), (50, con spec_l04Next_con)]) N (cAt (codeOf Try.f16) [1, 1, 1, 1, 1]) (pAt (mkPlan (codeOf Try.f16) [([14], [4]), ([16], [7]), ([18], [7])]).1 [1, 1, 1, 1, 1]) (SV × Eff × Bool)) (finK Try.prog [] [.tmp 10, .tmp 11]))) e (left (writes (cAt (codeOf Try.f16) [1, 1, 1, 1, 0, 1, 0, 0])) [14] [4] (⟨[.a (.g a0 36), .a (.i .i64 (a1)), .a (.i .i64 (a2)), .a (.i .i64 (a3)), .a (.i .i64 (a4)), .a (.w 0), .a (.u), .a (.u), .a (.u), .a (.u), .a (.i .i64 (0 : Int)), .a (.i .i64 (0 : Int)), .a (.i .i64 (spec_l04Asked_v0 a1 a4 a2 a3 a0)), .a (.w 4), .a (.i .i64 (1 : Int)), .a (.u), .a (.u), .a (.u), .a (.u), .a (.i .i64 (a1)), .a (.i .i64 (a4)), .a (.i .i64 (a2)), .a (.i .i64 (a3)), .a (.i .i64 (spec_l04Asked_v0 a1 a4 a2 a3 a0)), .a (.i .i64 (spec_l04Asked_v0 a1 a4 a2 a3 a0)), .a (.b (((spec_l04Asked_v0 a1 a4 a2 a3 a0) != (0 : Int)))), .a (.u), .a (.g (zc Try.prog 61) 61), .a (.i .i64 (a4)), .a (.p 4 (((a4).toNat * 1)) 2), .a (.u), .a (.u), .a (.u), .a (.u), .a (.u), .a (.u), .a (.u), .a (.u), .a (.u), .a (.u), .a (.u), .a (.u), .a (.u), .a (.u), .a (.u), .a (.u), .a (.u), .a (.u), .a (.u), .a (.u), .a (.u), .a (.u), .a (.u), .a (.u), .a (.u), .a (.u), .a (.u), .a (.u), .a (.u), .a (.u), .a (.u), .a (.u), .a (.u), .a (.u), .a (.u), .a (.u), .a (.u), .a (.u), .a (.u), .a (.u), .a (.u)], [.row a0 36, .no, .no, .no, .row ((zc Try.prog 61).setIfInBounds ((a4).toNat * 1) (.int .i64 (1 : Int))) 61, .no], [4, 4]⟩ : St) s)))
      else (none))) := by kernel_rfl
  refine h.trans ?_
  simp only [spec_CountPaths_n0 N a0 a1 a2 a3 a4]

theorem impl_CountPaths_main (a0 : Array Value) (a1 : Int) (a2 : Int) (a3 : Int) (a4 : Int) (h_a0 : WT Try.prog 36 a0) (h_a1 : IntKind.i64.min ≤ a1 ∧ a1 ≤ IntKind.i64.max) (h_a2 : IntKind.i64.min ≤ a2 ∧ a2 ≤ IntKind.i64.max) (h_a3 : IntKind.i64.min ≤ a3 ∧ a3 ≤ IntKind.i64.max) (h_a4 : IntKind.i64.min ≤ a4 ∧ a4 ≤ IntKind.i64.max) (hg : (true) = true) : ansV Try.prog (mkΓ [(51, con impl_endsCode_con), (52, con cnt_impl_rowsBack_con), (53, con impl_onlyAt_con)]) 1000 Try.f17 [] [.g a0 36, .i .i64 (a1), .i .i64 (a2), .i .i64 (a3), .i .i64 (a4)] [] = some (.t [.i .i64 (bif (spec_l04Asked_v0 a1 a4 a2 a3 a0 == 0) then num (rowR Try.prog cntL a0 (impl_onlyAt_v0 Try.prog a4) a2 a3 a3.toNat) (a1.toNat * 1) else 0), .i .i64 (spec_l04Asked_v0 a1 a4 a2 a3 a0)], .none, true) := by
  have hL : (impl_onlyAt_v0 Try.prog a4).size = 36 := by unfold impl_onlyAt_v0; rw [Array.size_setIfInBounds, zc_row]
  refine (impl_CountPaths_ans 1000 a0 a1 a2 a3 a4).trans ?_
  rw [ask_ends]
  cases hc : (spec_l04Asked_v0 a1 a4 a2 a3 a0 == 0)
  · rw [ne_of' hc]; rfl
  obtain ⟨g1, g2, g3, g4⟩ := ask_guard hc
  have r5 := in_range (ask_all hc).2.2.2.2
  obtain ⟨m, rfl⟩ : ∃ m : Nat, a3 = (m : Int) := ⟨a3.toNat, by omega⟩
  have r2 := is_range (ask_all hc).2.1
  have e0 : spec_l04Asked_v0 a1 a4 a2 (m : Int) a0 = 0 := eq_of_beq hc
  have g5 : (decide (0 ≤ (m : Int)) && decide ((m : Int) < (((m : Int).toNat : Nat) : Int) + 1)) = true := by rw [decide_eq_true (by omega), decide_eq_true (by omega)]; rfl
  have e1 : num (catR Try.prog cntL a0 (impl_onlyAt_v0 Try.prog a4) a2 (m : Int) (m + 1)) (m * 36 + a1.toNat * 1) = num (rowR Try.prog cntL a0 (impl_onlyAt_v0 Try.prog a4) a2 (m : Int) m) (a1.toNat * 1) := by
    rw [← catR_at cntL a0 hL a2 (m : Int) (m + 1) (show m < m + 1 by omega), ext_num (by omega)]
  rw [ne_of hc, g1, g2, g3, g5, e0]
  simp only [cond_true, cond_false, Int.toNat_natCast, e1]
noncomputable def impl_CountPaths_con : Con := fun args h => match args, h with
  | [.g a0 36, .i .i64 a1, .i .i64 a2, .i .i64 a3, .i .i64 a4], [] => some (.t [.i .i64 (bif (spec_l04Asked_v0 a1 a4 a2 a3 a0 == 0) then num (rowR Try.prog cntL a0 (impl_onlyAt_v0 Try.prog a4) a2 a3 a3.toNat) (a1.toNat * 1) else 0), .i .i64 (spec_l04Asked_v0 a1 a4 a2 a3 a0)], .none, true)
  | _, _ => none
theorem impl_CountPaths_enter : ∀ args w, (callFunc 17 args).run Try.prog w = .ok (.enter 17 args) w := enter_ok (fn := Try.f17) (by kernel_rfl) (by kernel_rfl) (by kernel_rfl)
theorem impl_CountPaths_ok : ConOk Try.prog 17 impl_CountPaths_con := (ans_ok (N := 1000) (by kernel_rfl) (mkΓ_cons (con_ok impl_endsCode_ok) impl_endsCode_enter (mkΓ_cons (con_ok cnt_impl_rowsBack_ok) cnt_impl_rowsBack_enter (mkΓ_cons (con_ok impl_onlyAt_ok) impl_onlyAt_enter mkΓ_nil))) (fn := Try.f17) (by kernel_rfl) (by kernel_rfl) []).of (by
  intro ρ h w args vals r e hA hH hr
  unfold impl_CountPaths_con at hr
  split at hr
  · rename_i a0 a1 a2 a3 a4
    obtain ⟨rfl, hg⟩ := Prod.mk.inj (Option.some.inj hr)
    obtain ⟨rfl, hg2⟩ := Prod.mk.inj hg
    exact impl_CountPaths_main a0 a1 a2 a3 a4 (hA.wt 0 rfl) (hA.rng 1 rfl) (hA.rng 2 rfl) (hA.rng 3 rfl) (hA.rng 4 rfl) hg2
  · cases hr)


theorem spec_CountPaths_in {a0 : Array Value} (a1 a2 a3 a4 y : Int) (L : Array Value)  (hT : (decide (0 ≤ ((IntKind.i64.wrap (a2 + IntKind.i64.wrap (a3 - y))).tmod 2)) && decide (((IntKind.i64.wrap (a2 + IntKind.i64.wrap (a3 - y))).tmod 2) < 2)) = true) {k : Nat} (hk : k < 36) (r1 r : Array Value) {b : Int} (hr : r.size = 36) (hb : r[k]? = some (.int .i64 b)) :
    iterO (spec_CountPaths_g2 Try.prog a0 a1 a2 a3 a4 y L (k : Int) r1) 1000 ((0 : Int), r) = some ((((nxL a0 (k : Int) ((IntKind.i64.wrap (a2 + IntKind.i64.wrap (a3 - y))).tmod 2)).length : Nat) : Int), r.setIfInBounds (k * 1) (.int .i64 ((nxL a0 (k : Int) ((IntKind.i64.wrap (a2 + IntKind.i64.wrap (a3 - y))).tmod 2)).foldl (cnS a0 L ((IntKind.i64.wrap (a2 + IntKind.i64.wrap (a3 - y))).tmod 2) k) b))) := by
  generalize hTT : ((IntKind.i64.wrap (a2 + IntKind.i64.wrap (a3 - y))).tmod 2) = T at *
  have hkk := dec2 (a := (k : Int)) (b := 36) (by omega) (by omega)
  have h := iter_all (g := spec_CountPaths_g2 Try.prog a0 a1 a2 a3 a4 y L (k : Int) r1) (fun i => ((i : Int), r.setIfInBounds (k * 1) (.int .i64 (((nxL a0 (k : Int) T).take i).foldl (cnS a0 L T k) b)))) (m := (nxL a0 (k : Int) T).length) (x := ((((nxL a0 (k : Int) T).length : Nat) : Int), r.setIfInBounds (k * 1) (.int .i64 ((nxL a0 (k : Int) T).foldl (cnS a0 L T k) b)))) (N := 1000) (fun i hi => by
    have hl := nx_len a0 (k : Int) T
    have h1 : decide ((i : Int) < (((nxL a0 (k : Int) T).length : Nat) : Int)) = true := decide_eq_true (by omega)
    have h0 := dec2 (a := (i : Int)) (b := (((nxL a0 (k : Int) T).length : Nat) : Int)) (by omega) (by omega)
    have h3 : IntKind.i64.wrap ((i : Int) + 1) = ((i + 1 : Nat) : Int) := by rw [w64 (by omega)]; omega
    have h4 := encI_num hi
    have h5 := nx_lt hi
    have h6 := dec2 (a := (((nxL a0 (k : Int) T)[i] : Nat) : Int)) (b := 36) (by omega) (by omega)
    simp only [spec_CountPaths_g2, hTT, h1, h0, h3, h4, h6, hkk, hT, Int.toNat_natCast, Bool.and_self, cond_true, set_set]
    rw [num_set (by omega), take_fold _ _ hi]
    rfl) (by
    have h1 : decide ((((nxL a0 (k : Int) T).length : Nat) : Int) < (((nxL a0 (k : Int) T).length : Nat) : Int)) = false := decide_eq_false (by omega)
    simp only [spec_CountPaths_g2, hTT, h1, cond_false, List.take_length]) (by have := nx_len a0 (k : Int) T; omega)
  have e : r.setIfInBounds (k * 1) (.int .i64 b) = r := by rw [Nat.mul_one]; exact set_same hb
  simp only [List.take_zero, List.foldl_nil, e] at h
  exact h
theorem spec_CountPaths_row {a0 : Array Value} (hS : WT Try.prog 36 a0) (h0 : 1 ≤ num a0 0 ∧ num a0 0 ≤ 6 ∧ 1 ≤ num a0 1 ∧ num a0 1 ≤ 6) (a1 a2 a3 a4 y : Int) (L : Array Value)  (hT : (decide (0 ≤ ((IntKind.i64.wrap (a2 + IntKind.i64.wrap (a3 - y))).tmod 2)) && decide (((IntKind.i64.wrap (a2 + IntKind.i64.wrap (a3 - y))).tmod 2) < 2)) = true) :
    iterO (spec_CountPaths_g1 Try.prog 1000 a0 a1 a2 a3 a4 y L) 1000 ((0 : Int), zc Try.prog 61) = some ((36 : Int), rowF Try.prog cntL a0 L ((IntKind.i64.wrap (a2 + IntKind.i64.wrap (a3 - y))).tmod 2)) := by
  refine iter_folds (g := spec_CountPaths_g1 Try.prog 1000 a0 a1 a2 a3 a4 y L) (fun r k => ((k : Int), r)) (fun r k => if inC (num a0 0) (num a0 1) k then r.setIfInBounds (k * 1) (.int .i64 (cntL (stL a0 ((IntKind.i64.wrap (a2 + IntKind.i64.wrap (a3 - y))).tmod 2) k) L)) else r) (m := 36) (t := zc Try.prog 61) (N := 1000) (fun k s hk hs => ?_) (by
    have h1 : decide (((36 : Nat) : Int) < 36) = false := by decide
    simp only [spec_CountPaths_g1, h1, cond_false]
    rfl) (by omega)
  have h1 : decide ((k : Int) < 36) = true := decide_eq_true (by omega)
  have h3 : IntKind.i64.wrap ((k : Int) + 1) = ((k + 1 : Nat) : Int) := by rw [w64 (by omega)]; omega
  have h00 : decide (0 ≤ (k : Int)) = true := decide_eq_true (by omega)
  obtain ⟨z1, z2⟩ := fold_zero cntL a0 L ((IntKind.i64.wrap (a2 + IntKind.i64.wrap (a3 - y))).tmod 2) k (by omega)
  rw [← hs] at z1 z2
  have z3 := z2 k (Nat.le_refl _) hk
  have hin := spec_CountPaths_in (a0 := a0) a1 a2 a3 a4 y L  hT hk s s z1 z3
  cases hi : inC (num a0 0) (num a0 1) k with
  | false => simp only [spec_CountPaths_g1, h1, h3, is_inC hS hk, hi, Bool.not_false, cond_true, if_false, Bool.false_eq_true]
  | true =>
    simp only [spec_CountPaths_g1, h1, h3, is_inC hS hk, hi, h00, hT, Bool.and_self, Bool.not_true, cond_true, cond_false, hin, nodeX, spec_CountPaths_k2_0, if_true]
    rw [val_cn hS h0 hk hi]

theorem spec_CountPaths_main (a0 : Array Value) (a1 : Int) (a2 : Int) (a3 : Int) (a4 : Int) (h_a0 : WT Try.prog 36 a0) (h_a1 : IntKind.i64.min ≤ a1 ∧ a1 ≤ IntKind.i64.max) (h_a2 : IntKind.i64.min ≤ a2 ∧ a2 ≤ IntKind.i64.max) (h_a3 : IntKind.i64.min ≤ a3 ∧ a3 ≤ IntKind.i64.max) (h_a4 : IntKind.i64.min ≤ a4 ∧ a4 ≤ IntKind.i64.max) (hg : (true) = true) : ansV Try.prog (mkΓ [(41, con spec_l01Is_con), (43, con spec_l04Tide_con), (49, con spec_l04Asked_con), (50, con spec_l04Next_con)]) 1000 Try.f16 [([14], [4]), ([16], [7]), ([18], [7])] [.g a0 36, .i .i64 (a1), .i .i64 (a2), .i .i64 (a3), .i .i64 (a4)] [] = some (.t [.i .i64 (bif (spec_l04Asked_v0 a1 a4 a2 a3 a0 == 0) then num (rowR Try.prog cntL a0 (impl_onlyAt_v0 Try.prog a4) a2 a3 a3.toNat) (a1.toNat * 1) else 0), .i .i64 (spec_l04Asked_v0 a1 a4 a2 a3 a0)], .none, true) := by
  have hL : (impl_onlyAt_v0 Try.prog a4).size = 36 := by unfold impl_onlyAt_v0; rw [Array.size_setIfInBounds, zc_row]
  refine (spec_CountPaths_ans 1000 a0 a1 a2 a3 a4).trans ?_
  cases hc : (spec_l04Asked_v0 a1 a4 a2 a3 a0 == 0)
  · rw [ne_of' hc]; rfl
  obtain ⟨g1, g2, g3, g4⟩ := ask_guard hc
  have r5 := in_range (ask_all hc).2.2.2.2
  have r4 := in_range (ask_all hc).2.2.2.1
  have h0 := okS_dims (ask_all hc).1
  obtain ⟨m, rfl⟩ : ∃ m : Nat, a3 = (m : Int) := ⟨a3.toNat, by omega⟩
  have e0 : spec_l04Asked_v0 a1 a4 a2 (m : Int) a0 = 0 := eq_of_beq hc
  have e1 : (zc Try.prog 61).setIfInBounds (a4.toNat * 1) (.int .i64 1) = impl_onlyAt_v0 Try.prog a4 := rfl
  rw [ne_of hc, g2, e0, e1]
  simp only [cond_true, cond_false, Int.toNat_natCast]
  generalize impl_onlyAt_v0 Try.prog a4 = L at hL ⊢
  have h := iter_all (g := spec_CountPaths_g0 Try.prog 1000 a0 a1 a2 (m : Int) a4) (fun j => (((1 + j : Nat) : Int), rowR Try.prog cntL a0 L a2 (m : Int) j)) (m := m) (x := (((1 + m : Nat) : Int), rowR Try.prog cntL a0 L a2 (m : Int) m)) (N := 1000) (fun j hj => by
    have h1 : decide (((1 + j : Nat) : Int) ≤ (m : Int)) = true := decide_eq_true (by omega)
    have h3 : IntKind.i64.wrap (((1 + j : Nat) : Int) + 1) = ((1 + (j + 1) : Nat) : Int) := by rw [w64 (by omega)]; omega
    have h5 := tide_in (b := a2) (h := (m : Int) - ((1 + j : Nat) : Int)) (by omega) (by omega)
    have h7 := spec_CountPaths_row h_a0 h0 a1 a2 (m : Int) a4 ((1 + j : Nat) : Int) (rowR Try.prog cntL a0 L a2 (m : Int) j) h5
    simp only [spec_CountPaths_g0, h1, cond_true, h7, nodeX, spec_CountPaths_k1_0, h3]
    rw [rowR, show 1 + j = j + 1 by omega]) (by
    have h1 : decide (((1 + m : Nat) : Int) ≤ (m : Int)) = false := decide_eq_false (by omega)
    simp only [spec_CountPaths_g0, h1, cond_false]) (by omega)
  have h' : iterO (spec_CountPaths_g0 Try.prog 1000 a0 a1 a2 (m : Int) a4) 1000 ((1 : Int), L) = some (((1 + m : Nat) : Int), rowR Try.prog cntL a0 L a2 (m : Int) m) := h
  rw [h']
  simp only [nodeX, spec_CountPaths_k0_0, g1, cond_true]
noncomputable def spec_CountPaths_con : Con := fun args h => match args, h with
  | [.g a0 36, .i .i64 a1, .i .i64 a2, .i .i64 a3, .i .i64 a4], [] => some (.t [.i .i64 (bif (spec_l04Asked_v0 a1 a4 a2 a3 a0 == 0) then num (rowR Try.prog cntL a0 (impl_onlyAt_v0 Try.prog a4) a2 a3 a3.toNat) (a1.toNat * 1) else 0), .i .i64 (spec_l04Asked_v0 a1 a4 a2 a3 a0)], .none, true)
  | _, _ => none
theorem spec_CountPaths_enter : ∀ args w, (callFunc 16 args).run Try.prog w = .ok (.enter 16 args) w := enter_ok (fn := Try.f16) (by kernel_rfl) (by kernel_rfl) (by kernel_rfl)
theorem spec_CountPaths_ok : ConOk Try.prog 16 spec_CountPaths_con := (ans_ok (N := 1000) (by kernel_rfl) (mkΓ_cons (con_ok spec_l01Is_ok) spec_l01Is_enter (mkΓ_cons (con_ok spec_l04Tide_ok) spec_l04Tide_enter (mkΓ_cons (con_ok spec_l04Asked_ok) spec_l04Asked_enter (mkΓ_cons (con_ok spec_l04Next_ok) spec_l04Next_enter mkΓ_nil)))) (fn := Try.f16) (by kernel_rfl) (by kernel_rfl) [([14], [4]), ([16], [7]), ([18], [7])]).of (by
  intro ρ h w args vals r e hA hH hr
  unfold spec_CountPaths_con at hr
  split at hr
  · rename_i a0 a1 a2 a3 a4
    obtain ⟨rfl, hg⟩ := Prod.mk.inj (Option.some.inj hr)
    obtain ⟨rfl, hg2⟩ := Prod.mk.inj hg
    exact spec_CountPaths_main a0 a1 a2 a3 a4 (hA.wt 0 rfl) (hA.rng 1 rfl) (hA.rng 2 rfl) (hA.rng 3 rfl) (hA.rng 4 rfl) hg2
  · cases hr)

theorem spec_BoundsFor_ans (N : Nat) (a0 : Array Value) (a1 : Int) (a2 : Int) (a3 : Int) : ansV Try.prog (mkΓ [(49, con spec_l04Asked_con), (55, con spec_l04Bounds_con)]) N Try.f18 [] [.g a0 36, .i .i64 (a1), .i .i64 (a2), .i .i64 (a3)] [] = (bif ((spec_l04Asked_v0 a1 a1 a2 a3 a0) != (0 : Int)) then (some (.t [.x, .i .i64 (spec_l04Asked_v0 a1 a1 a2 a3 a0)], .newS (some 0) 0 (repC (zc Try.prog 61) 0) 61, true))
    else (bif (impl_boundsFor_gd a0 a1 a2 a3) then (some (.t [.x, .i .i64 (0 : Int)], .newS (some 0) ((a3.toNat + 1)) (catR Try.prog lkM a0 (impl_onlyAt_v0 Try.prog a1) a2 a3 (a3.toNat + 1)) 61, true))
      else (none))) := by kernel_rfl

theorem impl_BoundsFor_ans (N : Nat) (a0 : Array Value) (a1 : Int) (a2 : Int) (a3 : Int) : ansV Try.prog (mkΓ [(56, con impl_bottleCode_con), (57, con impl_boundsFor_con)]) N Try.f19 [] [.g a0 36, .i .i64 (a1), .i .i64 (a2), .i .i64 (a3)] [] = (bif ((impl_bottleCode_v0 a0 a1 a2 a3) != (0 : Int)) then (some (.t [.v (.slice none 0 0), .i .i64 (impl_bottleCode_v0 a0 a1 a2 a3)], .none, true))
    else (bif (impl_boundsFor_gd a0 a1 a2 a3) then (some (.t [.x, .i .i64 (0 : Int)], .newS (some 0) ((impl_boundsFor_n0 a0 a1 a2 a3)) (impl_boundsFor_v0 Try.prog a0 a1 a2 a3) 61, true))
      else (none))) := by kernel_rfl

theorem spec_BoundsFor_main0 (a0 : Array Value) (a1 : Int) (a2 : Int) (a3 : Int) (h_a0 : WT Try.prog 36 a0) (h_a1 : IntKind.i64.min ≤ a1 ∧ a1 ≤ IntKind.i64.max) (h_a2 : IntKind.i64.min ≤ a2 ∧ a2 ≤ IntKind.i64.max) (h_a3 : IntKind.i64.min ≤ a3 ∧ a3 ≤ IntKind.i64.max) (hc0 : ((spec_l04Asked_v0 a1 a1 a2 a3 a0 == 0)) = false) (hg : (true) = true) : ansV Try.prog (mkΓ [(49, con spec_l04Asked_con), (55, con spec_l04Bounds_con)]) 1000 Try.f18 [] [.g a0 36, .i .i64 (a1), .i .i64 (a2), .i .i64 (a3)] [] = some (.t [.x, .i .i64 (spec_l04Asked_v0 a1 a1 a2 a3 a0)], .newS (some 0) 0 (#[] : Array Value) 61, true) := by
  refine (spec_BoundsFor_ans 1000 a0 a1 a2 a3).trans ?_
  rw [ne_of' hc0]
  rfl
theorem spec_BoundsFor_main1 (a0 : Array Value) (a1 : Int) (a2 : Int) (a3 : Int) (h_a0 : WT Try.prog 36 a0) (h_a1 : IntKind.i64.min ≤ a1 ∧ a1 ≤ IntKind.i64.max) (h_a2 : IntKind.i64.min ≤ a2 ∧ a2 ≤ IntKind.i64.max) (h_a3 : IntKind.i64.min ≤ a3 ∧ a3 ≤ IntKind.i64.max) (hc0 : ((spec_l04Asked_v0 a1 a1 a2 a3 a0 == 0)) = true) (hg : (true) = true) : ansV Try.prog (mkΓ [(49, con spec_l04Asked_con), (55, con spec_l04Bounds_con)]) 1000 Try.f18 [] [.g a0 36, .i .i64 (a1), .i .i64 (a2), .i .i64 (a3)] [] = some (.t [.x, .i .i64 (0 : Int)], .newS (some 0) (a3.toNat + 1) (impl_boundsFor_v0 Try.prog a0 a1 a2 a3) 61, true) := by
  refine (spec_BoundsFor_ans 1000 a0 a1 a2 a3).trans ?_
  obtain ⟨g1, g2, g3, g4⟩ := ask_guard hc0
  rw [ne_of hc0, g4]
  rfl
noncomputable def spec_BoundsFor_scon : SCon := fun args h => match args, h with
  | [.g a0 36, .i .i64 a1, .i .i64 a2, .i .i64 a3], [] => .two ((spec_l04Asked_v0 a1 a1 a2 a3 a0 == 0)) (.one (some (.t [.x, .i .i64 (0 : Int)], .newS (some 0) (a3.toNat + 1) (impl_boundsFor_v0 Try.prog a0 a1 a2 a3) 61, true))) (.one (some (.t [.x, .i .i64 (spec_l04Asked_v0 a1 a1 a2 a3 a0)], .newS (some 0) 0 (#[] : Array Value) 61, true)))
  | _, _ => .one none
theorem spec_BoundsFor_enter : ∀ args w, (callFunc 18 args).run Try.prog w = .ok (.enter 18 args) w := enter_ok (fn := Try.f18) (by kernel_rfl) (by kernel_rfl) (by kernel_rfl)
theorem spec_BoundsFor_sok : ConOk Try.prog 18 (fun args h => wayRes (spec_BoundsFor_scon args h)) := by
  intro ρ h w args vals r e hn hr hA hH
  dsimp only at hr
  unfold spec_BoundsFor_scon at hr
  split at hr
  · rename_i a0 a1 a2 a3
    simp only [wayRes] at hr
    cases hc0 : ((spec_l04Asked_v0 a1 a1 a2 a3 a0 == 0))
    · rw [hc0] at hr
      simp only [wayRes, cond_true, cond_false] at hr
      obtain ⟨rfl, hg⟩ := Prod.mk.inj (Option.some.inj hr)
      obtain ⟨rfl, hg2⟩ := Prod.mk.inj hg
      exact ((ans_ok (N := 1000) (by kernel_rfl) (mkΓ_cons (con_ok spec_l04Asked_ok) spec_l04Asked_enter (mkΓ_cons (con_ok spec_l04Bounds_ok) spec_l04Bounds_enter mkΓ_nil)) (fn := Try.f18) (by kernel_rfl) (by kernel_rfl) [])) ρ _ w _ vals _ _ hn ((spec_BoundsFor_main0 a0 a1 a2 a3 (hA.wt 0 rfl) (hA.rng 1 rfl) (hA.rng 2 rfl) (hA.rng 3 rfl) hc0 hg2)) hA hH
    · rw [hc0] at hr
      simp only [wayRes, cond_true, cond_false] at hr
      obtain ⟨rfl, hg⟩ := Prod.mk.inj (Option.some.inj hr)
      obtain ⟨rfl, hg2⟩ := Prod.mk.inj hg
      exact ((ans_ok (N := 1000) (by kernel_rfl) (mkΓ_cons (con_ok spec_l04Asked_ok) spec_l04Asked_enter (mkΓ_cons (con_ok spec_l04Bounds_ok) spec_l04Bounds_enter mkΓ_nil)) (fn := Try.f18) (by kernel_rfl) (by kernel_rfl) [])) ρ _ w _ vals _ _ hn ((spec_BoundsFor_main1 a0 a1 a2 a3 (hA.wt 0 rfl) (hA.rng 1 rfl) (hA.rng 2 rfl) (hA.rng 3 rfl) hc0 hg2)) hA hH
  · simp only [wayRes] at hr
    cases hr

theorem impl_BoundsFor_main0 (a0 : Array Value) (a1 : Int) (a2 : Int) (a3 : Int) (h_a0 : WT Try.prog 36 a0) (h_a1 : IntKind.i64.min ≤ a1 ∧ a1 ≤ IntKind.i64.max) (h_a2 : IntKind.i64.min ≤ a2 ∧ a2 ≤ IntKind.i64.max) (h_a3 : IntKind.i64.min ≤ a3 ∧ a3 ≤ IntKind.i64.max) (hc0 : ((spec_l04Asked_v0 a1 a1 a2 a3 a0 == 0)) = false) (hg : (true) = true) : ansV Try.prog (mkΓ [(56, con impl_bottleCode_con), (57, con impl_boundsFor_con)]) 1000 Try.f19 [] [.g a0 36, .i .i64 (a1), .i .i64 (a2), .i .i64 (a3)] [] = some (.t [.v (.slice none 0 0), .i .i64 (spec_l04Asked_v0 a1 a1 a2 a3 a0)], .none, true) := by
  refine (impl_BoundsFor_ans 1000 a0 a1 a2 a3).trans ?_
  rw [ask_bottle]
  rw [ne_of' hc0]
  rfl
theorem impl_BoundsFor_main1 (a0 : Array Value) (a1 : Int) (a2 : Int) (a3 : Int) (h_a0 : WT Try.prog 36 a0) (h_a1 : IntKind.i64.min ≤ a1 ∧ a1 ≤ IntKind.i64.max) (h_a2 : IntKind.i64.min ≤ a2 ∧ a2 ≤ IntKind.i64.max) (h_a3 : IntKind.i64.min ≤ a3 ∧ a3 ≤ IntKind.i64.max) (hc0 : ((spec_l04Asked_v0 a1 a1 a2 a3 a0 == 0)) = true) (hg : (true) = true) : ansV Try.prog (mkΓ [(56, con impl_bottleCode_con), (57, con impl_boundsFor_con)]) 1000 Try.f19 [] [.g a0 36, .i .i64 (a1), .i .i64 (a2), .i .i64 (a3)] [] = some (.t [.x, .i .i64 (0 : Int)], .newS (some 0) (a3.toNat + 1) (impl_boundsFor_v0 Try.prog a0 a1 a2 a3) 61, true) := by
  refine (impl_BoundsFor_ans 1000 a0 a1 a2 a3).trans ?_
  rw [ask_bottle]
  obtain ⟨g1, g2, g3, g4⟩ := ask_guard hc0
  rw [ne_of hc0, g4]
  rfl
noncomputable def impl_BoundsFor_scon : SCon := fun args h => match args, h with
  | [.g a0 36, .i .i64 a1, .i .i64 a2, .i .i64 a3], [] => .two ((spec_l04Asked_v0 a1 a1 a2 a3 a0 == 0)) (.one (some (.t [.x, .i .i64 (0 : Int)], .newS (some 0) (a3.toNat + 1) (impl_boundsFor_v0 Try.prog a0 a1 a2 a3) 61, true))) (.one (some (.t [.x, .i .i64 (spec_l04Asked_v0 a1 a1 a2 a3 a0)], .newS (some 0) 0 (#[] : Array Value) 61, true)))
  | _, _ => .one none
theorem impl_BoundsFor_enter : ∀ args w, (callFunc 19 args).run Try.prog w = .ok (.enter 19 args) w := enter_ok (fn := Try.f19) (by kernel_rfl) (by kernel_rfl) (by kernel_rfl)
theorem impl_BoundsFor_sok : ConOk Try.prog 19 (fun args h => wayRes (impl_BoundsFor_scon args h)) := by
  intro ρ h w args vals r e hn hr hA hH
  dsimp only at hr
  unfold impl_BoundsFor_scon at hr
  split at hr
  · rename_i a0 a1 a2 a3
    simp only [wayRes] at hr
    cases hc0 : ((spec_l04Asked_v0 a1 a1 a2 a3 a0 == 0))
    · rw [hc0] at hr
      simp only [wayRes, cond_true, cond_false] at hr
      obtain ⟨rfl, hg⟩ := Prod.mk.inj (Option.some.inj hr)
      obtain ⟨rfl, hg2⟩ := Prod.mk.inj hg
      exact (ConOk.nil (ans_ok (N := 1000) (by kernel_rfl) (mkΓ_cons (con_ok impl_bottleCode_ok) impl_bottleCode_enter (mkΓ_cons (con_ok impl_boundsFor_ok) impl_boundsFor_enter mkΓ_nil)) (fn := Try.f19) (by kernel_rfl) (by kernel_rfl) []) 0 61) ρ _ w _ vals _ _ hn (congrArg (nilN 0 61) (impl_BoundsFor_main0 a0 a1 a2 a3 (hA.wt 0 rfl) (hA.rng 1 rfl) (hA.rng 2 rfl) (hA.rng 3 rfl) hc0 hg2)) hA hH
    · rw [hc0] at hr
      simp only [wayRes, cond_true, cond_false] at hr
      obtain ⟨rfl, hg⟩ := Prod.mk.inj (Option.some.inj hr)
      obtain ⟨rfl, hg2⟩ := Prod.mk.inj hg
      exact ((ans_ok (N := 1000) (by kernel_rfl) (mkΓ_cons (con_ok impl_bottleCode_ok) impl_bottleCode_enter (mkΓ_cons (con_ok impl_boundsFor_ok) impl_boundsFor_enter mkΓ_nil)) (fn := Try.f19) (by kernel_rfl) (by kernel_rfl) [])) ρ _ w _ vals _ _ hn ((impl_BoundsFor_main1 a0 a1 a2 a3 (hA.wt 0 rfl) (hA.rng 1 rfl) (hA.rng 2 rfl) (hA.rng 3 rfl) hc0 hg2)) hA hH
  · simp only [wayRes] at hr
    cases hr

noncomputable def laws_eqInt64A36_e0 : Bool × Int → LS
  | (y0_4, y0_5) => ([.a (.b (y0_4)), .a (.i .i64 (y0_5))], [])

noncomputable def laws_eqInt64A36_x0 : (Stp (Bool × Int) (Bool × Int)) → Exit × LS
  | .more t => (.ret, laws_eqInt64A36_e0 t)
  | .done t => ((.exit 0), laws_eqInt64A36_e0 t)

noncomputable def laws_eqInt64A36_g0 (P : Program) (a0 : Array Value) (a1 : Array Value) : Bool × Int → Option (Stp (Bool × Int) (Stp (Bool × Int) (Bool × Int)))
  | (y0_4, y0_5) => bif decide (y0_5 < (36 : Int)) then (bif (decide (0 ≤ y0_5) && decide (y0_5 < 36)) then (bif (decide (0 ≤ y0_5) && decide (y0_5 < 36)) then (bif ((num a0 ((y0_5).toNat * 1)) != (num a1 ((y0_5).toNat * 1))) then (some (.done (.more (false, y0_5))))
          else (some (.more (y0_4, (IntKind.i64.wrap (y0_5 + (1 : Int)))))))
        else (none))
      else (none))
    else (some (.done (.done (y0_4, y0_5))))

theorem laws_eqInt64A36_s0 (N : Nat) (a0 : Array Value) (a1 : Array Value) : ∀ t : Bool × Int, stepV Try.prog (mkΓ []) N (cAt (codeOf Try.f37) [1, 0, 1, 0, 0]) (pAt (mkPlan (codeOf Try.f37) [([4, 5], [])]).1 [1, 0, 1, 0]) [4, 5] [] (⟨[.a (.g a0 61), .a (.g a1 61), .a (.w 0), .a (.w 1), .a (.b (false)), .a (.i .i64 (0 : Int)), .a (.u), .a (.u), .a (.u), .a (.u), .a (.u), .a (.u), .a (.u), .a (.u), .a (.u), .a (.u), .a (.u)], [.row a0 61, .row a1 61, .no], []⟩ : St) (laws_eqInt64A36_e0 t) = mapS laws_eqInt64A36_e0 laws_eqInt64A36_x0 (laws_eqInt64A36_g0 Try.prog a0 a1 t) := by
  rintro ⟨y0_4, y0_5⟩
  have h : stepV Try.prog (mkΓ []) N (cAt (codeOf Try.f37) [1, 0, 1, 0, 0]) (pAt (mkPlan (codeOf Try.f37) [([4, 5], [])]).1 [1, 0, 1, 0]) [4, 5] [] (⟨[.a (.g a0 61), .a (.g a1 61), .a (.w 0), .a (.w 1), .a (.b (false)), .a (.i .i64 (0 : Int)), .a (.u), .a (.u), .a (.u), .a (.u), .a (.u), .a (.u), .a (.u), .a (.u), .a (.u), .a (.u), .a (.u)], [.row a0 61, .row a1 61, .no], []⟩ : St) ([.a (.b (y0_4)), .a (.i .i64 (y0_5))], []) = (bif decide (y0_5 < (36 : Int)) then (bif (decide (0 ≤ y0_5) && decide (y0_5 < 36)) then (bif (decide (0 ≤ y0_5) && decide (y0_5 < 36)) then (bif ((num a0 ((y0_5).toNat * 1)) != (num a1 ((y0_5).toNat * 1))) then (some (.done (.ret, ([.a (.b (false)), .a (.i .i64 (y0_5))], []))))
          else (some (.more ([.a (.b (y0_4)), .a (.i .i64 (IntKind.i64.wrap (y0_5 + (1 : Int))))], []))))
        else (none))
      else (none))
    else (some (.done ((.exit 0), ([.a (.b (y0_4)), .a (.i .i64 (y0_5))], []))))) := by kernel_rfl
  refine h.trans ?_
  simp only [laws_eqInt64A36_g0, mapS_cond, mapS_more, mapS_done, mapS_none, laws_eqInt64A36_e0, laws_eqInt64A36_x0]

noncomputable def laws_eqInt64A36_k0_0 (P : Program) (N : Nat) (a0 : Array Value) (a1 : Array Value) (z0_4 : Bool) (z0_5 : Int) : Option (SV × Eff × Bool) := some (.a (.b (z0_4)), .none, true)

theorem laws_eqInt64A36_k0_0_eq (N : Nat) (a0 : Array Value) (a1 : Array Value) (z0_4 : Bool) (z0_5 : Int) : (kBlock 0 (kSeq (veC Try.prog (mkΓ []) N (cAt (codeOf Try.f37) [1, 1]) (pAt (mkPlan (codeOf Try.f37) [([4, 5], [])]).1 [1, 1]) (SV × Eff × Bool)) (finK Try.prog [] [.tmp 4]))) .ret (left (writes (cAt (codeOf Try.f37) [1, 0, 1, 0, 0])) [4, 5] [] (⟨[.a (.g a0 61), .a (.g a1 61), .a (.w 0), .a (.w 1), .a (.b (false)), .a (.i .i64 (0 : Int)), .a (.u), .a (.u), .a (.u), .a (.u), .a (.u), .a (.u), .a (.u), .a (.u), .a (.u), .a (.u), .a (.u)], [.row a0 61, .row a1 61, .no], []⟩ : St) ([.a (.b (z0_4)), .a (.i .i64 (z0_5))], [])) = laws_eqInt64A36_k0_0 Try.prog N a0 a1 z0_4 z0_5 := by
  have h : (kBlock 0 (kSeq (veC Try.prog (mkΓ []) N (cAt (codeOf Try.f37) [1, 1]) (pAt (mkPlan (codeOf Try.f37) [([4, 5], [])]).1 [1, 1]) (SV × Eff × Bool)) (finK Try.prog [] [.tmp 4]))) .ret (left (writes (cAt (codeOf Try.f37) [1, 0, 1, 0, 0])) [4, 5] [] (⟨[.a (.g a0 61), .a (.g a1 61), .a (.w 0), .a (.w 1), .a (.b (false)), .a (.i .i64 (0 : Int)), .a (.u), .a (.u), .a (.u), .a (.u), .a (.u), .a (.u), .a (.u), .a (.u), .a (.u), .a (.u), .a (.u)], [.row a0 61, .row a1 61, .no], []⟩ : St) ([.a (.b (z0_4)), .a (.i .i64 (z0_5))], [])) = (some (.a (.b (z0_4)), .none, true)) := by kernel_rfl
  refine h.trans ?_
  rfl

noncomputable def laws_eqInt64A36_k0_1 (P : Program) (N : Nat) (a0 : Array Value) (a1 : Array Value) (z0_4 : Bool) (z0_5 : Int) : Option (SV × Eff × Bool) := some (.a (.b (true)), .none, true)

theorem laws_eqInt64A36_k0_1_eq (N : Nat) (a0 : Array Value) (a1 : Array Value) (z0_4 : Bool) (z0_5 : Int) : (kBlock 0 (kSeq (veC Try.prog (mkΓ []) N (cAt (codeOf Try.f37) [1, 1]) (pAt (mkPlan (codeOf Try.f37) [([4, 5], [])]).1 [1, 1]) (SV × Eff × Bool)) (finK Try.prog [] [.tmp 4]))) (.exit 0) (left (writes (cAt (codeOf Try.f37) [1, 0, 1, 0, 0])) [4, 5] [] (⟨[.a (.g a0 61), .a (.g a1 61), .a (.w 0), .a (.w 1), .a (.b (false)), .a (.i .i64 (0 : Int)), .a (.u), .a (.u), .a (.u), .a (.u), .a (.u), .a (.u), .a (.u), .a (.u), .a (.u), .a (.u), .a (.u)], [.row a0 61, .row a1 61, .no], []⟩ : St) ([.a (.b (z0_4)), .a (.i .i64 (z0_5))], [])) = laws_eqInt64A36_k0_1 Try.prog N a0 a1 z0_4 z0_5 := by
  have h : (kBlock 0 (kSeq (veC Try.prog (mkΓ []) N (cAt (codeOf Try.f37) [1, 1]) (pAt (mkPlan (codeOf Try.f37) [([4, 5], [])]).1 [1, 1]) (SV × Eff × Bool)) (finK Try.prog [] [.tmp 4]))) (.exit 0) (left (writes (cAt (codeOf Try.f37) [1, 0, 1, 0, 0])) [4, 5] [] (⟨[.a (.g a0 61), .a (.g a1 61), .a (.w 0), .a (.w 1), .a (.b (false)), .a (.i .i64 (0 : Int)), .a (.u), .a (.u), .a (.u), .a (.u), .a (.u), .a (.u), .a (.u), .a (.u), .a (.u), .a (.u), .a (.u)], [.row a0 61, .row a1 61, .no], []⟩ : St) ([.a (.b (z0_4)), .a (.i .i64 (z0_5))], [])) = (some (.a (.b (true)), .none, true)) := by kernel_rfl
  refine h.trans ?_
  rfl

theorem laws_eqInt64A36_n0 (N : Nat) (a0 : Array Value) (a1 : Array Value) : bindX (iterO (stepV Try.prog (mkΓ []) N (cAt (codeOf Try.f37) [1, 0, 1, 0, 0]) (pAt (mkPlan (codeOf Try.f37) [([4, 5], [])]).1 [1, 0, 1, 0]) [4, 5] [] (⟨[.a (.g a0 61), .a (.g a1 61), .a (.w 0), .a (.w 1), .a (.b (false)), .a (.i .i64 (0 : Int)), .a (.u), .a (.u), .a (.u), .a (.u), .a (.u), .a (.u), .a (.u), .a (.u), .a (.u), .a (.u), .a (.u)], [.row a0 61, .row a1 61, .no], []⟩ : St)) N ([.a (.b (false)), .a (.i .i64 (0 : Int))], [])) (fun e s => (kBlock 0 (kSeq (veC Try.prog (mkΓ []) N (cAt (codeOf Try.f37) [1, 1]) (pAt (mkPlan (codeOf Try.f37) [([4, 5], [])]).1 [1, 1]) (SV × Eff × Bool)) (finK Try.prog [] [.tmp 4]))) e (left (writes (cAt (codeOf Try.f37) [1, 0, 1, 0, 0])) [4, 5] [] (⟨[.a (.g a0 61), .a (.g a1 61), .a (.w 0), .a (.w 1), .a (.b (false)), .a (.i .i64 (0 : Int)), .a (.u), .a (.u), .a (.u), .a (.u), .a (.u), .a (.u), .a (.u), .a (.u), .a (.u), .a (.u), .a (.u)], [.row a0 61, .row a1 61, .no], []⟩ : St) s)) = nodeX (iterO (laws_eqInt64A36_g0 Try.prog a0 a1) N (false, (0 : Int))) (st2 (fun x => laws_eqInt64A36_k0_0 Try.prog N a0 a1 x.1 x.2) (fun x => laws_eqInt64A36_k0_1 Try.prog N a0 a1 x.1 x.2)) := by
  refine loop_node laws_eqInt64A36_e0 laws_eqInt64A36_x0 _ _ (laws_eqInt64A36_s0 N a0 a1) N (false, (0 : Int)) _ _ ?_
  intro x
  cases x with
  | more x => exact laws_eqInt64A36_k0_0_eq N a0 a1 x.1 x.2
  | done x => exact laws_eqInt64A36_k0_1_eq N a0 a1 x.1 x.2

theorem laws_eqInt64A36_ans (N : Nat) (a0 : Array Value) (a1 : Array Value) : ansV Try.prog (mkΓ []) N Try.f37 [([4, 5], [])] [.g a0 61, .g a1 61] [] = (nodeX (iterO (laws_eqInt64A36_g0 Try.prog a0 a1) N (false, (0 : Int))) (st2 (fun x => laws_eqInt64A36_k0_0 Try.prog N a0 a1 x.1 x.2) (fun x => laws_eqInt64A36_k0_1 Try.prog N a0 a1 x.1 x.2))) := by
  have h : ansV Try.prog (mkΓ []) N Try.f37 [([4, 5], [])] [.g a0 61, .g a1 61] [] = (bindX (iterO (stepV Try.prog (mkΓ []) N (cAt (codeOf Try.f37) [1, 0, 1, 0, 0]) (pAt (mkPlan (codeOf Try.f37) [([4, 5], [])]).1 [1, 0, 1, 0]) [4, 5] [] (⟨[.a (.g a0 61), .a (.g a1 61), .a (.w 0), .a (.w 1), .a (.b (false)), .a (.i .i64 (0 : Int)), .a (.u), .a (.u), .a (.u), .a (.u), .a (.u), .a (.u), .a (.u), .a (.u), .a (.u), .a (.u), .a (.u)], [.row a0 61, .row a1 61, .no], []⟩ : St)) N ([.a (.b (false)), .a (.i .i64 (0 : Int))], [])) (fun e s => (kBlock 0 (kSeq (veC Try.prog (mkΓ []) N (cAt (codeOf Try.f37) [1, 1]) (pAt (mkPlan (codeOf Try.f37) [([4, 5], [])]).1 [1, 1]) (SV × Eff × Bool)) (finK Try.prog [] [.tmp 4]))) e (left (writes (cAt (codeOf Try.f37) [1, 0, 1, 0, 0])) [4, 5] [] (⟨[.a (.g a0 61), .a (.g a1 61), .a (.w 0), .a (.w 1), .a (.b (false)), .a (.i .i64 (0 : Int)), .a (.u), .a (.u), .a (.u), .a (.u), .a (.u), .a (.u), .a (.u), .a (.u), .a (.u), .a (.u), .a (.u)], [.row a0 61, .row a1 61, .no], []⟩ : St) s))) := by kernel_rfl
  refine h.trans ?_
  simp only [laws_eqInt64A36_n0 N a0 a1]

theorem laws_eqInt64A36_main (a0 : Array Value) (a1 : Array Value) (h_a0 : WT Try.prog 61 a0) (h_a1 : WT Try.prog 61 a1) (hg : (true) = true) : ansV Try.prog (mkΓ []) 1000 Try.f37 [([4, 5], [])] [.g a0 61, .g a1 61] [] = some (.a (.b (sameB a0 a1)), .none, true) := by
  have hz : a0.size = 36 * 1 := by rw [h_a0.layLen]; kernel_rfl
  have hy : a1.size = 36 * 1 := by rw [h_a1.layLen]; kernel_rfl
  have hL : ∀ k, k < 36 → (lay Try.prog 61)[k * 1]? = some 3 := by
    intro k hk
    have h : (List.range 36).all (fun k => (lay Try.prog 61)[k * 1]? == some 3) = true := by kernel_rfl
    exact eq_of_beq (List.all_eq_true.1 h k (List.mem_range.2 hk))
  have hb : sameB a0 a1 = true ↔ ∀ k, k < 36 → (fun k => (num a0 (k * 1) == num a1 (k * 1))) k = true := by
    constructor
    · intro h k hk
      rw [sameB_iff.1 h]
      exact beq_self_eq_true _
    · intro h
      refine sameB_iff.2 ?_
      refine ext_parts (n := 36) (m := 1) (by omega) hz hy (fun k hk => ?_)
      have e0 := (h_a0.int (k := .i64) (hL k hk)).1
      have e1 := (h_a1.int (k := .i64) (hL k hk)).1
      rw [eq_of_beq (h k hk)] at e0
      refine arr_ext fun i => ?_
      rw [Array.getElem?_extract, Array.getElem?_extract, hz, hy]
      by_cases hi : i = 0
      · subst hi; simp only [Nat.add_zero]; rw [e0, e1]
      · rw [if_neg (by omega), if_neg (by omega)]
  refine (laws_eqInt64A36_ans 1000 a0 a1).trans ?_
  refine (iter_first (g := laws_eqInt64A36_g0 Try.prog a0 a1) (fun k => (false, (k : Int))) (fun k => (num a0 (k * 1) == num a1 (k * 1))) 36 (N := 1000) (xd := .done (false, ((36 : Nat) : Int))) (by omega) (fun k hk hp => by
    have h1 : decide ((k : Int) < 36) = true := decide_eq_true (by omega)
    have h0 : decide (0 ≤ (k : Int)) = true := decide_eq_true (by omega)
    have h3 : IntKind.i64.wrap ((k : Int) + 1) = ((k + 1 : Nat) : Int) := by rw [IntWalk.i64_in _ (by omega)]; omega
    have h4 : ((k : Int)).toNat = k := Int.toNat_natCast k
    have hp' : (num a0 (k * 1) == num a1 (k * 1)) = true := hp
    simp only [laws_eqInt64A36_g0, h1, h0, Bool.and_self, h4, cond_true, h3, bne, hp', Bool.not_true, cond_false]) (by
    have h1 : decide (((36 : Nat) : Int) < 36) = false := by decide
    simp only [laws_eqInt64A36_g0, h1, cond_false]) (sameB a0 a1) hb (some (.a (.b true), .none, true)) (some (.a (.b false), .none, true)) rfl (fun k hk hp => by
    refine ⟨.more (false, (k : Int)), ?_, rfl⟩
    have h1 : decide ((k : Int) < 36) = true := decide_eq_true (by omega)
    have h0 : decide (0 ≤ (k : Int)) = true := decide_eq_true (by omega)
    have h4 : ((k : Int)).toNat = k := Int.toNat_natCast k
    have hp' : (num a0 (k * 1) == num a1 (k * 1)) = false := hp
    simp only [laws_eqInt64A36_g0, h1, h0, Bool.and_self, h4, cond_true, bne, hp', Bool.not_false])).trans ?_
  cases sameB a0 a1 <;> rfl
noncomputable def laws_eqInt64A36_con : Con := fun args h => match args, h with
  | [.g a0 61, .g a1 61], [] => some (.a (.b (sameB a0 a1)), .none, true)
  | _, _ => none
theorem laws_eqInt64A36_enter : ∀ args w, (callFunc 37 args).run Try.prog w = .ok (.enter 37 args) w := enter_ok (fn := Try.f37) (by kernel_rfl) (by kernel_rfl) (by kernel_rfl)
theorem laws_eqInt64A36_ok : ConOk Try.prog 37 laws_eqInt64A36_con := (ans_ok (N := 1000) (by kernel_rfl) mkΓ_nil (fn := Try.f37) (by kernel_rfl) (by kernel_rfl) [([4, 5], [])]).of (by
  intro ρ h w args vals r e hA hH hr
  unfold laws_eqInt64A36_con at hr
  split at hr
  · rename_i a0 a1
    obtain ⟨rfl, hg⟩ := Prod.mk.inj (Option.some.inj hr)
    obtain ⟨rfl, hg2⟩ := Prod.mk.inj hg
    exact laws_eqInt64A36_main a0 a1 (hA.wt 0 rfl) (hA.wt 1 rfl) hg2
  · cases hr)

noncomputable def laws_eqBounds_e0 : Bool × Int → LS
  | (y0_4, y0_5) => ([.a (.b (y0_4)), .a (.i .i64 (y0_5))], [])

noncomputable def laws_eqBounds_x0 : (Stp (Bool × Int) (Bool × Int)) → Exit × LS
  | .more t => (.ret, laws_eqBounds_e0 t)
  | .done t => ((.exit 0), laws_eqBounds_e0 t)

noncomputable def laws_eqBounds_g0 (P : Program) (b_a0 : Option (Option Addr)) (n_a0 : Nat) (a0 : Array Value) (b_a1 : Option (Option Addr)) (n_a1 : Nat) (a1 : Array Value) : Bool × Int → Option (Stp (Bool × Int) (Stp (Bool × Int) (Bool × Int)))
  | (y0_4, y0_5) => bif decide (y0_5 < (n_a0 : Int)) then (bif (decide (0 ≤ y0_5) && decide (y0_5 < (n_a0 : Int))) then (bif (decide (0 ≤ y0_5) && decide (y0_5 < (n_a1 : Int))) then (bif (!(sameB (a0.extract ((y0_5).toNat * 36) (((y0_5).toNat * 36) + 36)) (a1.extract ((y0_5).toNat * 36) (((y0_5).toNat * 36) + 36)))) then (some (.done (.more (false, y0_5))))
          else (some (.more (y0_4, (IntKind.i64.wrap (y0_5 + (1 : Int)))))))
        else (none))
      else (none))
    else (some (.done (.done (y0_4, y0_5))))

theorem laws_eqBounds_s0 (N : Nat) (b_a0 : Option (Option Addr)) (n_a0 : Nat) (a0 : Array Value) (b_a1 : Option (Option Addr)) (n_a1 : Nat) (a1 : Array Value) : ∀ t : Bool × Int, stepV Try.prog (mkΓ [(37, con laws_eqInt64A36_con)]) N (cAt (codeOf Try.f20) [1, 1, 0, 1, 0, 0]) (pAt (mkPlan (codeOf Try.f20) [([4, 5], [])]).1 [1, 1, 0, 1, 0]) [4, 5] [] (⟨[.a (.l 0), .a (.l 1), .a (.u), .a (.u), .a (.b (false)), .a (.i .i64 (0 : Int)), .a (.l 0), .a (.i .i64 (n_a0 : Int)), .a (.l 1), .a (.i .i64 (n_a1 : Int)), .a (.b (((n_a0 : Int) != (n_a1 : Int)))), .a (.u), .a (.u), .a (.u), .a (.u), .a (.u), .a (.u), .a (.u), .a (.u), .a (.u), .a (.u), .a (.u), .a (.u), .a (.u), .a (.u), .a (.u), .a (.u)], [.sl (.came b_a0) n_a0 a0 61, .sl (.came b_a1) n_a1 a1 61], []⟩ : St) (laws_eqBounds_e0 t) = mapS laws_eqBounds_e0 laws_eqBounds_x0 (laws_eqBounds_g0 Try.prog b_a0 n_a0 a0 b_a1 n_a1 a1 t) := by
  rintro ⟨y0_4, y0_5⟩
  have h : stepV Try.prog (mkΓ [(37, con laws_eqInt64A36_con)]) N (cAt (codeOf Try.f20) [1, 1, 0, 1, 0, 0]) (pAt (mkPlan (codeOf Try.f20) [([4, 5], [])]).1 [1, 1, 0, 1, 0]) [4, 5] [] (⟨[.a (.l 0), .a (.l 1), .a (.u), .a (.u), .a (.b (false)), .a (.i .i64 (0 : Int)), .a (.l 0), .a (.i .i64 (n_a0 : Int)), .a (.l 1), .a (.i .i64 (n_a1 : Int)), .a (.b (((n_a0 : Int) != (n_a1 : Int)))), .a (.u), .a (.u), .a (.u), .a (.u), .a (.u), .a (.u), .a (.u), .a (.u), .a (.u), .a (.u), .a (.u), .a (.u), .a (.u), .a (.u), .a (.u), .a (.u)], [.sl (.came b_a0) n_a0 a0 61, .sl (.came b_a1) n_a1 a1 61], []⟩ : St) ([.a (.b (y0_4)), .a (.i .i64 (y0_5))], []) = (bif decide (y0_5 < (n_a0 : Int)) then (bif (decide (0 ≤ y0_5) && decide (y0_5 < (n_a0 : Int))) then (bif (decide (0 ≤ y0_5) && decide (y0_5 < (n_a1 : Int))) then (bif (!(sameB (a0.extract ((y0_5).toNat * 36) (((y0_5).toNat * 36) + 36)) (a1.extract ((y0_5).toNat * 36) (((y0_5).toNat * 36) + 36)))) then (some (.done (.ret, ([.a (.b (false)), .a (.i .i64 (y0_5))], []))))
          else (some (.more ([.a (.b (y0_4)), .a (.i .i64 (IntKind.i64.wrap (y0_5 + (1 : Int))))], []))))
        else (none))
      else (none))
    else (some (.done ((.exit 0), ([.a (.b (y0_4)), .a (.i .i64 (y0_5))], []))))) := by kernel_rfl
  refine h.trans ?_
  simp only [laws_eqBounds_g0, mapS_cond, mapS_more, mapS_done, mapS_none, laws_eqBounds_e0, laws_eqBounds_x0]

noncomputable def laws_eqBounds_k0_0 (P : Program) (N : Nat) (b_a0 : Option (Option Addr)) (n_a0 : Nat) (a0 : Array Value) (b_a1 : Option (Option Addr)) (n_a1 : Nat) (a1 : Array Value) (z0_4 : Bool) (z0_5 : Int) : Option (SV × Eff × Bool) := some (.a (.b (z0_4)), .none, true)

theorem laws_eqBounds_k0_0_eq (N : Nat) (b_a0 : Option (Option Addr)) (n_a0 : Nat) (a0 : Array Value) (b_a1 : Option (Option Addr)) (n_a1 : Nat) (a1 : Array Value) (z0_4 : Bool) (z0_5 : Int) : (kBlock 0 (kSeq (veC Try.prog (mkΓ [(37, con laws_eqInt64A36_con)]) N (cAt (codeOf Try.f20) [1, 1, 1]) (pAt (mkPlan (codeOf Try.f20) [([4, 5], [])]).1 [1, 1, 1]) (SV × Eff × Bool)) (finK Try.prog [.sl (.came b_a0) n_a0 a0 61, .sl (.came b_a1) n_a1 a1 61] [.tmp 4]))) .ret (left (writes (cAt (codeOf Try.f20) [1, 1, 0, 1, 0, 0])) [4, 5] [] (⟨[.a (.l 0), .a (.l 1), .a (.u), .a (.u), .a (.b (false)), .a (.i .i64 (0 : Int)), .a (.l 0), .a (.i .i64 (n_a0 : Int)), .a (.l 1), .a (.i .i64 (n_a1 : Int)), .a (.b (((n_a0 : Int) != (n_a1 : Int)))), .a (.u), .a (.u), .a (.u), .a (.u), .a (.u), .a (.u), .a (.u), .a (.u), .a (.u), .a (.u), .a (.u), .a (.u), .a (.u), .a (.u), .a (.u), .a (.u)], [.sl (.came b_a0) n_a0 a0 61, .sl (.came b_a1) n_a1 a1 61], []⟩ : St) ([.a (.b (z0_4)), .a (.i .i64 (z0_5))], [])) = laws_eqBounds_k0_0 Try.prog N b_a0 n_a0 a0 b_a1 n_a1 a1 z0_4 z0_5 := by
  have h : (kBlock 0 (kSeq (veC Try.prog (mkΓ [(37, con laws_eqInt64A36_con)]) N (cAt (codeOf Try.f20) [1, 1, 1]) (pAt (mkPlan (codeOf Try.f20) [([4, 5], [])]).1 [1, 1, 1]) (SV × Eff × Bool)) (finK Try.prog [.sl (.came b_a0) n_a0 a0 61, .sl (.came b_a1) n_a1 a1 61] [.tmp 4]))) .ret (left (writes (cAt (codeOf Try.f20) [1, 1, 0, 1, 0, 0])) [4, 5] [] (⟨[.a (.l 0), .a (.l 1), .a (.u), .a (.u), .a (.b (false)), .a (.i .i64 (0 : Int)), .a (.l 0), .a (.i .i64 (n_a0 : Int)), .a (.l 1), .a (.i .i64 (n_a1 : Int)), .a (.b (((n_a0 : Int) != (n_a1 : Int)))), .a (.u), .a (.u), .a (.u), .a (.u), .a (.u), .a (.u), .a (.u), .a (.u), .a (.u), .a (.u), .a (.u), .a (.u), .a (.u), .a (.u), .a (.u), .a (.u)], [.sl (.came b_a0) n_a0 a0 61, .sl (.came b_a1) n_a1 a1 61], []⟩ : St) ([.a (.b (z0_4)), .a (.i .i64 (z0_5))], [])) = (some (.a (.b (z0_4)), .none, true)) := by kernel_rfl
  refine h.trans ?_
  rfl

noncomputable def laws_eqBounds_k0_1 (P : Program) (N : Nat) (b_a0 : Option (Option Addr)) (n_a0 : Nat) (a0 : Array Value) (b_a1 : Option (Option Addr)) (n_a1 : Nat) (a1 : Array Value) (z0_4 : Bool) (z0_5 : Int) : Option (SV × Eff × Bool) := some (.a (.b (true)), .none, true)

theorem laws_eqBounds_k0_1_eq (N : Nat) (b_a0 : Option (Option Addr)) (n_a0 : Nat) (a0 : Array Value) (b_a1 : Option (Option Addr)) (n_a1 : Nat) (a1 : Array Value) (z0_4 : Bool) (z0_5 : Int) : (kBlock 0 (kSeq (veC Try.prog (mkΓ [(37, con laws_eqInt64A36_con)]) N (cAt (codeOf Try.f20) [1, 1, 1]) (pAt (mkPlan (codeOf Try.f20) [([4, 5], [])]).1 [1, 1, 1]) (SV × Eff × Bool)) (finK Try.prog [.sl (.came b_a0) n_a0 a0 61, .sl (.came b_a1) n_a1 a1 61] [.tmp 4]))) (.exit 0) (left (writes (cAt (codeOf Try.f20) [1, 1, 0, 1, 0, 0])) [4, 5] [] (⟨[.a (.l 0), .a (.l 1), .a (.u), .a (.u), .a (.b (false)), .a (.i .i64 (0 : Int)), .a (.l 0), .a (.i .i64 (n_a0 : Int)), .a (.l 1), .a (.i .i64 (n_a1 : Int)), .a (.b (((n_a0 : Int) != (n_a1 : Int)))), .a (.u), .a (.u), .a (.u), .a (.u), .a (.u), .a (.u), .a (.u), .a (.u), .a (.u), .a (.u), .a (.u), .a (.u), .a (.u), .a (.u), .a (.u), .a (.u)], [.sl (.came b_a0) n_a0 a0 61, .sl (.came b_a1) n_a1 a1 61], []⟩ : St) ([.a (.b (z0_4)), .a (.i .i64 (z0_5))], [])) = laws_eqBounds_k0_1 Try.prog N b_a0 n_a0 a0 b_a1 n_a1 a1 z0_4 z0_5 := by
  have h : (kBlock 0 (kSeq (veC Try.prog (mkΓ [(37, con laws_eqInt64A36_con)]) N (cAt (codeOf Try.f20) [1, 1, 1]) (pAt (mkPlan (codeOf Try.f20) [([4, 5], [])]).1 [1, 1, 1]) (SV × Eff × Bool)) (finK Try.prog [.sl (.came b_a0) n_a0 a0 61, .sl (.came b_a1) n_a1 a1 61] [.tmp 4]))) (.exit 0) (left (writes (cAt (codeOf Try.f20) [1, 1, 0, 1, 0, 0])) [4, 5] [] (⟨[.a (.l 0), .a (.l 1), .a (.u), .a (.u), .a (.b (false)), .a (.i .i64 (0 : Int)), .a (.l 0), .a (.i .i64 (n_a0 : Int)), .a (.l 1), .a (.i .i64 (n_a1 : Int)), .a (.b (((n_a0 : Int) != (n_a1 : Int)))), .a (.u), .a (.u), .a (.u), .a (.u), .a (.u), .a (.u), .a (.u), .a (.u), .a (.u), .a (.u), .a (.u), .a (.u), .a (.u), .a (.u), .a (.u), .a (.u)], [.sl (.came b_a0) n_a0 a0 61, .sl (.came b_a1) n_a1 a1 61], []⟩ : St) ([.a (.b (z0_4)), .a (.i .i64 (z0_5))], [])) = (some (.a (.b (true)), .none, true)) := by kernel_rfl
  refine h.trans ?_
  rfl

theorem laws_eqBounds_n0 (N : Nat) (b_a0 : Option (Option Addr)) (n_a0 : Nat) (a0 : Array Value) (b_a1 : Option (Option Addr)) (n_a1 : Nat) (a1 : Array Value) : bindX (iterO (stepV Try.prog (mkΓ [(37, con laws_eqInt64A36_con)]) N (cAt (codeOf Try.f20) [1, 1, 0, 1, 0, 0]) (pAt (mkPlan (codeOf Try.f20) [([4, 5], [])]).1 [1, 1, 0, 1, 0]) [4, 5] [] (⟨[.a (.l 0), .a (.l 1), .a (.u), .a (.u), .a (.b (false)), .a (.i .i64 (0 : Int)), .a (.l 0), .a (.i .i64 (n_a0 : Int)), .a (.l 1), .a (.i .i64 (n_a1 : Int)), .a (.b (((n_a0 : Int) != (n_a1 : Int)))), .a (.u), .a (.u), .a (.u), .a (.u), .a (.u), .a (.u), .a (.u), .a (.u), .a (.u), .a (.u), .a (.u), .a (.u), .a (.u), .a (.u), .a (.u), .a (.u)], [.sl (.came b_a0) n_a0 a0 61, .sl (.came b_a1) n_a1 a1 61], []⟩ : St)) N ([.a (.b (false)), .a (.i .i64 (0 : Int))], [])) (fun e s => (kBlock 0 (kSeq (veC Try.prog (mkΓ [(37, con laws_eqInt64A36_con)]) N (cAt (codeOf Try.f20) [1, 1, 1]) (pAt (mkPlan (codeOf Try.f20) [([4, 5], [])]).1 [1, 1, 1]) (SV × Eff × Bool)) (finK Try.prog [.sl (.came b_a0) n_a0 a0 61, .sl (.came b_a1) n_a1 a1 61] [.tmp 4]))) e (left (writes (cAt (codeOf Try.f20) [1, 1, 0, 1, 0, 0])) [4, 5] [] (⟨[.a (.l 0), .a (.l 1), .a (.u), .a (.u), .a (.b (false)), .a (.i .i64 (0 : Int)), .a (.l 0), .a (.i .i64 (n_a0 : Int)), .a (.l 1), .a (.i .i64 (n_a1 : Int)), .a (.b (((n_a0 : Int) != (n_a1 : Int)))), .a (.u), .a (.u), .a (.u), .a (.u), .a (.u), .a (.u), .a (.u), .a (.u), .a (.u), .a (.u), .a (.u), .a (.u), .a (.u), .a (.u), .a (.u), .a (.u)], [.sl (.came b_a0) n_a0 a0 61, .sl (.came b_a1) n_a1 a1 61], []⟩ : St) s)) = nodeX (iterO (laws_eqBounds_g0 Try.prog b_a0 n_a0 a0 b_a1 n_a1 a1) N (false, (0 : Int))) (st2 (fun x => laws_eqBounds_k0_0 Try.prog N b_a0 n_a0 a0 b_a1 n_a1 a1 x.1 x.2) (fun x => laws_eqBounds_k0_1 Try.prog N b_a0 n_a0 a0 b_a1 n_a1 a1 x.1 x.2)) := by
  refine loop_node laws_eqBounds_e0 laws_eqBounds_x0 _ _ (laws_eqBounds_s0 N b_a0 n_a0 a0 b_a1 n_a1 a1) N (false, (0 : Int)) _ _ ?_
  intro x
  cases x with
  | more x => exact laws_eqBounds_k0_0_eq N b_a0 n_a0 a0 b_a1 n_a1 a1 x.1 x.2
  | done x => exact laws_eqBounds_k0_1_eq N b_a0 n_a0 a0 b_a1 n_a1 a1 x.1 x.2

theorem laws_eqBounds_ans (N : Nat) (b_a0 : Option (Option Addr)) (n_a0 : Nat) (a0 : Array Value) (b_a1 : Option (Option Addr)) (n_a1 : Nat) (a1 : Array Value) : ansV Try.prog (mkΓ [(37, con laws_eqInt64A36_con)]) N Try.f20 [([4, 5], [])] [.l 0, .l 1] [.sl (.came b_a0) n_a0 a0 61, .sl (.came b_a1) n_a1 a1 61] = (bif ((n_a0 : Int) != (n_a1 : Int)) then (some (.a (.b (false)), .none, true))
    else (nodeX (iterO (laws_eqBounds_g0 Try.prog b_a0 n_a0 a0 b_a1 n_a1 a1) N (false, (0 : Int))) (st2 (fun x => laws_eqBounds_k0_0 Try.prog N b_a0 n_a0 a0 b_a1 n_a1 a1 x.1 x.2) (fun x => laws_eqBounds_k0_1 Try.prog N b_a0 n_a0 a0 b_a1 n_a1 a1 x.1 x.2)))) := by
  have h : ansV Try.prog (mkΓ [(37, con laws_eqInt64A36_con)]) N Try.f20 [([4, 5], [])] [.l 0, .l 1] [.sl (.came b_a0) n_a0 a0 61, .sl (.came b_a1) n_a1 a1 61] = (bif ((n_a0 : Int) != (n_a1 : Int)) then (some (.a (.b (false)), .none, true))
    else (bindX (iterO (stepV Try.prog (mkΓ [(37, con laws_eqInt64A36_con)]) N (cAt (codeOf Try.f20) [1, 1, 0, 1, 0, 0]) (pAt (mkPlan (codeOf Try.f20) [([4, 5], [])]).1 [1, 1, 0, 1, 0]) [4, 5] [] (⟨[.a (.l 0), .a (.l 1), .a (.u), .a (.u), .a (.b (false)), .a (.i .i64 (0 : Int)), .a (.l 0), .a (.i .i64 (n_a0 : Int)), .a (.l 1), .a (.i .i64 (n_a1 : Int)), .a (.b (((n_a0 : Int) != (n_a1 : Int)))), .a (.u), .a (.u), .a (.u), .a (.u), .a (.u), .a (.u), .a (.u), .a (.u), .a (.u), .a (.u), .a (.u), .a (.u), .a (.u), .a (.u), .a (.u), .a (.u)], [.sl (.came b_a0) n_a0 a0 61, .sl (.came b_a1) n_a1 a1 61], []⟩ : St)) N ([.a (.b (false)), .a (.i .i64 (0 : Int))], [])) (fun e s => (kBlock 0 (kSeq (veC Try.prog (mkΓ [(37, con laws_eqInt64A36_con)]) N (cAt (codeOf Try.f20) [1, 1, 1]) (pAt (mkPlan (codeOf Try.f20) [([4, 5], [])]).1 [1, 1, 1]) (SV × Eff × Bool)) (finK Try.prog [.sl (.came b_a0) n_a0 a0 61, .sl (.came b_a1) n_a1 a1 61] [.tmp 4]))) e (left (writes (cAt (codeOf Try.f20) [1, 1, 0, 1, 0, 0])) [4, 5] [] (⟨[.a (.l 0), .a (.l 1), .a (.u), .a (.u), .a (.b (false)), .a (.i .i64 (0 : Int)), .a (.l 0), .a (.i .i64 (n_a0 : Int)), .a (.l 1), .a (.i .i64 (n_a1 : Int)), .a (.b (((n_a0 : Int) != (n_a1 : Int)))), .a (.u), .a (.u), .a (.u), .a (.u), .a (.u), .a (.u), .a (.u), .a (.u), .a (.u), .a (.u), .a (.u), .a (.u), .a (.u), .a (.u), .a (.u), .a (.u)], [.sl (.came b_a0) n_a0 a0 61, .sl (.came b_a1) n_a1 a1 61], []⟩ : St) s)))) := by kernel_rfl
  refine h.trans ?_
  simp only [laws_eqBounds_n0 N b_a0 n_a0 a0 b_a1 n_a1 a1]

theorem laws_eqBounds_main (b_a0 : Option (Option Addr)) (n_a0 : Nat) (a0 : Array Value) (b_a1 : Option (Option Addr)) (n_a1 : Nat) (a1 : Array Value) (h_a0 : a0.size = n_a0 * (lay Try.prog 61).length ∧ (∀ k, k < n_a0 → WT Try.prog 61 (a0.extract (k * (lay Try.prog 61).length) (k * (lay Try.prog 61).length + (lay Try.prog 61).length))) ∧ n_a0 ≤ 9223372036854775807) (h_a1 : a1.size = n_a1 * (lay Try.prog 61).length ∧ (∀ k, k < n_a1 → WT Try.prog 61 (a1.extract (k * (lay Try.prog 61).length) (k * (lay Try.prog 61).length + (lay Try.prog 61).length))) ∧ n_a1 ≤ 9223372036854775807) (hg : (true) = true) : ansV Try.prog (mkΓ [(37, con laws_eqInt64A36_con)]) 18446744073709551616 Try.f20 [([4, 5], [])] [.l 0, .l 1] [.sl (.came b_a0) n_a0 a0 61, .sl (.came b_a1) n_a1 a1 61] = some (.a (.b ((decide (n_a0 = n_a1) && sameB a0 a1))), .none, true) := by
  have hm : (lay Try.prog 61).length = 36 := by kernel_rfl
  obtain ⟨s1, s2, s3⟩ := h_a0
  obtain ⟨t1, t2, t3⟩ := h_a1
  rw [hm] at s1 s2 t1 t2
  have hq : (lay Try.prog 61)[0]? = some 3 := by kernel_rfl
  refine (laws_eqBounds_ans 18446744073709551616 b_a0 n_a0 a0 b_a1 n_a1 a1).trans ?_
  by_cases hl : n_a0 = n_a1
  case neg =>
    rw [decide_eq_false hl, show ((n_a0 : Int) != (n_a1 : Int)) = true from bne_iff_ne.2 (by omega)]
    rfl
  subst hl
  rw [decide_eq_true rfl, show ((n_a0 : Int) != (n_a0 : Int)) = false from bne_self_eq_false _]
  simp only [cond_false, Bool.true_and]
  have hb : sameB a0 a1 = true ↔ ∀ k, k < n_a0 → (fun k => sameB (a0.extract (k * 36) (k * 36 + 36)) (a1.extract (k * 36) (k * 36 + 36))) k = true := by
    constructor
    · intro h k hk
      rw [sameB_iff.1 h]
      exact sameB_self _
    · intro h
      refine sameB_iff.2 ?_
      exact ext_parts (n := n_a0) (m := 36) (by omega) s1 t1 (fun k hk => sameB_iff.1 (h k hk))
  refine (iter_first (g := laws_eqBounds_g0 Try.prog b_a0 n_a0 a0 b_a1 n_a0 a1) (fun k => (false, (k : Int))) (fun k => sameB (a0.extract (k * 36) (k * 36 + 36)) (a1.extract (k * 36) (k * 36 + 36))) n_a0 (N := 18446744073709551616) (xd := .done (false, (n_a0 : Int))) (by omega) (fun k hk hp => by
    have h1 : decide ((k : Int) < (n_a0 : Int)) = true := decide_eq_true (by omega)
    have h0 : decide (0 ≤ (k : Int)) = true := decide_eq_true (by omega)
    have h3 : IntKind.i64.wrap ((k : Int) + 1) = ((k + 1 : Nat) : Int) := by rw [IntWalk.i64_in _ (by omega)]; omega
    have hp' : sameB (a0.extract (k * 36) (k * 36 + 36)) (a1.extract (k * 36) (k * 36 + 36)) = true := hp
    simp only [laws_eqBounds_g0, h1, h0, Bool.and_self, Int.toNat_natCast, cond_true, h3, hp', Bool.not_true, cond_false]) (by
    have h1 : decide ((n_a0 : Int) < (n_a0 : Int)) = false := decide_eq_false (by omega)
    simp only [laws_eqBounds_g0, h1, cond_false]) (sameB a0 a1) hb (some (.a (.b true), .none, true)) (some (.a (.b false), .none, true)) rfl (fun k hk hp => by
    refine ⟨.more (false, (k : Int)), ?_, rfl⟩
    have h1 : decide ((k : Int) < (n_a0 : Int)) = true := decide_eq_true (by omega)
    have h0 : decide (0 ≤ (k : Int)) = true := decide_eq_true (by omega)
    have hp' : sameB (a0.extract (k * 36) (k * 36 + 36)) (a1.extract (k * 36) (k * 36 + 36)) = false := hp
    simp only [laws_eqBounds_g0, h1, h0, Bool.and_self, Int.toNat_natCast, cond_true, hp', Bool.not_false])).trans ?_
  cases sameB a0 a1 <;> rfl
noncomputable def laws_eqBounds_con : Con := fun args h => match args, h with
  | [.l 0, .l 1], [.sl (.came b_a0) n_a0 a0 61, .sl (.came b_a1) n_a1 a1 61] => some (.a (.b ((decide (n_a0 = n_a1) && sameB a0 a1))), .none, true)
  | _, _ => none
theorem laws_eqBounds_enter : ∀ args w, (callFunc 20 args).run Try.prog w = .ok (.enter 20 args) w := enter_ok (fn := Try.f20) (by kernel_rfl) (by kernel_rfl) (by kernel_rfl)
theorem laws_eqBounds_ok : ConOk Try.prog 20 laws_eqBounds_con := (ans_ok (N := 18446744073709551616) (by kernel_rfl) (mkΓ_cons (con_ok laws_eqInt64A36_ok) laws_eqInt64A36_enter mkΓ_nil) (fn := Try.f20) (by kernel_rfl) (by kernel_rfl) [([4, 5], [])]).of (by
  intro ρ h w args vals r e hA hH hr
  unfold laws_eqBounds_con at hr
  split at hr
  · rename_i b_a0 n_a0 a0 b_a1 n_a1 a1
    obtain ⟨rfl, hg⟩ := Prod.mk.inj (Option.some.inj hr)
    obtain ⟨rfl, hg2⟩ := Prod.mk.inj hg
    exact laws_eqBounds_main b_a0 n_a0 a0 b_a1 n_a1 a1 (hH.slw 0 rfl) (hH.slw 1 rfl) hg2
  · cases hr)

end
end Go.Proofs.Ytmkkckhfghomfaa
