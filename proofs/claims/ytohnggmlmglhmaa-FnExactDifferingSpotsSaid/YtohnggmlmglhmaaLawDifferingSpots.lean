/- For every two seas spec and program tell the same spots at which they differ. -/
import Derived.Test.YtohnggmlmglhmaaRows
import Derived.Test.YtohnggmlmglhmaaChecked
import Derived.Test.YtohnggmlmglhmaaCqC
import Derived.Test.YtohnggmlmglhmaaLoX
namespace Go.Proofs.Ytohnggmlmglhmaa
open Go.ChangeShapes Go.WideShapes Go.ChangeAt Go.RowKit Ve Vc
set_option linter.unusedVariables false
set_option linter.unusedSimpArgs false
set_option maxRecDepth 100000
noncomputable section
variable {mn : Md}
theorem spN_le (A C : Array Value) : spN A C ≤ 72 := by
  unfold spN
  cases (pairC A C == (0 : Int)) with
  | false => exact Nat.zero_le _
  | true => exact dfT_len A C 2
theorem spA_size (A C : Array Value) : (spA A C).size = spN A C * 2 := by
  unfold spN spA
  cases (pairC A C == (0 : Int)) with
  | false => rfl
  | true => exact arrD_size _
noncomputable def laws_FnExactDifferingSpots_G : Cons := (mkΓw [(8, conSW laws_markSpotS_scon)] [(4, con spec_DifferingSpots_con), (5, con laws_toSea_con), (6, con impl_DifferingSpots_con), (7, con laws_eqSpotS_con), (9, con laws_heldSpotS_con)] [] [])
theorem laws_FnExactDifferingSpots_ans (N : Nat) (a0 : Array Value) (a1 : Array Value) : ansV Try.prog laws_FnExactDifferingSpots_G N Try.f3 [] [.g a0 28, .g a1 28] [] = (bif (!((decide (((spN a0 a1)) = ((spN a0 a1))) && sameB (spA a0 a1) (spA a0 a1)))) then (some (.a (.b (false)), .none, true))
    else (bif ((pairC a0 a1) != (pairC a0 a1)) then (some (.a (.b (false)), .none, true))
      else (bif Nat.beq ((spN a0 a1)) 0 then (bif ((Nat.ble ((spN a0 a1)) 100000) && ((decide (0 ≤ (1 : Int)) && decide ((1 : Int) ≤ 1000000)) && sameB (spA a0 a1) (mk8 (((spN a0 a1)) * 2) (1 : Int)))) then (bif decide (((1 : Int) + ((((spN a0 a1)) * 2 : Nat) : Int)) < (0 : Int)) then (some (.a (.b (false)), .none, true))
            else (bif (((1 : Int) + ((((spN a0 a1)) * 2 : Nat) : Int)) != (1 : Int)) then (some (.a (.b (false)), .none, true))
              else (bif (!((decide (((spN a0 a1)) = ((spN a0 a1))) && sameB (spA a0 a1) (spA a0 a1)))) then (some (.a (.b (false)), .none, true))
                else (bif ((pairC a0 a1) != (pairC a0 a1)) then (some (.a (.b (false)), .none, true))
                  else (bif ((Nat.ble ((spN a0 a1)) 100000) && ((decide (0 ≤ (1 : Int)) && decide ((1 : Int) ≤ 1000000)) && sameB (spA a0 a1) (mk8 (((spN a0 a1)) * 2) (1 : Int)))) then (bif decide (((1 : Int) + ((((spN a0 a1)) * 2 : Nat) : Int)) < (0 : Int)) then (some (.a (.b (false)), .none, true))
                      else (bif (((1 : Int) + ((((spN a0 a1)) * 2 : Nat) : Int)) != (1 : Int)) then (some (.a (.b (false)), .none, true))
                        else (some (.a (.b (true)), .none, true))))
                    else (none))))))
          else (none))
        else (bif ((Nat.ble ((spN a0 a1)) 100000) && (decide (0 ≤ (1 : Int)) && decide ((1 : Int) ≤ 1000000))) then (bif ((Nat.ble ((spN a0 a1)) 100000) && ((decide (0 ≤ (1 : Int)) && decide ((1 : Int) ≤ 1000000)) && sameB (mk8 (((spN a0 a1)) * 2) (1 : Int)) (mk8 (((spN a0 a1)) * 2) (1 : Int)))) then (bif decide (((1 : Int) + ((((spN a0 a1)) * 2 : Nat) : Int)) < (0 : Int)) then (some (.a (.b (false)), .none, true))
              else (bif (((1 : Int) + ((((spN a0 a1)) * 2 : Nat) : Int)) != ((1 : Int) + ((((spN a0 a1)) * 2 : Nat) : Int))) then (some (.a (.b (false)), .none, true))
                else (bif (!((decide (((spN a0 a1)) = ((spN a0 a1))) && sameB (spA a0 a1) (spA a0 a1)))) then (some (.a (.b (false)), .none, true))
                  else (bif ((pairC a0 a1) != (pairC a0 a1)) then (some (.a (.b (false)), .none, true))
                    else (bif ((Nat.ble ((spN a0 a1)) 100000) && ((decide (0 ≤ (1 : Int)) && decide ((1 : Int) ≤ 1000000)) && sameB (mk8 (((spN a0 a1)) * 2) (1 : Int)) (mk8 (((spN a0 a1)) * 2) (1 : Int)))) then (bif decide (((1 : Int) + ((((spN a0 a1)) * 2 : Nat) : Int)) < (0 : Int)) then (some (.a (.b (false)), .none, true))
                        else (bif (((1 : Int) + ((((spN a0 a1)) * 2 : Nat) : Int)) != ((1 : Int) + ((((spN a0 a1)) * 2 : Nat) : Int))) then (some (.a (.b (false)), .none, true))
                          else (some (.a (.b (true)), .none, true))))
                      else (none))))))
            else (none))
          else (none))))) := by kernel_rfl
noncomputable def laws_FnExactDifferingSpots_v0 (a0 : Array Value) (a1 : Array Value) : Bool := (bif (!((decide (((spN a0 a1)) = ((spN a0 a1))) && sameB (spA a0 a1) (spA a0 a1)))) then false else (bif ((pairC a0 a1) != (pairC a0 a1)) then false else (bif Nat.beq ((spN a0 a1)) 0 then (bif decide (((1 : Int) + ((((spN a0 a1)) * 2 : Nat) : Int)) < (0 : Int)) then false else (bif (((1 : Int) + ((((spN a0 a1)) * 2 : Nat) : Int)) != (1 : Int)) then false else (bif (!((decide (((spN a0 a1)) = ((spN a0 a1))) && sameB (spA a0 a1) (spA a0 a1)))) then false else (bif ((pairC a0 a1) != (pairC a0 a1)) then false else (bif decide (((1 : Int) + ((((spN a0 a1)) * 2 : Nat) : Int)) < (0 : Int)) then false else (bif (((1 : Int) + ((((spN a0 a1)) * 2 : Nat) : Int)) != (1 : Int)) then false else true)))))) else (bif decide (((1 : Int) + ((((spN a0 a1)) * 2 : Nat) : Int)) < (0 : Int)) then false else (bif (((1 : Int) + ((((spN a0 a1)) * 2 : Nat) : Int)) != ((1 : Int) + ((((spN a0 a1)) * 2 : Nat) : Int))) then false else (bif (!((decide (((spN a0 a1)) = ((spN a0 a1))) && sameB (spA a0 a1) (spA a0 a1)))) then false else (bif ((pairC a0 a1) != (pairC a0 a1)) then false else (bif decide (((1 : Int) + ((((spN a0 a1)) * 2 : Nat) : Int)) < (0 : Int)) then false else (bif (((1 : Int) + ((((spN a0 a1)) * 2 : Nat) : Int)) != ((1 : Int) + ((((spN a0 a1)) * 2 : Nat) : Int))) then false else true)))))))))
noncomputable def laws_FnExactDifferingSpots_gd (a0 : Array Value) (a1 : Array Value) : Bool := (bif (!((decide (((spN a0 a1)) = ((spN a0 a1))) && sameB (spA a0 a1) (spA a0 a1)))) then true else (bif ((pairC a0 a1) != (pairC a0 a1)) then true else (bif Nat.beq ((spN a0 a1)) 0 then (bif ((Nat.ble ((spN a0 a1)) 100000) && ((decide (0 ≤ (1 : Int)) && decide ((1 : Int) ≤ 1000000)) && sameB (spA a0 a1) (mk8 (((spN a0 a1)) * 2) (1 : Int)))) then (bif decide (((1 : Int) + ((((spN a0 a1)) * 2 : Nat) : Int)) < (0 : Int)) then true else (bif (((1 : Int) + ((((spN a0 a1)) * 2 : Nat) : Int)) != (1 : Int)) then true else (bif (!((decide (((spN a0 a1)) = ((spN a0 a1))) && sameB (spA a0 a1) (spA a0 a1)))) then true else (bif ((pairC a0 a1) != (pairC a0 a1)) then true else ((Nat.ble ((spN a0 a1)) 100000) && ((decide (0 ≤ (1 : Int)) && decide ((1 : Int) ≤ 1000000)) && sameB (spA a0 a1) (mk8 (((spN a0 a1)) * 2) (1 : Int)))))))) else false) else (bif ((Nat.ble ((spN a0 a1)) 100000) && (decide (0 ≤ (1 : Int)) && decide ((1 : Int) ≤ 1000000))) then (bif ((Nat.ble ((spN a0 a1)) 100000) && ((decide (0 ≤ (1 : Int)) && decide ((1 : Int) ≤ 1000000)) && sameB (mk8 (((spN a0 a1)) * 2) (1 : Int)) (mk8 (((spN a0 a1)) * 2) (1 : Int)))) then (bif decide (((1 : Int) + ((((spN a0 a1)) * 2 : Nat) : Int)) < (0 : Int)) then true else (bif (((1 : Int) + ((((spN a0 a1)) * 2 : Nat) : Int)) != ((1 : Int) + ((((spN a0 a1)) * 2 : Nat) : Int))) then true else (bif (!((decide (((spN a0 a1)) = ((spN a0 a1))) && sameB (spA a0 a1) (spA a0 a1)))) then true else (bif ((pairC a0 a1) != (pairC a0 a1)) then true else ((Nat.ble ((spN a0 a1)) 100000) && ((decide (0 ≤ (1 : Int)) && decide ((1 : Int) ≤ 1000000)) && sameB (mk8 (((spN a0 a1)) * 2) (1 : Int)) (mk8 (((spN a0 a1)) * 2) (1 : Int)))))))) else false) else false))))
theorem laws_FnExactDifferingSpots_main (a0 : Array Value) (a1 : Array Value) (h_a0 : WT Try.prog 28 a0) (h_a1 : WT Try.prog 28 a1) (hg : ((laws_FnExactDifferingSpots_gd a0 a1)) = true) : ansV Try.prog laws_FnExactDifferingSpots_G 1000 Try.f3 [] [.g a0 28, .g a1 28] [] = some (.a (.b ((laws_FnExactDifferingSpots_v0 a0 a1))), .none, true) := by
  refine (laws_FnExactDifferingSpots_ans 1000 a0 a1).trans ?_
  unfold laws_FnExactDifferingSpots_gd at hg
  unfold laws_FnExactDifferingSpots_v0
  revert hg
  generalize ((!((decide (((spN a0 a1)) = ((spN a0 a1))) && sameB (spA a0 a1) (spA a0 a1))))) = b2
  intro hg
  cases b2
  · skip
    revert hg
    generalize (((pairC a0 a1) != (pairC a0 a1))) = b4
    intro hg
    cases b4
    · skip
      revert hg
      generalize (Nat.beq ((spN a0 a1)) 0) = b6
      intro hg
      cases b6
      · skip
        revert hg
        generalize (((Nat.ble ((spN a0 a1)) 100000) && (decide (0 ≤ (1 : Int)) && decide ((1 : Int) ≤ 1000000)))) = b8
        intro hg
        cases b8
        · skip
          first | exact (nomatch (hg : false = true)) | (simp only [cond_true, cond_false, Bool.and_true, Bool.true_and, Bool.and_false, Bool.false_and]; done) | rfl
        · skip
          revert hg
          generalize (((Nat.ble ((spN a0 a1)) 100000) && ((decide (0 ≤ (1 : Int)) && decide ((1 : Int) ≤ 1000000)) && sameB (mk8 (((spN a0 a1)) * 2) (1 : Int)) (mk8 (((spN a0 a1)) * 2) (1 : Int))))) = b10
          intro hg
          cases b10
          · skip
            first | exact (nomatch (hg : false = true)) | (simp only [cond_true, cond_false, Bool.and_true, Bool.true_and, Bool.and_false, Bool.false_and]; done) | rfl
          · skip
            revert hg
            generalize (decide (((1 : Int) + ((((spN a0 a1)) * 2 : Nat) : Int)) < (0 : Int))) = b12
            intro hg
            cases b12
            · skip
              revert hg
              generalize ((((1 : Int) + ((((spN a0 a1)) * 2 : Nat) : Int)) != ((1 : Int) + ((((spN a0 a1)) * 2 : Nat) : Int)))) = b14
              intro hg
              cases b14
              · skip
                first | (simp only [cond_true, cond_false, Bool.and_true, Bool.true_and, Bool.and_false, Bool.false_and]; done) | rfl | exact (nomatch (hg : false = true))
              · skip
                first | (simp only [cond_true, cond_false, Bool.and_true, Bool.true_and, Bool.and_false, Bool.false_and]; done) | rfl | exact (nomatch (hg : false = true))
            · skip
              first | (simp only [cond_true, cond_false, Bool.and_true, Bool.true_and, Bool.and_false, Bool.false_and]; done) | rfl | exact (nomatch (hg : false = true))
      · skip
        revert hg
        generalize (((Nat.ble ((spN a0 a1)) 100000) && ((decide (0 ≤ (1 : Int)) && decide ((1 : Int) ≤ 1000000)) && sameB (spA a0 a1) (mk8 (((spN a0 a1)) * 2) (1 : Int))))) = b8
        intro hg
        cases b8
        · skip
          first | exact (nomatch (hg : false = true)) | (simp only [cond_true, cond_false, Bool.and_true, Bool.true_and, Bool.and_false, Bool.false_and]; done) | rfl
        · skip
          revert hg
          generalize (decide (((1 : Int) + ((((spN a0 a1)) * 2 : Nat) : Int)) < (0 : Int))) = b10
          intro hg
          cases b10
          · skip
            revert hg
            generalize ((((1 : Int) + ((((spN a0 a1)) * 2 : Nat) : Int)) != (1 : Int))) = b12
            intro hg
            cases b12
            · skip
              first | (simp only [cond_true, cond_false, Bool.and_true, Bool.true_and, Bool.and_false, Bool.false_and]; done) | rfl | exact (nomatch (hg : false = true))
            · skip
              first | (simp only [cond_true, cond_false, Bool.and_true, Bool.true_and, Bool.and_false, Bool.false_and]; done) | rfl | exact (nomatch (hg : false = true))
          · skip
            first | (simp only [cond_true, cond_false, Bool.and_true, Bool.true_and, Bool.and_false, Bool.false_and]; done) | rfl | exact (nomatch (hg : false = true))
    · skip
      first | (simp only [cond_true, cond_false, Bool.and_true, Bool.true_and, Bool.and_false, Bool.false_and]; done) | rfl | exact (nomatch (hg : false = true))
  · skip
    first | (simp only [cond_true, cond_false, Bool.and_true, Bool.true_and, Bool.and_false, Bool.false_and]; done) | rfl | exact (nomatch (hg : false = true))
noncomputable def laws_FnExactDifferingSpots_con : Con := fun args h => match args, h with
  | [.g a0 28, .g a1 28], [] => some (.a (.b ((laws_FnExactDifferingSpots_v0 a0 a1))), .none, (laws_FnExactDifferingSpots_gd a0 a1))
  | _, _ => none
theorem laws_FnExactDifferingSpots_ok : ConOkX mn Try.prog 3 laws_FnExactDifferingSpots_con := (ansX_ok (N := 1000) (by kernel_rfl) (mkΓw_sX (conSW_okX laws_markSpotS_sok) laws_markSpotS_enter (mkΓw_cX (con_okX spec_DifferingSpots_ok) spec_DifferingSpots_enter (mkΓw_cX (con_okX laws_toSea_ok) laws_toSea_enter (mkΓw_cX (con_okX impl_DifferingSpots_ok) impl_DifferingSpots_enter (mkΓw_cX (con_okX laws_eqSpotS_ok) laws_eqSpotS_enter (mkΓw_cX (con_okX laws_heldSpotS_ok) laws_heldSpotS_enter mkΓx_nilX)))))) (fn := Try.f3) (by kernel_rfl) (by kernel_rfl) []).of (by
  intro ρ h w args vals r e hA hH hr
  unfold laws_FnExactDifferingSpots_con at hr
  split at hr
  · rename_i a0 a1
    obtain ⟨rfl, hg⟩ := Prod.mk.inj (Option.some.inj hr)
    obtain ⟨rfl, hg2⟩ := Prod.mk.inj hg
    exact laws_FnExactDifferingSpots_main a0 a1 (hA.wt 0 rfl) (hA.wt 1 rfl) hg2
  · cases hr)
theorem laws_FnExactDifferingSpots_true (a0 : Array Value) (a1 : Array Value) (h_a0 : WT Try.prog 28 a0) (h_a1 : WT Try.prog 28 a1) : ((laws_FnExactDifferingSpots_gd a0 a1)) = true ∧ ((laws_FnExactDifferingSpots_v0 a0 a1)) = true := by
  have hN := spN_le a0 a1
  have hD := spA_size a0 a1
  unfold laws_FnExactDifferingSpots_gd laws_FnExactDifferingSpots_v0
  generalize spN a0 a1 = n at hN hD ⊢
  generalize spA a0 a1 = D at hD ⊢
  generalize pairC a0 a1 = c
  have b1 : Nat.ble n 100000 = true := Nat.ble_eq_true_of_le (by omega)
  have c1 : decide (((1 : Int) + ((n * 2 : Nat) : Int)) < (0 : Int)) = false := decide_eq_false (by omega)
  have c2 : decide (0 ≤ (1 : Int)) = true := rfl
  have c3 : decide ((1 : Int) ≤ 1000000) = true := rfl
  have c6 : decide ((1 : Int) < 0) = false := rfl
  have e1 : (0 : Nat) = 0 := rfl
  cases hz : Nat.beq n 0
  case true =>
    obtain rfl := Nat.eq_of_beq_eq_true hz
    obtain rfl : D = #[] := Array.eq_empty_of_size_eq_zero (by rw [hD])
    have c4 : ((1 : Int) + ((0 * 2 : Nat) : Int) != (1 : Int)) = false := rfl
    have c5 : mk8 (0 * 2) (1 : Int) = (#[] : Array Value) := rfl
    simp only [c4, c5, b1, e1, c1, c2, c3, c6, hz, decide_true, Bool.and_self, sameB_self, bne_self_eq_false, Bool.not_true, cond_false, cond_true, and_self]
  all_goals simp only [b1, e1, c1, c2, c3, c6, hz, decide_true, Bool.and_self, sameB_self, bne_self_eq_false, Bool.not_true, cond_false, cond_true, and_self]
namespace lawFnExactDifferingSpots
theorem lifted (os : Os) (started : os.Started) (H : Type) (enc : TypeId × Value → H) :
    ReturnsInHanded {} Try.checked os 3 .any (Rows.fnExactDifferingSpotsSpec.pre6 enc Try.prog Try.f3 Rows.fnExactDifferingSpotsRow.domain false) (Rows.fnExactDifferingSpotsSpec.post enc Try.prog Try.f3 false true false false) := by
  refine law_alone (C := Try.checked) (tb := 4) (by kernel_rfl) (by kernel_rfl) Try.func3 (by kernel_rfl) Try.underlying4 (of_decide_eq_true (by kernel_rfl)) rfl ?_ os started H enc
    (ChangeSpec.witness6 (enc := enc) (C := Try.checked) false ⟨#[], #[.agg (zc Try.prog 28), .agg (zc Try.prog 28)], []⟩ 8 (by kernel_rfl) (by kernel_rfl) (by kernel_rfl) (by kernel_rfl)) ?_
  · intro H ds hds
    rw [show Try.f3.params.toList.length = 2 by kernel_rfl] at hds
    match ds, hds with
    | [_, _], _ => rfl
  · intro W base args ds ps hval hA
    rw [Try.params3] at hA hval
    obtain ⟨v0, v1, d0, d1, p0, p1, hargs, rfl, rfl, h0, h1⟩ := trodAll_two hA
    obtain ⟨a0, e0, w0⟩ := open_data (t := 28) 8 (by kernel_rfl) (by kernel_rfl) (hval 0 28 v0 rfl (by rw [hargs]; rfl)) h0
    obtain ⟨a1, e1, w1⟩ := open_data (t := 28) 8 (by kernel_rfl) (by kernel_rfl) (hval 1 28 v1 rfl (by rw [hargs]; rfl)) h1
    obtain rfl : args = #[.agg a0, .agg a1] := by rw [hargs, e0, e1]
    obtain ⟨hg, hv⟩ := laws_FnExactDifferingSpots_true a0 a1 w0 w1
    have hr : laws_FnExactDifferingSpots_con [.g a0 28, .g a1 28] [] = some (.a (.b true), .none, true) := by
      show (some (SV.a (SA.b ((laws_FnExactDifferingSpots_v0 a0 a1))), Eff.none, (laws_FnExactDifferingSpots_gd a0 a1)) : Option (SV × Eff × Bool)) = _
      rw [hg, hv]
    exact endsL_con2 (by kernel_rfl) laws_FnExactDifferingSpots_ok (hh := []) (by kernel_rfl) hr W (vals := [.agg a0, .agg a1]) .nil (allCons2 ⟨rfl, w0⟩ (allCons2 ⟨rfl, w1⟩ (allNil2 _)))
theorem over : Rows.fnExactDifferingSpotsRow.holds Try.pinned (OpenSpec.ofChange Rows.fnExactDifferingSpotsSpec) :=
  OpenClaim.holds_of_wide 3 Try.f3 rfl rfl rfl rfl rfl rfl rfl ⟨rfl, rfl, rfl, rfl, rfl⟩ rfl rfl rfl rfl rfl (by kernel_rfl) Try.func3 (by kernel_rfl)
    (of_decide_eq_true (by kernel_rfl)) (by unfold Func.isWrapper; first | (rw [if_pos (by decide +kernel)]; kernel_rfl) | (rw [if_neg (by decide +kernel)]; exact ⟨rfl, rfl⟩))
    (fun os started H enc _ => lifted os started H enc)
theorem proved : Rows.FnExactDifferingSpotsSaid := over
#print axioms proved
end lawFnExactDifferingSpots
end
end Go.Proofs.Ytohnggmlmglhmaa
