/- For every sea, spread and set of cells spec and program answer the same share. -/
import Derived.Test.YtjihfoifdloaeaaRows
import Derived.Test.YtjihfoifdloaeaaChecked
import Derived.Test.YtjihfoifdloaeaaBase
import Derived.Test.YtjihfoifdloaeaaVeShare
namespace Go.Proofs.Ytjihfoifdloaeaa
open Go.ChangeShapes Go.WideShapes Go.ChangeAt Go.RowKit Ve
set_option linter.unusedVariables false
set_option linter.unusedSimpArgs false
set_option maxRecDepth 100000
noncomputable section
theorem impl_hasCells_ans (N : Nat) (a0 : Array Value) (a1 : Int) : ansV Try.prog (mkΓ [(82, con impl_cellBits_con)]) N Try.f62 [] [.g a0 40, .i .u64 (a1)] [] = (bif (okS a0) then (some (.a (.b (((IntKind.u64.wrap (BitVec.ofInt IntKind.u64.bits a1 &&& ~~~(BitVec.ofInt IntKind.u64.bits (cellsOf a0))).toNat) == (0 : Int)))), .none, true))
    else (none)) := by kernel_rfl

noncomputable def impl_hasCells_v0 (a0 : Array Value) (a1 : Int) : Bool := ((IntKind.u64.wrap (BitVec.ofInt IntKind.u64.bits a1 &&& ~~~(BitVec.ofInt IntKind.u64.bits (cellsOf a0))).toNat) == (0 : Int))

theorem impl_hasCells_main (a0 : Array Value) (a1 : Int) (h_a0 : WT Try.prog 40 a0) (h_a1 : IntKind.u64.min ≤ a1 ∧ a1 ≤ IntKind.u64.max) (hg : ((okS a0)) = true) : ansV Try.prog (mkΓ [(82, con impl_cellBits_con)]) 1000 Try.f62 [] [.g a0 40, .i .u64 (a1)] [] = some (.a (.b ((impl_hasCells_v0 a0 a1))), .none, true) := by
  refine (impl_hasCells_ans 1000 a0 a1).trans ?_
  unfold impl_hasCells_v0
  revert hg
  generalize ((okS a0)) = b2
  intro hg
  cases b2
  · skip
    first | exact (nomatch (hg : false = true)) | (simp only [cond_true, cond_false, Bool.and_true, Bool.true_and, Bool.and_false, Bool.false_and]; done) | rfl
  · skip
    first | (simp only [cond_true, cond_false, Bool.and_true, Bool.true_and, Bool.and_false, Bool.false_and]; done) | rfl | exact (nomatch (hg : false = true))
noncomputable def impl_hasCells_con : Con := fun args h => match args, h with
  | [.g a0 40, .i .u64 a1], [] => some (.a (.b ((impl_hasCells_v0 a0 a1))), .none, (okS a0))
  | _, _ => none
theorem impl_hasCells_enter : ∀ args w, (callFunc 62 args).run Try.prog w = .ok (.enter 62 args) w := enter_ok (fn := Try.f62) (by kernel_rfl) (by kernel_rfl) (by kernel_rfl)
theorem impl_hasCells_ok : ConOk Try.prog 62 impl_hasCells_con := (ans_ok (N := 1000) (by kernel_rfl) (mkΓ_cons (con_ok impl_cellBits_ok) impl_cellBits_enter mkΓ_nil) (fn := Try.f62) (by kernel_rfl) (by kernel_rfl) []).of (by
  intro ρ h w args vals r e hA hH hr
  unfold impl_hasCells_con at hr
  split at hr
  · rename_i a0 a1
    obtain ⟨rfl, hg⟩ := Prod.mk.inj (Option.some.inj hr)
    obtain ⟨rfl, hg2⟩ := Prod.mk.inj hg
    exact impl_hasCells_main a0 a1 (hA.wt 0 rfl) (hA.rng 1 rfl) hg2
  · cases hr)

theorem spec_ShareIn_ans (N : Nat) (a0 : Array Value) (a1 : Array Value) (a2 : Int) : ansV Try.prog (mkΓ [(60, con spec_l01Cells_con), (65, con spec_l02Asked_con), (66, con spec_l02Sum_con), (70, con spec_l02Share_con), (71, con spec_l02All_con)]) N Try.f30 [] [.g a0 40, .g a1 42, .i .u64 (a2)] [] = (bif ((spec_l02Asked_v0 a0 a1) != (0 : Int)) then (some (.t [.g #[.int .i64 (0 : Int), .int .i64 (0 : Int)] 53, .i .i64 (spec_l02Asked_v0 a0 a1)], .none, true))
    else (bif ((IntKind.u64.wrap (BitVec.ofInt IntKind.u64.bits a2 &&& ~~~(BitVec.ofInt IntKind.u64.bits (cellsOf a0))).toNat) != (0 : Int)) then (some (.t [.g #[.int .i64 (0 : Int), .int .i64 (0 : Int)] 53, .i .i64 (2 : Int)], .none, true))
      else (bif (spec_l02All_gd a1) then (bif (spec_l02Share_gd (maskW (bitS a2) a1 36) (spec_l02All_v0 a1)) then (some (.t [.g #[.int .i64 (IntKind.i64.wrap (((maskW (bitS a2) a1 36)).tdiv (gcdW (maskW (bitS a2) a1 36) (spec_l02All_v0 a1)))), .int .i64 (IntKind.i64.wrap (((spec_l02All_v0 a1)).tdiv (gcdW (maskW (bitS a2) a1 36) (spec_l02All_v0 a1))))] 53, .i .i64 (0 : Int)], .none, true))
          else (none))
        else (none)))) := by kernel_rfl

noncomputable def spec_ShareIn_v0 (a0 : Array Value) (a1 : Array Value) (a2 : Int) : Array Value := (bif ((spec_l02Asked_v0 a0 a1) != (0 : Int)) then (#[.int .i64 (0 : Int), .int .i64 (0 : Int)] : Array Value) else (bif ((IntKind.u64.wrap (BitVec.ofInt IntKind.u64.bits a2 &&& ~~~(BitVec.ofInt IntKind.u64.bits (cellsOf a0))).toNat) != (0 : Int)) then (#[.int .i64 (0 : Int), .int .i64 (0 : Int)] : Array Value) else (#[.int .i64 (IntKind.i64.wrap (((maskW (bitS a2) a1 36)).tdiv (gcdW (maskW (bitS a2) a1 36) (spec_l02All_v0 a1)))), .int .i64 (IntKind.i64.wrap (((spec_l02All_v0 a1)).tdiv (gcdW (maskW (bitS a2) a1 36) (spec_l02All_v0 a1))))] : Array Value)))
noncomputable def spec_ShareIn_v1 (a0 : Array Value) (a1 : Array Value) (a2 : Int) : Int := (bif ((spec_l02Asked_v0 a0 a1) != (0 : Int)) then (spec_l02Asked_v0 a0 a1) else (bif ((IntKind.u64.wrap (BitVec.ofInt IntKind.u64.bits a2 &&& ~~~(BitVec.ofInt IntKind.u64.bits (cellsOf a0))).toNat) != (0 : Int)) then (2 : Int) else (0 : Int)))
noncomputable def spec_ShareIn_gd (a0 : Array Value) (a1 : Array Value) (a2 : Int) : Bool := (bif ((spec_l02Asked_v0 a0 a1) != (0 : Int)) then true else (bif ((IntKind.u64.wrap (BitVec.ofInt IntKind.u64.bits a2 &&& ~~~(BitVec.ofInt IntKind.u64.bits (cellsOf a0))).toNat) != (0 : Int)) then true else (bif (spec_l02All_gd a1) then (spec_l02Share_gd (maskW (bitS a2) a1 36) (spec_l02All_v0 a1)) else false)))

theorem spec_ShareIn_main (a0 : Array Value) (a1 : Array Value) (a2 : Int) (h_a0 : WT Try.prog 40 a0) (h_a1 : WT Try.prog 42 a1) (h_a2 : IntKind.u64.min ≤ a2 ∧ a2 ≤ IntKind.u64.max) (hg : ((spec_ShareIn_gd a0 a1 a2)) = true) : ansV Try.prog (mkΓ [(60, con spec_l01Cells_con), (65, con spec_l02Asked_con), (66, con spec_l02Sum_con), (70, con spec_l02Share_con), (71, con spec_l02All_con)]) 1000 Try.f30 [] [.g a0 40, .g a1 42, .i .u64 (a2)] [] = some (.t [.g (spec_ShareIn_v0 a0 a1 a2) 53, .i .i64 (spec_ShareIn_v1 a0 a1 a2)], .none, true) := by
  refine (spec_ShareIn_ans 1000 a0 a1 a2).trans ?_
  unfold spec_ShareIn_gd at hg
  unfold spec_ShareIn_v0 spec_ShareIn_v1
  revert hg
  generalize (((spec_l02Asked_v0 a0 a1) != (0 : Int))) = b2
  intro hg
  cases b2
  · skip
    revert hg
    generalize (((IntKind.u64.wrap (BitVec.ofInt IntKind.u64.bits a2 &&& ~~~(BitVec.ofInt IntKind.u64.bits (cellsOf a0))).toNat) != (0 : Int))) = b4
    intro hg
    cases b4
    · skip
      revert hg
      generalize ((spec_l02All_gd a1)) = b6
      intro hg
      cases b6
      · skip
        first | exact (nomatch (hg : false = true)) | (simp only [cond_true, cond_false, Bool.and_true, Bool.true_and, Bool.and_false, Bool.false_and]; done) | rfl
      · skip
        revert hg
        generalize ((spec_l02Share_gd (maskW (bitS a2) a1 36) (spec_l02All_v0 a1))) = b8
        intro hg
        cases b8
        · skip
          first | exact (nomatch (hg : false = true)) | (simp only [cond_true, cond_false, Bool.and_true, Bool.true_and, Bool.and_false, Bool.false_and]; done) | rfl
        · skip
          first | (simp only [cond_true, cond_false, Bool.and_true, Bool.true_and, Bool.and_false, Bool.false_and]; done) | rfl | exact (nomatch (hg : false = true))
    · skip
      first | (simp only [cond_true, cond_false, Bool.and_true, Bool.true_and, Bool.and_false, Bool.false_and]; done) | rfl | exact (nomatch (hg : false = true))
  · skip
    first | (simp only [cond_true, cond_false, Bool.and_true, Bool.true_and, Bool.and_false, Bool.false_and]; done) | rfl | exact (nomatch (hg : false = true))
noncomputable def spec_ShareIn_con : Con := fun args h => match args, h with
  | [.g a0 40, .g a1 42, .i .u64 a2], [] => some (.t [.g (spec_ShareIn_v0 a0 a1 a2) 53, .i .i64 (spec_ShareIn_v1 a0 a1 a2)], .none, (spec_ShareIn_gd a0 a1 a2))
  | _, _ => none
theorem spec_ShareIn_enter : ∀ args w, (callFunc 30 args).run Try.prog w = .ok (.enter 30 args) w := enter_ok (fn := Try.f30) (by kernel_rfl) (by kernel_rfl) (by kernel_rfl)
theorem spec_ShareIn_ok : ConOk Try.prog 30 spec_ShareIn_con := (ans_ok (N := 1000) (by kernel_rfl) (mkΓ_cons (con_ok spec_l01Cells_ok) spec_l01Cells_enter (mkΓ_cons (con_ok spec_l02Asked_ok) spec_l02Asked_enter (mkΓ_cons (con_ok spec_l02Sum_ok) spec_l02Sum_enter (mkΓ_cons (con_ok spec_l02Share_ok) spec_l02Share_enter (mkΓ_cons (con_ok spec_l02All_ok) spec_l02All_enter mkΓ_nil))))) (fn := Try.f30) (by kernel_rfl) (by kernel_rfl) []).of (by
  intro ρ h w args vals r e hA hH hr
  unfold spec_ShareIn_con at hr
  split at hr
  · rename_i a0 a1 a2
    obtain ⟨rfl, hg⟩ := Prod.mk.inj (Option.some.inj hr)
    obtain ⟨rfl, hg2⟩ := Prod.mk.inj hg
    exact spec_ShareIn_main a0 a1 a2 (hA.wt 0 rfl) (hA.wt 1 rfl) (hA.rng 2 rfl) hg2
  · cases hr)

theorem impl_ShareIn_ans (N : Nat) (a0 : Array Value) (a1 : Array Value) (a2 : Int) : ansV Try.prog (mkΓ [(62, con impl_hasCells_con), (67, con impl_spreadCode_con), (68, con impl_amountIn_con), (72, con impl_shareOf_con), (73, con impl_allOf_con)]) N Try.f31 [] [.g a0 40, .g a1 42, .i .u64 (a2)] [] = (bif (impl_ValidSpread_gd a0 a1) then (bif ((impl_spreadCode_v0 a0 a1) != (0 : Int)) then (some (.t [.g #[.int .i64 (0 : Int), .int .i64 (0 : Int)] 53, .i .i64 (impl_spreadCode_v0 a0 a1)], .none, true))
      else (bif (okS a0) then (bif (!((impl_hasCells_v0 a0 a2))) then (some (.t [.g #[.int .i64 (0 : Int), .int .i64 (0 : Int)] 53, .i .i64 (2 : Int)], .none, true))
          else (bif (impl_allOf_gd a1) then (bif (impl_shareOf_gd (maskW (bitI a2) a1 36) (impl_allOf_v0 a1)) then (some (.t [.g (impl_shareOf_v0 (maskW (bitI a2) a1 36) (impl_allOf_v0 a1)) 53, .i .i64 (0 : Int)], .none, true))
              else (none))
            else (none)))
        else (none)))
    else (none)) := by kernel_rfl

noncomputable def impl_ShareIn_v0 (a0 : Array Value) (a1 : Array Value) (a2 : Int) : Array Value := (bif ((impl_spreadCode_v0 a0 a1) != (0 : Int)) then (#[.int .i64 (0 : Int), .int .i64 (0 : Int)] : Array Value) else (bif (!((impl_hasCells_v0 a0 a2))) then (#[.int .i64 (0 : Int), .int .i64 (0 : Int)] : Array Value) else (impl_shareOf_v0 (maskW (bitI a2) a1 36) (impl_allOf_v0 a1))))
noncomputable def impl_ShareIn_v1 (a0 : Array Value) (a1 : Array Value) (a2 : Int) : Int := (bif ((impl_spreadCode_v0 a0 a1) != (0 : Int)) then (impl_spreadCode_v0 a0 a1) else (bif (!((impl_hasCells_v0 a0 a2))) then (2 : Int) else (0 : Int)))
noncomputable def impl_ShareIn_gd (a0 : Array Value) (a1 : Array Value) (a2 : Int) : Bool := (bif (impl_ValidSpread_gd a0 a1) then (bif ((impl_spreadCode_v0 a0 a1) != (0 : Int)) then true else (bif (okS a0) then (bif (!((impl_hasCells_v0 a0 a2))) then true else (bif (impl_allOf_gd a1) then (impl_shareOf_gd (maskW (bitI a2) a1 36) (impl_allOf_v0 a1)) else false)) else false)) else false)

theorem impl_ShareIn_main (a0 : Array Value) (a1 : Array Value) (a2 : Int) (h_a0 : WT Try.prog 40 a0) (h_a1 : WT Try.prog 42 a1) (h_a2 : IntKind.u64.min ≤ a2 ∧ a2 ≤ IntKind.u64.max) (hg : ((impl_ShareIn_gd a0 a1 a2)) = true) : ansV Try.prog (mkΓ [(62, con impl_hasCells_con), (67, con impl_spreadCode_con), (68, con impl_amountIn_con), (72, con impl_shareOf_con), (73, con impl_allOf_con)]) 1000 Try.f31 [] [.g a0 40, .g a1 42, .i .u64 (a2)] [] = some (.t [.g (impl_ShareIn_v0 a0 a1 a2) 53, .i .i64 (impl_ShareIn_v1 a0 a1 a2)], .none, true) := by
  refine (impl_ShareIn_ans 1000 a0 a1 a2).trans ?_
  unfold impl_ShareIn_gd at hg
  unfold impl_ShareIn_v0 impl_ShareIn_v1
  revert hg
  generalize ((impl_ValidSpread_gd a0 a1)) = b2
  intro hg
  cases b2
  · skip
    first | exact (nomatch (hg : false = true)) | (simp only [cond_true, cond_false, Bool.and_true, Bool.true_and, Bool.and_false, Bool.false_and]; done) | rfl
  · skip
    revert hg
    generalize (((impl_spreadCode_v0 a0 a1) != (0 : Int))) = b4
    intro hg
    cases b4
    · skip
      revert hg
      generalize ((okS a0)) = b6
      intro hg
      cases b6
      · skip
        first | exact (nomatch (hg : false = true)) | (simp only [cond_true, cond_false, Bool.and_true, Bool.true_and, Bool.and_false, Bool.false_and]; done) | rfl
      · skip
        revert hg
        generalize ((!((impl_hasCells_v0 a0 a2)))) = b8
        intro hg
        cases b8
        · skip
          revert hg
          generalize ((impl_allOf_gd a1)) = b10
          intro hg
          cases b10
          · skip
            first | exact (nomatch (hg : false = true)) | (simp only [cond_true, cond_false, Bool.and_true, Bool.true_and, Bool.and_false, Bool.false_and]; done) | rfl
          · skip
            revert hg
            generalize ((impl_shareOf_gd (maskW (bitI a2) a1 36) (impl_allOf_v0 a1))) = b12
            intro hg
            cases b12
            · skip
              first | exact (nomatch (hg : false = true)) | (simp only [cond_true, cond_false, Bool.and_true, Bool.true_and, Bool.and_false, Bool.false_and]; done) | rfl
            · skip
              first | (simp only [cond_true, cond_false, Bool.and_true, Bool.true_and, Bool.and_false, Bool.false_and]; done) | rfl | exact (nomatch (hg : false = true))
        · skip
          first | (simp only [cond_true, cond_false, Bool.and_true, Bool.true_and, Bool.and_false, Bool.false_and]; done) | rfl | exact (nomatch (hg : false = true))
    · skip
      first | (simp only [cond_true, cond_false, Bool.and_true, Bool.true_and, Bool.and_false, Bool.false_and]; done) | rfl | exact (nomatch (hg : false = true))
noncomputable def impl_ShareIn_con : Con := fun args h => match args, h with
  | [.g a0 40, .g a1 42, .i .u64 a2], [] => some (.t [.g (impl_ShareIn_v0 a0 a1 a2) 53, .i .i64 (impl_ShareIn_v1 a0 a1 a2)], .none, (impl_ShareIn_gd a0 a1 a2))
  | _, _ => none
theorem impl_ShareIn_enter : ∀ args w, (callFunc 31 args).run Try.prog w = .ok (.enter 31 args) w := enter_ok (fn := Try.f31) (by kernel_rfl) (by kernel_rfl) (by kernel_rfl)
theorem impl_ShareIn_ok : ConOk Try.prog 31 impl_ShareIn_con := (ans_ok (N := 1000) (by kernel_rfl) (mkΓ_cons (con_ok impl_hasCells_ok) impl_hasCells_enter (mkΓ_cons (con_ok impl_spreadCode_ok) impl_spreadCode_enter (mkΓ_cons (con_ok impl_amountIn_ok) impl_amountIn_enter (mkΓ_cons (con_ok impl_shareOf_ok) impl_shareOf_enter (mkΓ_cons (con_ok impl_allOf_ok) impl_allOf_enter mkΓ_nil))))) (fn := Try.f31) (by kernel_rfl) (by kernel_rfl) []).of (by
  intro ρ h w args vals r e hA hH hr
  unfold impl_ShareIn_con at hr
  split at hr
  · rename_i a0 a1 a2
    obtain ⟨rfl, hg⟩ := Prod.mk.inj (Option.some.inj hr)
    obtain ⟨rfl, hg2⟩ := Prod.mk.inj hg
    exact impl_ShareIn_main a0 a1 a2 (hA.wt 0 rfl) (hA.wt 1 rfl) (hA.rng 2 rfl) hg2
  · cases hr)


theorem sumC_mono {D : Array Value} (hc : ∀ k, k < 36 → 0 ≤ num D (3 + k * 1)) : ∀ j k, k + j = 36 → sumC D k ≤ sumC D 36
  | 0, k, h => by rw [show k = 36 by omega]; exact Int.le_refl _
  | j + 1, k, h => by
    have h1 := sumC_mono hc j (k + 1) (by omega)
    have h2 := hc k (by omega)
    have h3 : sumC D (k + 1) = sumC D k + num D (3 + k * 1) := rfl
    omega
theorem sp_cells {S D : Array Value} (h : specSp S D = true) : (∀ k, k < 36 → 0 ≤ num D (3 + k * 1)) ∧ sumC D 36 ≤ 9223372036854775807 := by
  obtain ⟨f1, f2, f3⟩ := sp_facts h
  have hA := allW_in f1 f2
  have hl := in_range f3
  unfold specSp at h
  cases h0 : spec_l00In_v0 (IntKind.i64.wrap (num D 0)) 0 1 with
  | false => rw [h0] at h; exact nomatch h
  | true =>
    rw [h0, f1, f2, f3] at h
    have hw : IntKind.i64.wrap (allW D - num D 39) = allW D - num D 39 := by rw [IntWalk.i64_in _ (by omega)]
    rw [hw] at h
    simp only [Bool.not_true, cond_false, Bool.and_eq_true, beq_iff_eq] at h
    have hp := fun k hk => pS_iff.1 ((allB_iff _).1 h.1 k hk)
    obtain ⟨e1, e2, e3⟩ := left_run (X := allW D - num D 39) (D := D) (by omega) 36 (fun i hi => (hp i hi).1)
    exact ⟨fun k hk => (hp k hk).1.1, by omega⟩
theorem maskW_in {D : Array Value} (b : Nat → Bool) (hc : ∀ k, k < 36 → 0 ≤ num D (3 + k * 1)) (hs : sumC D 36 ≤ 9223372036854775807) : ∀ k, k ≤ 36 → 0 ≤ maskW b D k ∧ maskW b D k ≤ sumC D k
  | 0, _ => ⟨Int.le_refl _, Int.le_refl _⟩
  | k + 1, hk => by
    have h1 := maskW_in b hc hs k (by omega)
    have h2 := hc k (by omega)
    have h3 : sumC D (k + 1) = sumC D k + num D (3 + k * 1) := rfl
    have h4 := sumC_mono hc (35 - k) (k + 1) (by omega)
    have h5 : maskW b D (k + 1) = bif b k then IntKind.i64.wrap (maskW b D k + num D (3 + k * 1)) else maskW b D k := rfl
    rw [h5]
    cases b k
    · exact ⟨h1.1, by show maskW b D k ≤ _; omega⟩
    · show 0 ≤ IntKind.i64.wrap (maskW b D k + num D (3 + k * 1)) ∧ IntKind.i64.wrap (maskW b D k + num D (3 + k * 1)) ≤ _
      rw [IntWalk.i64_in _ (by omega)]
      omega

theorem laws_FnExactShareIn_ans (N : Nat) (a0 : Array Value) (a1 : Array Value) (a2 : Int) : ansV Try.prog (mkΓ [(18, con laws_toSea_con), (19, con laws_toSpread_con), (30, con spec_ShareIn_con), (31, con impl_ShareIn_con), (32, con laws_eqShare_con)]) N Try.f9 [] [.g a0 31, .g a1 34, .i .u64 (a2)] [] = (bif (spec_ShareIn_gd a0 a1 a2) then (bif (impl_ShareIn_gd a0 a1 a2) then (bif (!((laws_eqShare_v0 (impl_ShareIn_v0 a0 a1 a2) (spec_ShareIn_v0 a0 a1 a2)))) then (some (.a (.b (false)), .none, true))
        else (bif ((impl_ShareIn_v1 a0 a1 a2) != (spec_ShareIn_v1 a0 a1 a2)) then (some (.a (.b (false)), .none, true))
          else (some (.a (.b (true)), .none, true))))
      else (none))
    else (none)) := by kernel_rfl

noncomputable def laws_FnExactShareIn_v0 (a0 : Array Value) (a1 : Array Value) (a2 : Int) : Bool := (bif (!((laws_eqShare_v0 (impl_ShareIn_v0 a0 a1 a2) (spec_ShareIn_v0 a0 a1 a2)))) then false else (bif ((impl_ShareIn_v1 a0 a1 a2) != (spec_ShareIn_v1 a0 a1 a2)) then false else true))
noncomputable def laws_FnExactShareIn_gd (a0 : Array Value) (a1 : Array Value) (a2 : Int) : Bool := (bif (spec_ShareIn_gd a0 a1 a2) then (impl_ShareIn_gd a0 a1 a2) else false)

theorem laws_FnExactShareIn_main (a0 : Array Value) (a1 : Array Value) (a2 : Int) (h_a0 : WT Try.prog 31 a0) (h_a1 : WT Try.prog 34 a1) (h_a2 : IntKind.u64.min ≤ a2 ∧ a2 ≤ IntKind.u64.max) (hg : ((laws_FnExactShareIn_gd a0 a1 a2)) = true) : ansV Try.prog (mkΓ [(18, con laws_toSea_con), (19, con laws_toSpread_con), (30, con spec_ShareIn_con), (31, con impl_ShareIn_con), (32, con laws_eqShare_con)]) 1000 Try.f9 [] [.g a0 31, .g a1 34, .i .u64 (a2)] [] = some (.a (.b ((laws_FnExactShareIn_v0 a0 a1 a2))), .none, true) := by
  refine (laws_FnExactShareIn_ans 1000 a0 a1 a2).trans ?_
  unfold laws_FnExactShareIn_gd at hg
  unfold laws_FnExactShareIn_v0
  revert hg
  generalize ((spec_ShareIn_gd a0 a1 a2)) = b2
  intro hg
  cases b2
  · skip
    first | exact (nomatch (hg : false = true)) | (simp only [cond_true, cond_false, Bool.and_true, Bool.true_and, Bool.and_false, Bool.false_and]; done) | rfl
  · skip
    revert hg
    generalize ((impl_ShareIn_gd a0 a1 a2)) = b4
    intro hg
    cases b4
    · skip
      first | exact (nomatch (hg : false = true)) | (simp only [cond_true, cond_false, Bool.and_true, Bool.true_and, Bool.and_false, Bool.false_and]; done) | rfl
    · skip
      revert hg
      generalize ((!((laws_eqShare_v0 (impl_ShareIn_v0 a0 a1 a2) (spec_ShareIn_v0 a0 a1 a2))))) = b6
      intro hg
      cases b6
      · skip
        revert hg
        generalize (((impl_ShareIn_v1 a0 a1 a2) != (spec_ShareIn_v1 a0 a1 a2))) = b8
        intro hg
        cases b8
        · skip
          first | (simp only [cond_true, cond_false, Bool.and_true, Bool.true_and, Bool.and_false, Bool.false_and]; done) | rfl | exact (nomatch (hg : false = true))
        · skip
          first | (simp only [cond_true, cond_false, Bool.and_true, Bool.true_and, Bool.and_false, Bool.false_and]; done) | rfl | exact (nomatch (hg : false = true))
      · skip
        first | (simp only [cond_true, cond_false, Bool.and_true, Bool.true_and, Bool.and_false, Bool.false_and]; done) | rfl | exact (nomatch (hg : false = true))
noncomputable def laws_FnExactShareIn_con : Con := fun args h => match args, h with
  | [.g a0 31, .g a1 34, .i .u64 a2], [] => some (.a (.b ((laws_FnExactShareIn_v0 a0 a1 a2))), .none, (laws_FnExactShareIn_gd a0 a1 a2))
  | _, _ => none
theorem laws_FnExactShareIn_enter : ∀ args w, (callFunc 9 args).run Try.prog w = .ok (.enter 9 args) w := enter_ok (fn := Try.f9) (by kernel_rfl) (by kernel_rfl) (by kernel_rfl)
theorem laws_FnExactShareIn_ok : ConOk Try.prog 9 laws_FnExactShareIn_con := (ans_ok (N := 1000) (by kernel_rfl) (mkΓ_cons (con_ok laws_toSea_ok) laws_toSea_enter (mkΓ_cons (con_ok laws_toSpread_ok) laws_toSpread_enter (mkΓ_cons (con_ok spec_ShareIn_ok) spec_ShareIn_enter (mkΓ_cons (con_ok impl_ShareIn_ok) impl_ShareIn_enter (mkΓ_cons (con_ok laws_eqShare_ok) laws_eqShare_enter mkΓ_nil))))) (fn := Try.f9) (by kernel_rfl) (by kernel_rfl) []).of (by
  intro ρ h w args vals r e hA hH hr
  unfold laws_FnExactShareIn_con at hr
  split at hr
  · rename_i a0 a1 a2
    obtain ⟨rfl, hg⟩ := Prod.mk.inj (Option.some.inj hr)
    obtain ⟨rfl, hg2⟩ := Prod.mk.inj hg
    exact laws_FnExactShareIn_main a0 a1 a2 (hA.wt 0 rfl) (hA.wt 1 rfl) (hA.rng 2 rfl) hg2
  · cases hr)

theorem laws_FnExactShareIn_true (a0 : Array Value) (a1 : Array Value) (a2 : Int) (h_a0 : WT Try.prog 31 a0) (h_a1 : WT Try.prog 34 a1) (h_a2 : IntKind.u64.min ≤ a2 ∧ a2 ≤ IntKind.u64.max) : ((laws_FnExactShareIn_gd a0 a1 a2)) = true ∧ ((laws_FnExactShareIn_v0 a0 a1 a2)) = true := by
  have hm : 0 ≤ a2 ∧ a2 ≤ 18446744073709551615 := h_a2
  have hbits : maskW (bitI a2) a1 36 = maskW (bitS a2) a1 36 := maskW_congr 36 fun k hk => bit_eq hm hk
  have key : impl_ShareIn_v0 a0 a1 a2 = spec_ShareIn_v0 a0 a1 a2 ∧ impl_ShareIn_gd a0 a1 a2 = true ∧ spec_ShareIn_gd a0 a1 a2 = true ∧ impl_ShareIn_v1 a0 a1 a2 = spec_ShareIn_v1 a0 a1 a2 := by
    unfold impl_ShareIn_v0 spec_ShareIn_v0 impl_ShareIn_gd spec_ShareIn_gd impl_ShareIn_v1 spec_ShareIn_v1 impl_hasCells_v0
    rw [asked_eq, (valid_spread a0 a1).2, hbits]
    unfold spec_l02Asked_v0
    cases okS a0
    · exact ⟨rfl, rfl, rfl, rfl⟩
    cases hs : specSp a0 a1
    · exact ⟨rfl, rfl, rfl, rfl⟩
    obtain ⟨f1, f2, f3⟩ := sp_facts hs
    have hc := sp_cells hs
    have hp := (maskW_in (bitS a2) hc.1 hc.2 36 (Nat.le_refl _)).1
    have sh := share_eq hp (allW_pos f1 f2)
    have r1 := in_range f1
    have g1 : impl_allOf_gd a1 = true := by unfold impl_allOf_gd; rw [decide_eq_true r1.1, decide_eq_true r1.2]; rfl
    have g2 : spec_l02All_gd a1 = true := by unfold spec_l02All_gd; rw [decide_eq_true r1.1, decide_eq_true r1.2]; rfl
    rw [show impl_allOf_v0 a1 = allW a1 from rfl, show spec_l02All_v0 a1 = allW a1 from rfl, sh.1, sh.2.1, sh.2.2, g1, g2]
    unfold bne
    generalize maskW (bitS a2) a1 36 = q
    cases ((IntKind.u64.wrap (BitVec.ofInt IntKind.u64.bits a2 &&& ~~~(BitVec.ofInt IntKind.u64.bits (cellsOf a0))).toNat) == (0 : Int)) <;> exact ⟨rfl, rfl, rfl, rfl⟩
  unfold laws_FnExactShareIn_gd laws_FnExactShareIn_v0 laws_eqShare_v0
  rw [key.1, key.2.1, key.2.2.1, key.2.2.2]
  exact ⟨rfl, by simp only [bne_self_eq_false, cond_false, Bool.not_true]⟩

namespace lawFnExactShareIn
theorem lifted (os : Os) (started : os.Started) (H : Type) (enc : TypeId × Value → H) :
    ReturnsInHanded {} Try.checked os 9 .any (Rows.fnExactShareInSpec.pre6 enc Try.prog Try.f9 Rows.fnExactShareInRow.domain false) (Rows.fnExactShareInSpec.post enc Try.prog Try.f9 false true false false) := by
  refine law_lifted (C := Try.checked) (tb := 4) (by kernel_rfl) (by kernel_rfl) (by kernel_rfl) Try.func9 (by kernel_rfl) Try.underlying4 (of_decide_eq_true (by kernel_rfl)) rfl ?_ os started H enc
    (ChangeSpec.witness6 (enc := enc) (C := Try.checked) false ⟨#[], #[.agg (zc Try.prog 31), .agg (zc Try.prog 34), .int .u64 0], []⟩ 8 (by kernel_rfl) (by kernel_rfl) (by kernel_rfl) (by kernel_rfl)) ?_
  · intro H ds hds
    rw [show Try.f9.params.toList.length = 3 by kernel_rfl] at hds
    match ds, hds with
    | [_, _, _], _ => rfl
  · intro W base args ds ps hval hA
    rw [Try.params9] at hA hval
    obtain ⟨v0, v1, v2, d0, d1, d2, p0, p1, p2, hargs, rfl, rfl, h0, h1, h2⟩ := trodAll_three hA
    obtain ⟨a0, e0, w0⟩ := open_data (t := 31) 8 (by kernel_rfl) (by kernel_rfl) (hval 0 31 v0 rfl (by rw [hargs]; rfl)) h0
    obtain ⟨a1, e1, w1⟩ := open_data (t := 34) 8 (by kernel_rfl) (by kernel_rfl) (hval 1 34 v1 rfl (by rw [hargs]; rfl)) h1
    obtain ⟨a2, e2, _, _, w2⟩ := open_int Try.underlying26 (hval 2 26 v2 rfl (by rw [hargs]; rfl)) h2
    obtain rfl : args = #[.agg a0, .agg a1, .int .u64 a2] := by rw [hargs, e0, e1, e2]
    obtain ⟨hg, hv⟩ := laws_FnExactShareIn_true a0 a1 a2 w0 w1 (wfb w2)
    have hr : laws_FnExactShareIn_con [.g a0 31, .g a1 34, .i .u64 a2] [] = some (.a (.b true), .none, true) := by
      show (some (SV.a (SA.b ((laws_FnExactShareIn_v0 a0 a1 a2))), Eff.none, (laws_FnExactShareIn_gd a0 a1 a2)) : Option (SV × Eff × Bool)) = _
      rw [hg, hv]
    exact calls_con laws_FnExactShareIn_ok hr W (vals := [.agg a0, .agg a1, .int .u64 a2]) (allCons ⟨rfl, w0⟩ (allCons ⟨rfl, w1⟩ (allCons ⟨rfl, wfb w2⟩ allNil)))

theorem over : Rows.fnExactShareInRow.holds Try.pinned (OpenSpec.ofChange Rows.fnExactShareInSpec) :=
  OpenClaim.holds_of_wide 9 Try.f9 rfl rfl rfl rfl rfl rfl rfl ⟨rfl, rfl, rfl, rfl, rfl⟩ rfl rfl rfl rfl rfl (by kernel_rfl) Try.func9 (by kernel_rfl)
    (of_decide_eq_true (by kernel_rfl)) (by unfold Func.isWrapper; first | (rw [if_pos (by decide +kernel)]; kernel_rfl) | (rw [if_neg (by decide +kernel)]; exact ⟨rfl, rfl⟩))
    (fun os started H enc _ => lifted os started H enc)

theorem proved : Rows.FnExactShareInSaid := over
#print axioms proved
end lawFnExactShareIn

end
end Go.Proofs.Ytjihfoifdloaeaa
