/- For every sea and spread spec and program answer the same cell and share. -/
import Derived.Test.YtafmhcdelokmbaaRows
import Derived.Test.YtafmhcdelokmbaaChecked
import Derived.Test.YtafmhcdelokmbaaBase
import Derived.Test.YtafmhcdelokmbaaVeSpC
namespace Go.Proofs.Ytafmhcdelokmbaa
open Go.ChangeShapes Go.WideShapes Go.ChangeAt Go.RowKit Ve
set_option linter.unusedVariables false
set_option linter.unusedSimpArgs false
set_option maxRecDepth 100000
noncomputable section

theorem sp_cells {S D : Array Value} (h : specSp S D = true) : (∀ k, k < 36 → 0 ≤ num D (3 + k * 1) ∧ (num D (3 + k * 1) = 0 ∨ spec_l01Is_v0 (k : Int) S = true)) ∧ (∀ k, k ≤ 36 → 0 ≤ sumC D k ∧ sumC D k ≤ allW D) ∧ allW D ≤ 1283918464548864000 := by
  obtain ⟨f1, f2, f3⟩ := sp_facts h
  have r3 := in_range f3
  have hA := allW_in f1 f2
  have hp : ∀ k, k < 36 → pS S D (IntKind.i64.wrap (allW D - num D 39)) k = true := by
    unfold specSp at h
    cases h0 : spec_l00In_v0 (IntKind.i64.wrap (num D 0)) 0 1 with
    | false => rw [h0] at h; exact nomatch h
    | true =>
      rw [h0, f1, f2, f3] at h
      simp only [Bool.not_true, cond_false, Bool.and_eq_true] at h
      exact (allB_iff _).1 h.1
  have hw : IntKind.i64.wrap (allW D - num D 39) = allW D - num D 39 := by rw [IntWalk.i64_in _ (by omega)]
  rw [hw] at hp
  refine ⟨fun k hk => ⟨(pS_iff.1 (hp k hk)).1.1, (pS_iff.1 (hp k hk)).2⟩, fun k hk => ?_, ?_⟩
  · obtain ⟨e1, e2, e3⟩ := left_run (X := allW D - num D 39) (D := D) (by omega) k (fun i hi => (pS_iff.1 (hp i (by omega))).1)
    omega
  · have r1 := in_range f1
    have r2 := in_range f2
    unfold allW
    have hq := pow12 (IntKind.i64.wrap (num D 1)).toNat (by omega)
    generalize (12 : Int) ^ (IntKind.i64.wrap (num D 1)).toNat = q at hq
    have b1 : 0 ≤ num D 2 * q := Int.mul_nonneg (by omega) (by omega)
    have b2 : num D 2 * q ≤ 1000 * q := Int.mul_le_mul_of_nonneg_right r2.2 (by omega)
    rw [IntWalk.i64_in _ (by omega)]
    omega
theorem asked_ok {S D : Array Value} (h : (spec_l02Asked_v0 S D != 0) = false) : okS S = true ∧ specSp S D = true ∧ spec_l02Asked_v0 S D = 0 := by
  unfold spec_l02Asked_v0 at h ⊢
  cases h0 : okS S with
  | false => rw [h0] at h; exact nomatch h
  | true =>
    cases h1 : specSp S D with
    | false => rw [h0, h1] at h; exact nomatch h
    | true => exact ⟨rfl, rfl, rfl⟩
theorem all_gd {S D : Array Value} (h : specSp S D = true) : impl_allOf_gd D = true ∧ spec_l02All_gd D = true := by
  have r1 := in_range (sp_facts h).1
  refine ⟨?_, ?_⟩
  · unfold impl_allOf_gd; rw [decide_eq_true r1.1, decide_eq_true r1.2]; rfl
  · unfold spec_l02All_gd; rw [decide_eq_true r1.1, decide_eq_true r1.2]; rfl
theorem foldI_same {T X : Type} {g g' : Int → T → Option (Stp T X)} (I : T → Prop) : ∀ (l : List Int) (t : T), I t → (∀ c ∈ l, ∀ t, I t → g c t = g' c t ∧ ∀ t', g' c t = some (.more t') → I t') → foldI g l t = foldI g' l t
  | [], _, _, _ => rfl
  | c :: l, t, hi, h => by
    obtain ⟨e, h'⟩ := h c (List.mem_cons_self ..) t hi
    simp only [foldI, e]
    split
    · rename_i t' ht
      exact foldI_same I l t' (h' t' ht) fun c hc => h c (List.mem_cons_of_mem _ hc)
    · rfl
    · rfl
theorem cellsL_mem {wd hi c : Int} {n : Nat} (h : c ∈ cellsL wd hi n) : ∃ k : Nat, k < n ∧ inC wd hi k = true ∧ c = (k : Int) := by
  unfold cellsL at h
  obtain ⟨k, hk, e⟩ := List.mem_map.1 h
  obtain ⟨h1, h2⟩ := List.mem_filter.1 hk
  exact ⟨k, List.mem_range.1 h1, h2, e.symm⟩
theorem folds_shift {T : Type} (f : T → Nat → T) (t : T) : ∀ n, folds f t (n + 1) = folds (fun s k => f s (k + 1)) (f t 0) n
  | 0 => rfl
  | n + 1 => by rw [folds_succ, folds_shift f t n, folds_succ]
/-- One step to the greatest number so far. -/
noncomputable def bestF (D : Array Value) (b : Int) (k : Nat) : Int := bif decide (num D (3 + k * 1) > num D (3 + b.toNat * 1)) then (k : Int) else b
noncomputable def bestW (D : Array Value) : Int := folds (bestF D) 0 36
theorem bestF_in (D : Array Value) {b : Int} {k : Nat} (hk : k < 36) (hb : 0 ≤ b ∧ b < 36) : 0 ≤ bestF D b k ∧ bestF D b k < 36 := by
  unfold bestF
  cases decide (num D (3 + k * 1) > num D (3 + b.toNat * 1))
  · exact hb
  · exact ⟨by show 0 ≤ (k : Int); omega, by show (k : Int) < 36; omega⟩
theorem bestW_in (D : Array Value) : 0 ≤ bestW D ∧ bestW D < 36 :=
  folds_inv (f := bestF D) (fun _ b => 0 ≤ b ∧ b < 36) ⟨by omega, by omega⟩ (fun k s hk hs => bestF_in D hk hs) 36 (Nat.le_refl _)
noncomputable def shareW (p w : Int) : Array Value := #[.int .i64 (IntKind.i64.wrap (p.tdiv (gcdW p w))), .int .i64 (IntKind.i64.wrap (w.tdiv (gcdW p w)))]
noncomputable def likeI (S D : Array Value) : Int := bif (spec_l02Asked_v0 S D != 0) then 0 else bestW D
noncomputable def likeG (S D : Array Value) : Array Value := bif (spec_l02Asked_v0 S D != 0) then #[.int .i64 0, .int .i64 0] else shareW (num D (3 + (bestW D).toNat * 1)) (allW D)

noncomputable def spec_LikeliestCell_e0 : Int × Int → LS
  | (y0_8, y0_9) => ([.a (.i .i64 (y0_8)), .a (.i .i64 (y0_9))], [])

noncomputable def spec_LikeliestCell_x0 : Int × Int → Exit × LS
  | t => ((.exit 0), spec_LikeliestCell_e0 t)

noncomputable def spec_LikeliestCell_g0 (P : Program) (a0 : Array Value) (a1 : Array Value) : Int × Int → Option (Stp (Int × Int) (Int × Int))
  | (y0_8, y0_9) => bif decide (y0_9 < (36 : Int)) then (bif (decide (0 ≤ y0_9) && decide (y0_9 < 36)) then (bif (decide (0 ≤ y0_8) && decide (y0_8 < 36)) then (bif decide ((num a1 (3 + ((y0_9).toNat * 1))) > (num a1 (3 + ((y0_8).toNat * 1)))) then (some (.more (y0_9, (IntKind.i64.wrap (y0_9 + (1 : Int))))))
          else (some (.more (y0_8, (IntKind.i64.wrap (y0_9 + (1 : Int)))))))
        else (none))
      else (none))
    else (some (.done (y0_8, y0_9)))

theorem spec_LikeliestCell_s0 (N : Nat) (a0 : Array Value) (a1 : Array Value) : ∀ t : Int × Int, stepV Try.prog (mkΓ [(80, con spec_l02Asked_con), (81, con spec_l02Share_con), (82, con spec_l02All_con)]) N (cAt (codeOf Try.f30) [1, 1, 1, 0, 1, 0, 0]) (pAt (mkPlan (codeOf Try.f30) [([8, 9], [])]).1 [1, 1, 1, 0, 1, 0]) [8, 9] [] (⟨[.a (.g a0 29), .a (.g a1 50), .a (.w 0), .a (.w 1), .a (.i .i64 (0 : Int)), .a (.w 3), .a (.i .i64 (0 : Int)), .a (.i .i64 (spec_l02Asked_v0 a0 a1)), .a (.i .i64 (0 : Int)), .a (.i .i64 (1 : Int)), .a (.i .i64 (spec_l02Asked_v0 a0 a1)), .a (.i .i64 (spec_l02Asked_v0 a0 a1)), .a (.b (((spec_l02Asked_v0 a0 a1) != (0 : Int)))), .a (.u), .a (.u), .a (.u), .a (.u), .a (.u), .a (.u), .a (.u), .a (.u), .a (.u), .a (.u), .a (.u), .a (.u), .a (.u), .a (.u), .a (.u), .a (.u), .a (.u), .a (.u), .a (.u), .a (.u), .a (.u), .a (.u), .a (.u)], [.row a0 29, .row a1 50, .no, .row #[.int .i64 (0 : Int), .int .i64 (0 : Int)] 57, .no], []⟩ : St) (spec_LikeliestCell_e0 t) = mapS spec_LikeliestCell_e0 spec_LikeliestCell_x0 (spec_LikeliestCell_g0 Try.prog a0 a1 t) := by
  rintro ⟨y0_8, y0_9⟩
  have h : stepV Try.prog (mkΓ [(80, con spec_l02Asked_con), (81, con spec_l02Share_con), (82, con spec_l02All_con)]) N (cAt (codeOf Try.f30) [1, 1, 1, 0, 1, 0, 0]) (pAt (mkPlan (codeOf Try.f30) [([8, 9], [])]).1 [1, 1, 1, 0, 1, 0]) [8, 9] [] (⟨[.a (.g a0 29), .a (.g a1 50), .a (.w 0), .a (.w 1), .a (.i .i64 (0 : Int)), .a (.w 3), .a (.i .i64 (0 : Int)), .a (.i .i64 (spec_l02Asked_v0 a0 a1)), .a (.i .i64 (0 : Int)), .a (.i .i64 (1 : Int)), .a (.i .i64 (spec_l02Asked_v0 a0 a1)), .a (.i .i64 (spec_l02Asked_v0 a0 a1)), .a (.b (((spec_l02Asked_v0 a0 a1) != (0 : Int)))), .a (.u), .a (.u), .a (.u), .a (.u), .a (.u), .a (.u), .a (.u), .a (.u), .a (.u), .a (.u), .a (.u), .a (.u), .a (.u), .a (.u), .a (.u), .a (.u), .a (.u), .a (.u), .a (.u), .a (.u), .a (.u), .a (.u), .a (.u)], [.row a0 29, .row a1 50, .no, .row #[.int .i64 (0 : Int), .int .i64 (0 : Int)] 57, .no], []⟩ : St) ([.a (.i .i64 (y0_8)), .a (.i .i64 (y0_9))], []) = (bif decide (y0_9 < (36 : Int)) then (bif (decide (0 ≤ y0_9) && decide (y0_9 < 36)) then (bif (decide (0 ≤ y0_8) && decide (y0_8 < 36)) then (bif decide ((num a1 (3 + ((y0_9).toNat * 1))) > (num a1 (3 + ((y0_8).toNat * 1)))) then (some (.more ([.a (.i .i64 (y0_9)), .a (.i .i64 (IntKind.i64.wrap (y0_9 + (1 : Int))))], [])))
          else (some (.more ([.a (.i .i64 (y0_8)), .a (.i .i64 (IntKind.i64.wrap (y0_9 + (1 : Int))))], []))))
        else (none))
      else (none))
    else (some (.done ((.exit 0), ([.a (.i .i64 (y0_8)), .a (.i .i64 (y0_9))], []))))) := by kernel_rfl
  refine h.trans ?_
  simp only [spec_LikeliestCell_g0, mapS_cond, mapS_more, mapS_done, mapS_none, spec_LikeliestCell_e0, spec_LikeliestCell_x0]

noncomputable def spec_LikeliestCell_k0_0 (P : Program) (N : Nat) (a0 : Array Value) (a1 : Array Value) (z0_8 : Int) (z0_9 : Int) : Option (SV × Eff × Bool) := bif (decide (0 ≤ z0_8) && decide (z0_8 < 36)) then (bif (spec_l02All_gd a1) then (bif (spec_l02Share_gd (num a1 (3 + ((z0_8).toNat * 1))) (spec_l02All_v0 a1)) then (some (.t [.i .i64 (z0_8), .g #[.int .i64 (IntKind.i64.wrap (((num a1 (3 + ((z0_8).toNat * 1)))).tdiv (gcdW (num a1 (3 + ((z0_8).toNat * 1))) (spec_l02All_v0 a1)))), .int .i64 (IntKind.i64.wrap (((spec_l02All_v0 a1)).tdiv (gcdW (num a1 (3 + ((z0_8).toNat * 1))) (spec_l02All_v0 a1))))] 57, .i .i64 (0 : Int)], .none, true))
        else (none))
      else (none))
    else (none)

theorem spec_LikeliestCell_k0_0_eq (N : Nat) (a0 : Array Value) (a1 : Array Value) (z0_8 : Int) (z0_9 : Int) : (kBlock 0 (kSeq (veC Try.prog (mkΓ [(80, con spec_l02Asked_con), (81, con spec_l02Share_con), (82, con spec_l02All_con)]) N (cAt (codeOf Try.f30) [1, 1, 1, 1]) (pAt (mkPlan (codeOf Try.f30) [([8, 9], [])]).1 [1, 1, 1, 1]) (SV × Eff × Bool)) (finK Try.prog [] [.tmp 4, .cell 5 57, .tmp 6]))) (.exit 0) (left (writes (cAt (codeOf Try.f30) [1, 1, 1, 0, 1, 0, 0])) [8, 9] [] (⟨[.a (.g a0 29), .a (.g a1 50), .a (.w 0), .a (.w 1), .a (.i .i64 (0 : Int)), .a (.w 3), .a (.i .i64 (0 : Int)), .a (.i .i64 (spec_l02Asked_v0 a0 a1)), .a (.i .i64 (0 : Int)), .a (.i .i64 (1 : Int)), .a (.i .i64 (spec_l02Asked_v0 a0 a1)), .a (.i .i64 (spec_l02Asked_v0 a0 a1)), .a (.b (((spec_l02Asked_v0 a0 a1) != (0 : Int)))), .a (.u), .a (.u), .a (.u), .a (.u), .a (.u), .a (.u), .a (.u), .a (.u), .a (.u), .a (.u), .a (.u), .a (.u), .a (.u), .a (.u), .a (.u), .a (.u), .a (.u), .a (.u), .a (.u), .a (.u), .a (.u), .a (.u), .a (.u)], [.row a0 29, .row a1 50, .no, .row #[.int .i64 (0 : Int), .int .i64 (0 : Int)] 57, .no], []⟩ : St) ([.a (.i .i64 (z0_8)), .a (.i .i64 (z0_9))], [])) = spec_LikeliestCell_k0_0 Try.prog N a0 a1 z0_8 z0_9 := by
  have h : (kBlock 0 (kSeq (veC Try.prog (mkΓ [(80, con spec_l02Asked_con), (81, con spec_l02Share_con), (82, con spec_l02All_con)]) N (cAt (codeOf Try.f30) [1, 1, 1, 1]) (pAt (mkPlan (codeOf Try.f30) [([8, 9], [])]).1 [1, 1, 1, 1]) (SV × Eff × Bool)) (finK Try.prog [] [.tmp 4, .cell 5 57, .tmp 6]))) (.exit 0) (left (writes (cAt (codeOf Try.f30) [1, 1, 1, 0, 1, 0, 0])) [8, 9] [] (⟨[.a (.g a0 29), .a (.g a1 50), .a (.w 0), .a (.w 1), .a (.i .i64 (0 : Int)), .a (.w 3), .a (.i .i64 (0 : Int)), .a (.i .i64 (spec_l02Asked_v0 a0 a1)), .a (.i .i64 (0 : Int)), .a (.i .i64 (1 : Int)), .a (.i .i64 (spec_l02Asked_v0 a0 a1)), .a (.i .i64 (spec_l02Asked_v0 a0 a1)), .a (.b (((spec_l02Asked_v0 a0 a1) != (0 : Int)))), .a (.u), .a (.u), .a (.u), .a (.u), .a (.u), .a (.u), .a (.u), .a (.u), .a (.u), .a (.u), .a (.u), .a (.u), .a (.u), .a (.u), .a (.u), .a (.u), .a (.u), .a (.u), .a (.u), .a (.u), .a (.u), .a (.u), .a (.u)], [.row a0 29, .row a1 50, .no, .row #[.int .i64 (0 : Int), .int .i64 (0 : Int)] 57, .no], []⟩ : St) ([.a (.i .i64 (z0_8)), .a (.i .i64 (z0_9))], [])) = (bif (decide (0 ≤ z0_8) && decide (z0_8 < 36)) then (bif (spec_l02All_gd a1) then (bif (spec_l02Share_gd (num a1 (3 + ((z0_8).toNat * 1))) (spec_l02All_v0 a1)) then (some (.t [.i .i64 (z0_8), .g #[.int .i64 (IntKind.i64.wrap (((num a1 (3 + ((z0_8).toNat * 1)))).tdiv (gcdW (num a1 (3 + ((z0_8).toNat * 1))) (spec_l02All_v0 a1)))), .int .i64 (IntKind.i64.wrap (((spec_l02All_v0 a1)).tdiv (gcdW (num a1 (3 + ((z0_8).toNat * 1))) (spec_l02All_v0 a1))))] 57, .i .i64 (0 : Int)], .none, true))
        else (none))
      else (none))
    else (none)) := by kernel_rfl
  refine h.trans ?_
  rfl

theorem spec_LikeliestCell_n0 (N : Nat) (a0 : Array Value) (a1 : Array Value) : bindX (iterO (stepV Try.prog (mkΓ [(80, con spec_l02Asked_con), (81, con spec_l02Share_con), (82, con spec_l02All_con)]) N (cAt (codeOf Try.f30) [1, 1, 1, 0, 1, 0, 0]) (pAt (mkPlan (codeOf Try.f30) [([8, 9], [])]).1 [1, 1, 1, 0, 1, 0]) [8, 9] [] (⟨[.a (.g a0 29), .a (.g a1 50), .a (.w 0), .a (.w 1), .a (.i .i64 (0 : Int)), .a (.w 3), .a (.i .i64 (0 : Int)), .a (.i .i64 (spec_l02Asked_v0 a0 a1)), .a (.i .i64 (0 : Int)), .a (.i .i64 (1 : Int)), .a (.i .i64 (spec_l02Asked_v0 a0 a1)), .a (.i .i64 (spec_l02Asked_v0 a0 a1)), .a (.b (((spec_l02Asked_v0 a0 a1) != (0 : Int)))), .a (.u), .a (.u), .a (.u), .a (.u), .a (.u), .a (.u), .a (.u), .a (.u), .a (.u), .a (.u), .a (.u), .a (.u), .a (.u), .a (.u), .a (.u), .a (.u), .a (.u), .a (.u), .a (.u), .a (.u), .a (.u), .a (.u), .a (.u)], [.row a0 29, .row a1 50, .no, .row #[.int .i64 (0 : Int), .int .i64 (0 : Int)] 57, .no], []⟩ : St)) N ([.a (.i .i64 (0 : Int)), .a (.i .i64 (1 : Int))], [])) (fun e s => (kBlock 0 (kSeq (veC Try.prog (mkΓ [(80, con spec_l02Asked_con), (81, con spec_l02Share_con), (82, con spec_l02All_con)]) N (cAt (codeOf Try.f30) [1, 1, 1, 1]) (pAt (mkPlan (codeOf Try.f30) [([8, 9], [])]).1 [1, 1, 1, 1]) (SV × Eff × Bool)) (finK Try.prog [] [.tmp 4, .cell 5 57, .tmp 6]))) e (left (writes (cAt (codeOf Try.f30) [1, 1, 1, 0, 1, 0, 0])) [8, 9] [] (⟨[.a (.g a0 29), .a (.g a1 50), .a (.w 0), .a (.w 1), .a (.i .i64 (0 : Int)), .a (.w 3), .a (.i .i64 (0 : Int)), .a (.i .i64 (spec_l02Asked_v0 a0 a1)), .a (.i .i64 (0 : Int)), .a (.i .i64 (1 : Int)), .a (.i .i64 (spec_l02Asked_v0 a0 a1)), .a (.i .i64 (spec_l02Asked_v0 a0 a1)), .a (.b (((spec_l02Asked_v0 a0 a1) != (0 : Int)))), .a (.u), .a (.u), .a (.u), .a (.u), .a (.u), .a (.u), .a (.u), .a (.u), .a (.u), .a (.u), .a (.u), .a (.u), .a (.u), .a (.u), .a (.u), .a (.u), .a (.u), .a (.u), .a (.u), .a (.u), .a (.u), .a (.u), .a (.u)], [.row a0 29, .row a1 50, .no, .row #[.int .i64 (0 : Int), .int .i64 (0 : Int)] 57, .no], []⟩ : St) s)) = nodeX (iterO (spec_LikeliestCell_g0 Try.prog a0 a1) N ((0 : Int), (1 : Int))) (fun x => spec_LikeliestCell_k0_0 Try.prog N a0 a1 x.1 x.2) := by
  refine loop_node spec_LikeliestCell_e0 spec_LikeliestCell_x0 _ _ (spec_LikeliestCell_s0 N a0 a1) N ((0 : Int), (1 : Int)) _ _ ?_
  intro x; exact spec_LikeliestCell_k0_0_eq N a0 a1 x.1 x.2

theorem spec_LikeliestCell_ans (N : Nat) (a0 : Array Value) (a1 : Array Value) : ansV Try.prog (mkΓ [(80, con spec_l02Asked_con), (81, con spec_l02Share_con), (82, con spec_l02All_con)]) N Try.f30 [([8, 9], [])] [.g a0 29, .g a1 50] [] = (bif ((spec_l02Asked_v0 a0 a1) != (0 : Int)) then (some (.t [.i .i64 (0 : Int), .g #[.int .i64 (0 : Int), .int .i64 (0 : Int)] 57, .i .i64 (spec_l02Asked_v0 a0 a1)], .none, true))
    else (nodeX (iterO (spec_LikeliestCell_g0 Try.prog a0 a1) N ((0 : Int), (1 : Int))) (fun x => spec_LikeliestCell_k0_0 Try.prog N a0 a1 x.1 x.2))) := by
  have h : ansV Try.prog (mkΓ [(80, con spec_l02Asked_con), (81, con spec_l02Share_con), (82, con spec_l02All_con)]) N Try.f30 [([8, 9], [])] [.g a0 29, .g a1 50] [] = (bif ((spec_l02Asked_v0 a0 a1) != (0 : Int)) then (some (.t [.i .i64 (0 : Int), .g #[.int .i64 (0 : Int), .int .i64 (0 : Int)] 57, .i .i64 (spec_l02Asked_v0 a0 a1)], .none, true))
    else (bindX (iterO (stepV Try.prog (mkΓ [(80, con spec_l02Asked_con), (81, con spec_l02Share_con), (82, con spec_l02All_con)]) N (cAt (codeOf Try.f30) [1, 1, 1, 0, 1, 0, 0]) (pAt (mkPlan (codeOf Try.f30) [([8, 9], [])]).1 [1, 1, 1, 0, 1, 0]) [8, 9] [] (⟨[.a (.g a0 29), .a (.g a1 50), .a (.w 0), .a (.w 1), .a (.i .i64 (0 : Int)), .a (.w 3), .a (.i .i64 (0 : Int)), .a (.i .i64 (spec_l02Asked_v0 a0 a1)), .a (.i .i64 (0 : Int)), .a (.i .i64 (1 : Int)), .a (.i .i64 (spec_l02Asked_v0 a0 a1)), .a (.i .i64 (spec_l02Asked_v0 a0 a1)), .a (.b (((spec_l02Asked_v0 a0 a1) != (0 : Int)))), .a (.u), .a (.u), .a (.u), .a (.u), .a (.u), .a (.u), .a (.u), .a (.u), .a (.u), .a (.u), .a (.u), .a (.u), .a (.u), .a (.u), .a (.u), .a (.u), .a (.u), .a (.u), .a (.u), .a (.u), .a (.u), .a (.u), .a (.u)], [.row a0 29, .row a1 50, .no, .row #[.int .i64 (0 : Int), .int .i64 (0 : Int)] 57, .no], []⟩ : St)) N ([.a (.i .i64 (0 : Int)), .a (.i .i64 (1 : Int))], [])) (fun e s => (kBlock 0 (kSeq (veC Try.prog (mkΓ [(80, con spec_l02Asked_con), (81, con spec_l02Share_con), (82, con spec_l02All_con)]) N (cAt (codeOf Try.f30) [1, 1, 1, 1]) (pAt (mkPlan (codeOf Try.f30) [([8, 9], [])]).1 [1, 1, 1, 1]) (SV × Eff × Bool)) (finK Try.prog [] [.tmp 4, .cell 5 57, .tmp 6]))) e (left (writes (cAt (codeOf Try.f30) [1, 1, 1, 0, 1, 0, 0])) [8, 9] [] (⟨[.a (.g a0 29), .a (.g a1 50), .a (.w 0), .a (.w 1), .a (.i .i64 (0 : Int)), .a (.w 3), .a (.i .i64 (0 : Int)), .a (.i .i64 (spec_l02Asked_v0 a0 a1)), .a (.i .i64 (0 : Int)), .a (.i .i64 (1 : Int)), .a (.i .i64 (spec_l02Asked_v0 a0 a1)), .a (.i .i64 (spec_l02Asked_v0 a0 a1)), .a (.b (((spec_l02Asked_v0 a0 a1) != (0 : Int)))), .a (.u), .a (.u), .a (.u), .a (.u), .a (.u), .a (.u), .a (.u), .a (.u), .a (.u), .a (.u), .a (.u), .a (.u), .a (.u), .a (.u), .a (.u), .a (.u), .a (.u), .a (.u), .a (.u), .a (.u), .a (.u), .a (.u), .a (.u)], [.row a0 29, .row a1 50, .no, .row #[.int .i64 (0 : Int), .int .i64 (0 : Int)] 57, .no], []⟩ : St) s)))) := by kernel_rfl
  refine h.trans ?_
  simp only [spec_LikeliestCell_n0]

noncomputable def impl_LikeliestCell_e0 : Int → BS
  | r0_5 => ([.row #[.int .i64 (r0_5)] 2] : BS)

noncomputable def impl_LikeliestCell_x0 : Empty → Exit × BS := fun x => nomatch x

noncomputable def impl_LikeliestCell_g0 (P : Program) (a0 : Array Value) (a1 : Array Value) (x0 : Int) : Int → Option (Stp (Int) Empty)
  | r0_5 => bif (decide (0 ≤ x0) && decide (x0 < 36)) then (bif (decide (0 ≤ r0_5) && decide (r0_5 < 36)) then (bif decide ((num a1 (3 + ((x0).toNat * 1))) > (num a1 (3 + ((r0_5).toNat * 1)))) then (some (.more x0))
        else (some (.more r0_5)))
      else (none))
    else (none)

theorem impl_LikeliestCell_s0 (N : Nat) (a0 : Array Value) (a1 : Array Value) (x0 : Int) : ∀ t : Int, stepI Try.prog (mkΓx [(84, con impl_spreadCode_con), (85, con impl_shareOf_con), (86, con impl_allOf_con)] [(69, impl_eachCell_nc)] [(105, impl_eachCell_1_ic)]) N (cAt (codeOf Try.f32) [1, 1, 1, 0, 1, 0, 0]) (pAt (mkPlan (codeOf Try.f32) [([], [5])]).1 [1, 1, 1, 0, 1, 0]) 15 [5] [19] [(9, 19)] (⟨[.a (.g a0 29), .a (.g a1 50), .a (.w 0), .a (.w 1), .a (.i .i64 (0 : Int)), .a (.w 3), .a (.i .i64 (0 : Int)), .a (.i .i64 (impl_spreadCode_v0 a0 a1)), .a (.w 5), .a (.u), .a (.g a0 29), .a (.g a1 50), .a (.i .i64 (impl_spreadCode_v0 a0 a1)), .a (.i .i64 (impl_spreadCode_v0 a0 a1)), .a (.b (((impl_spreadCode_v0 a0 a1) != (0 : Int)))), .a (.u), .a (.u), .a (.g a0 29), .a (.c 105 [10, 12]), .a (.u), .a (.u), .a (.u), .a (.u), .a (.u), .a (.u), .a (.u), .a (.u), .a (.u), .a (.u), .a (.u), .a (.u), .a (.u), .a (.u), .a (.u), .a (.u), .a (.u), .a (.u), .a (.u)], [.row a0 29, .row a1 50, .no, .row #[.int .i64 (0 : Int), .int .i64 (0 : Int)] 57, .no, .row #[.int .i64 (0 : Int)] 2, .no, .no, .no, .no, .row #[.int .i64 (num a0 1)] 2, .no, .row #[.int .i64 (num a0 0)] 2, .no, .no], [5]⟩ : St) [.i .i64 (x0)] (impl_LikeliestCell_e0 t) = mapS impl_LikeliestCell_e0 impl_LikeliestCell_x0 (impl_LikeliestCell_g0 Try.prog a0 a1 x0 t) := by
  rintro r0_5
  have h : stepI Try.prog (mkΓx [(84, con impl_spreadCode_con), (85, con impl_shareOf_con), (86, con impl_allOf_con)] [(69, impl_eachCell_nc)] [(105, impl_eachCell_1_ic)]) N (cAt (codeOf Try.f32) [1, 1, 1, 0, 1, 0, 0]) (pAt (mkPlan (codeOf Try.f32) [([], [5])]).1 [1, 1, 1, 0, 1, 0]) 15 [5] [19] [(9, 19)] (⟨[.a (.g a0 29), .a (.g a1 50), .a (.w 0), .a (.w 1), .a (.i .i64 (0 : Int)), .a (.w 3), .a (.i .i64 (0 : Int)), .a (.i .i64 (impl_spreadCode_v0 a0 a1)), .a (.w 5), .a (.u), .a (.g a0 29), .a (.g a1 50), .a (.i .i64 (impl_spreadCode_v0 a0 a1)), .a (.i .i64 (impl_spreadCode_v0 a0 a1)), .a (.b (((impl_spreadCode_v0 a0 a1) != (0 : Int)))), .a (.u), .a (.u), .a (.g a0 29), .a (.c 105 [10, 12]), .a (.u), .a (.u), .a (.u), .a (.u), .a (.u), .a (.u), .a (.u), .a (.u), .a (.u), .a (.u), .a (.u), .a (.u), .a (.u), .a (.u), .a (.u), .a (.u), .a (.u), .a (.u), .a (.u)], [.row a0 29, .row a1 50, .no, .row #[.int .i64 (0 : Int), .int .i64 (0 : Int)] 57, .no, .row #[.int .i64 (0 : Int)] 2, .no, .no, .no, .no, .row #[.int .i64 (num a0 1)] 2, .no, .row #[.int .i64 (num a0 0)] 2, .no, .no], [5]⟩ : St) [.i .i64 (x0)] ([.row #[.int .i64 (r0_5)] 2] : BS) = (bif (decide (0 ≤ x0) && decide (x0 < 36)) then (bif (decide (0 ≤ r0_5) && decide (r0_5 < 36)) then (bif decide ((num a1 (3 + ((x0).toNat * 1))) > (num a1 (3 + ((r0_5).toNat * 1)))) then (some (.more ([.row #[.int .i64 (x0)] 2] : BS)))
        else (some (.more ([.row #[.int .i64 (r0_5)] 2] : BS))))
      else (none))
    else (none)) := by kernel_rfl
  refine h.trans ?_
  simp only [impl_LikeliestCell_g0, mapS_cond, mapS_more, mapS_done, mapS_none, impl_LikeliestCell_e0, impl_LikeliestCell_x0]

noncomputable def impl_LikeliestCell_k0_n (P : Program) (N : Nat) (a0 : Array Value) (a1 : Array Value) (q0_5 : Int) : Option (SV × Eff × Bool) := bif (decide (0 ≤ q0_5) && decide (q0_5 < 36)) then (bif (impl_allOf_gd a1) then (bif (impl_shareOf_gd (num a1 (3 + ((q0_5).toNat * 1))) (impl_allOf_v0 a1)) then (some (.t [.i .i64 (q0_5), .g (impl_shareOf_v0 (num a1 (3 + ((q0_5).toNat * 1))) (impl_allOf_v0 a1)) 57, .i .i64 (0 : Int)], .none, true))
        else (none))
      else (none))
    else (none)

theorem impl_LikeliestCell_k0_n_eq (N : Nat) (a0 : Array Value) (a1 : Array Value) (q0_5 : Int) : (kBlock 0 (kSeq (veC Try.prog (mkΓx [(84, con impl_spreadCode_con), (85, con impl_shareOf_con), (86, con impl_allOf_con)] [(69, impl_eachCell_nc)] [(105, impl_eachCell_1_ic)]) N (cAt (codeOf Try.f32) [1, 1, 1, 1]) (pAt (mkPlan (codeOf Try.f32) [([], [5])]).1 [1, 1, 1, 1]) (SV × Eff × Bool)) (finK Try.prog [] [.tmp 4, .cell 5 57, .tmp 6]))) .normal (leftI [5] (⟨[.a (.g a0 29), .a (.g a1 50), .a (.w 0), .a (.w 1), .a (.i .i64 (0 : Int)), .a (.w 3), .a (.i .i64 (0 : Int)), .a (.i .i64 (impl_spreadCode_v0 a0 a1)), .a (.w 5), .a (.u), .a (.g a0 29), .a (.g a1 50), .a (.i .i64 (impl_spreadCode_v0 a0 a1)), .a (.i .i64 (impl_spreadCode_v0 a0 a1)), .a (.b (((impl_spreadCode_v0 a0 a1) != (0 : Int)))), .a (.u), .a (.u), .a (.g a0 29), .a (.c 105 [10, 12]), .a (.u), .a (.u), .a (.u), .a (.u), .a (.u), .a (.u), .a (.u), .a (.u), .a (.u), .a (.u), .a (.u), .a (.u), .a (.u), .a (.u), .a (.u), .a (.u), .a (.u), .a (.u), .a (.u)], [.row a0 29, .row a1 50, .no, .row #[.int .i64 (0 : Int), .int .i64 (0 : Int)] 57, .no, .row #[.int .i64 (0 : Int)] 2, .no, .no, .no, .no, .row #[.int .i64 (num a0 1)] 2, .no, .row #[.int .i64 (num a0 0)] 2, .no, .no], [5]⟩ : St) ([.row #[.int .i64 (q0_5)] 2] : BS)) = impl_LikeliestCell_k0_n Try.prog N a0 a1 q0_5 := by
  have h : (kBlock 0 (kSeq (veC Try.prog (mkΓx [(84, con impl_spreadCode_con), (85, con impl_shareOf_con), (86, con impl_allOf_con)] [(69, impl_eachCell_nc)] [(105, impl_eachCell_1_ic)]) N (cAt (codeOf Try.f32) [1, 1, 1, 1]) (pAt (mkPlan (codeOf Try.f32) [([], [5])]).1 [1, 1, 1, 1]) (SV × Eff × Bool)) (finK Try.prog [] [.tmp 4, .cell 5 57, .tmp 6]))) .normal (leftI [5] (⟨[.a (.g a0 29), .a (.g a1 50), .a (.w 0), .a (.w 1), .a (.i .i64 (0 : Int)), .a (.w 3), .a (.i .i64 (0 : Int)), .a (.i .i64 (impl_spreadCode_v0 a0 a1)), .a (.w 5), .a (.u), .a (.g a0 29), .a (.g a1 50), .a (.i .i64 (impl_spreadCode_v0 a0 a1)), .a (.i .i64 (impl_spreadCode_v0 a0 a1)), .a (.b (((impl_spreadCode_v0 a0 a1) != (0 : Int)))), .a (.u), .a (.u), .a (.g a0 29), .a (.c 105 [10, 12]), .a (.u), .a (.u), .a (.u), .a (.u), .a (.u), .a (.u), .a (.u), .a (.u), .a (.u), .a (.u), .a (.u), .a (.u), .a (.u), .a (.u), .a (.u), .a (.u), .a (.u), .a (.u), .a (.u)], [.row a0 29, .row a1 50, .no, .row #[.int .i64 (0 : Int), .int .i64 (0 : Int)] 57, .no, .row #[.int .i64 (0 : Int)] 2, .no, .no, .no, .no, .row #[.int .i64 (num a0 1)] 2, .no, .row #[.int .i64 (num a0 0)] 2, .no, .no], [5]⟩ : St) ([.row #[.int .i64 (q0_5)] 2] : BS)) = (bif (decide (0 ≤ q0_5) && decide (q0_5 < 36)) then (bif (impl_allOf_gd a1) then (bif (impl_shareOf_gd (num a1 (3 + ((q0_5).toNat * 1))) (impl_allOf_v0 a1)) then (some (.t [.i .i64 (q0_5), .g (impl_shareOf_v0 (num a1 (3 + ((q0_5).toNat * 1))) (impl_allOf_v0 a1)) 57, .i .i64 (0 : Int)], .none, true))
        else (none))
      else (none))
    else (none)) := by kernel_rfl
  refine h.trans ?_
  rfl

theorem impl_LikeliestCell_n0 (N : Nat) (a0 : Array Value) (a1 : Array Value) : bindI (foldI (fun (x0 : Int) (hb : BS) => stepI Try.prog (mkΓx [(84, con impl_spreadCode_con), (85, con impl_shareOf_con), (86, con impl_allOf_con)] [(69, impl_eachCell_nc)] [(105, impl_eachCell_1_ic)]) N (cAt (codeOf Try.f32) [1, 1, 1, 0, 1, 0, 0]) (pAt (mkPlan (codeOf Try.f32) [([], [5])]).1 [1, 1, 1, 0, 1, 0]) 15 [5] [19] [(9, 19)] (⟨[.a (.g a0 29), .a (.g a1 50), .a (.w 0), .a (.w 1), .a (.i .i64 (0 : Int)), .a (.w 3), .a (.i .i64 (0 : Int)), .a (.i .i64 (impl_spreadCode_v0 a0 a1)), .a (.w 5), .a (.u), .a (.g a0 29), .a (.g a1 50), .a (.i .i64 (impl_spreadCode_v0 a0 a1)), .a (.i .i64 (impl_spreadCode_v0 a0 a1)), .a (.b (((impl_spreadCode_v0 a0 a1) != (0 : Int)))), .a (.u), .a (.u), .a (.g a0 29), .a (.c 105 [10, 12]), .a (.u), .a (.u), .a (.u), .a (.u), .a (.u), .a (.u), .a (.u), .a (.u), .a (.u), .a (.u), .a (.u), .a (.u), .a (.u), .a (.u), .a (.u), .a (.u), .a (.u), .a (.u), .a (.u)], [.row a0 29, .row a1 50, .no, .row #[.int .i64 (0 : Int), .int .i64 (0 : Int)] 57, .no, .row #[.int .i64 (0 : Int)] 2, .no, .no, .no, .no, .row #[.int .i64 (num a0 1)] 2, .no, .row #[.int .i64 (num a0 0)] 2, .no, .no], [5]⟩ : St) [.i .i64 (x0)] hb) (cellsL (num a0 0) (num a0 1) 36) ([.row #[.int .i64 (0 : Int)] 2] : BS)) (fun hb => (kBlock 0 (kSeq (veC Try.prog (mkΓx [(84, con impl_spreadCode_con), (85, con impl_shareOf_con), (86, con impl_allOf_con)] [(69, impl_eachCell_nc)] [(105, impl_eachCell_1_ic)]) N (cAt (codeOf Try.f32) [1, 1, 1, 1]) (pAt (mkPlan (codeOf Try.f32) [([], [5])]).1 [1, 1, 1, 1]) (SV × Eff × Bool)) (finK Try.prog [] [.tmp 4, .cell 5 57, .tmp 6]))) .normal (leftI [5] (⟨[.a (.g a0 29), .a (.g a1 50), .a (.w 0), .a (.w 1), .a (.i .i64 (0 : Int)), .a (.w 3), .a (.i .i64 (0 : Int)), .a (.i .i64 (impl_spreadCode_v0 a0 a1)), .a (.w 5), .a (.u), .a (.g a0 29), .a (.g a1 50), .a (.i .i64 (impl_spreadCode_v0 a0 a1)), .a (.i .i64 (impl_spreadCode_v0 a0 a1)), .a (.b (((impl_spreadCode_v0 a0 a1) != (0 : Int)))), .a (.u), .a (.u), .a (.g a0 29), .a (.c 105 [10, 12]), .a (.u), .a (.u), .a (.u), .a (.u), .a (.u), .a (.u), .a (.u), .a (.u), .a (.u), .a (.u), .a (.u), .a (.u), .a (.u), .a (.u), .a (.u), .a (.u), .a (.u), .a (.u), .a (.u)], [.row a0 29, .row a1 50, .no, .row #[.int .i64 (0 : Int), .int .i64 (0 : Int)] 57, .no, .row #[.int .i64 (0 : Int)] 2, .no, .no, .no, .no, .row #[.int .i64 (num a0 1)] 2, .no, .row #[.int .i64 (num a0 0)] 2, .no, .no], [5]⟩ : St) hb)) (fun e hb => (kBlock 0 (kSeq (veC Try.prog (mkΓx [(84, con impl_spreadCode_con), (85, con impl_shareOf_con), (86, con impl_allOf_con)] [(69, impl_eachCell_nc)] [(105, impl_eachCell_1_ic)]) N (cAt (codeOf Try.f32) [1, 1, 1, 1]) (pAt (mkPlan (codeOf Try.f32) [([], [5])]).1 [1, 1, 1, 1]) (SV × Eff × Bool)) (finK Try.prog [] [.tmp 4, .cell 5 57, .tmp 6]))) e (leftI [5] (⟨[.a (.g a0 29), .a (.g a1 50), .a (.w 0), .a (.w 1), .a (.i .i64 (0 : Int)), .a (.w 3), .a (.i .i64 (0 : Int)), .a (.i .i64 (impl_spreadCode_v0 a0 a1)), .a (.w 5), .a (.u), .a (.g a0 29), .a (.g a1 50), .a (.i .i64 (impl_spreadCode_v0 a0 a1)), .a (.i .i64 (impl_spreadCode_v0 a0 a1)), .a (.b (((impl_spreadCode_v0 a0 a1) != (0 : Int)))), .a (.u), .a (.u), .a (.g a0 29), .a (.c 105 [10, 12]), .a (.u), .a (.u), .a (.u), .a (.u), .a (.u), .a (.u), .a (.u), .a (.u), .a (.u), .a (.u), .a (.u), .a (.u), .a (.u), .a (.u), .a (.u), .a (.u), .a (.u), .a (.u), .a (.u)], [.row a0 29, .row a1 50, .no, .row #[.int .i64 (0 : Int), .int .i64 (0 : Int)] 57, .no, .row #[.int .i64 (0 : Int)] 2, .no, .no, .no, .no, .row #[.int .i64 (num a0 1)] 2, .no, .row #[.int .i64 (num a0 0)] 2, .no, .no], [5]⟩ : St) hb)) = nodeI (foldI (impl_LikeliestCell_g0 Try.prog a0 a1) (cellsL (num a0 0) (num a0 1) 36) (0 : Int)) (fun x => impl_LikeliestCell_k0_n Try.prog N a0 a1 x) (fun x : Empty => nomatch x) := by
  refine iter_node impl_LikeliestCell_e0 impl_LikeliestCell_x0 _ _ (fun y t => impl_LikeliestCell_s0 N a0 a1 y t) _ (0 : Int) _ _ _ _ ?_ ?_
  · intro x; exact impl_LikeliestCell_k0_n_eq N a0 a1 x
  · intro x; exact nomatch x

theorem impl_LikeliestCell_ans (N : Nat) (a0 : Array Value) (a1 : Array Value) : ansV Try.prog (mkΓx [(84, con impl_spreadCode_con), (85, con impl_shareOf_con), (86, con impl_allOf_con)] [(69, impl_eachCell_nc)] [(105, impl_eachCell_1_ic)]) N Try.f32 [([], [5])] [.g a0 29, .g a1 50] [] = (bif (impl_ValidSpread_gd a0 a1) then (bif ((impl_spreadCode_v0 a0 a1) != (0 : Int)) then (some (.t [.i .i64 (0 : Int), .g #[.int .i64 (0 : Int), .int .i64 (0 : Int)] 57, .i .i64 (impl_spreadCode_v0 a0 a1)], .none, true))
      else (bif (decide (0 ≤ (num a0 0)) && decide ((num a0 0) ≤ 6) && (decide (0 ≤ (num a0 1)) && decide ((num a0 1) ≤ 6))) then (nodeI (foldI (impl_LikeliestCell_g0 Try.prog a0 a1) (cellsL (num a0 0) (num a0 1) 36) (0 : Int)) (fun x => impl_LikeliestCell_k0_n Try.prog N a0 a1 x) (fun x : Empty => nomatch x))
        else (none)))
    else (none)) := by
  have h : ansV Try.prog (mkΓx [(84, con impl_spreadCode_con), (85, con impl_shareOf_con), (86, con impl_allOf_con)] [(69, impl_eachCell_nc)] [(105, impl_eachCell_1_ic)]) N Try.f32 [([], [5])] [.g a0 29, .g a1 50] [] = (bif (impl_ValidSpread_gd a0 a1) then (bif ((impl_spreadCode_v0 a0 a1) != (0 : Int)) then (some (.t [.i .i64 (0 : Int), .g #[.int .i64 (0 : Int), .int .i64 (0 : Int)] 57, .i .i64 (impl_spreadCode_v0 a0 a1)], .none, true))
      else (bif (decide (0 ≤ (num a0 0)) && decide ((num a0 0) ≤ 6) && (decide (0 ≤ (num a0 1)) && decide ((num a0 1) ≤ 6))) then (bindI (foldI (fun (x0 : Int) (hb : BS) => stepI Try.prog (mkΓx [(84, con impl_spreadCode_con), (85, con impl_shareOf_con), (86, con impl_allOf_con)] [(69, impl_eachCell_nc)] [(105, impl_eachCell_1_ic)]) N (cAt (codeOf Try.f32) [1, 1, 1, 0, 1, 0, 0]) (pAt (mkPlan (codeOf Try.f32) [([], [5])]).1 [1, 1, 1, 0, 1, 0]) 15 [5] [19] [(9, 19)] (⟨[.a (.g a0 29), .a (.g a1 50), .a (.w 0), .a (.w 1), .a (.i .i64 (0 : Int)), .a (.w 3), .a (.i .i64 (0 : Int)), .a (.i .i64 (impl_spreadCode_v0 a0 a1)), .a (.w 5), .a (.u), .a (.g a0 29), .a (.g a1 50), .a (.i .i64 (impl_spreadCode_v0 a0 a1)), .a (.i .i64 (impl_spreadCode_v0 a0 a1)), .a (.b (((impl_spreadCode_v0 a0 a1) != (0 : Int)))), .a (.u), .a (.u), .a (.g a0 29), .a (.c 105 [10, 12]), .a (.u), .a (.u), .a (.u), .a (.u), .a (.u), .a (.u), .a (.u), .a (.u), .a (.u), .a (.u), .a (.u), .a (.u), .a (.u), .a (.u), .a (.u), .a (.u), .a (.u), .a (.u), .a (.u)], [.row a0 29, .row a1 50, .no, .row #[.int .i64 (0 : Int), .int .i64 (0 : Int)] 57, .no, .row #[.int .i64 (0 : Int)] 2, .no, .no, .no, .no, .row #[.int .i64 (num a0 1)] 2, .no, .row #[.int .i64 (num a0 0)] 2, .no, .no], [5]⟩ : St) [.i .i64 (x0)] hb) (cellsL (num a0 0) (num a0 1) 36) ([.row #[.int .i64 (0 : Int)] 2] : BS)) (fun hb => (kBlock 0 (kSeq (veC Try.prog (mkΓx [(84, con impl_spreadCode_con), (85, con impl_shareOf_con), (86, con impl_allOf_con)] [(69, impl_eachCell_nc)] [(105, impl_eachCell_1_ic)]) N (cAt (codeOf Try.f32) [1, 1, 1, 1]) (pAt (mkPlan (codeOf Try.f32) [([], [5])]).1 [1, 1, 1, 1]) (SV × Eff × Bool)) (finK Try.prog [] [.tmp 4, .cell 5 57, .tmp 6]))) .normal (leftI [5] (⟨[.a (.g a0 29), .a (.g a1 50), .a (.w 0), .a (.w 1), .a (.i .i64 (0 : Int)), .a (.w 3), .a (.i .i64 (0 : Int)), .a (.i .i64 (impl_spreadCode_v0 a0 a1)), .a (.w 5), .a (.u), .a (.g a0 29), .a (.g a1 50), .a (.i .i64 (impl_spreadCode_v0 a0 a1)), .a (.i .i64 (impl_spreadCode_v0 a0 a1)), .a (.b (((impl_spreadCode_v0 a0 a1) != (0 : Int)))), .a (.u), .a (.u), .a (.g a0 29), .a (.c 105 [10, 12]), .a (.u), .a (.u), .a (.u), .a (.u), .a (.u), .a (.u), .a (.u), .a (.u), .a (.u), .a (.u), .a (.u), .a (.u), .a (.u), .a (.u), .a (.u), .a (.u), .a (.u), .a (.u), .a (.u)], [.row a0 29, .row a1 50, .no, .row #[.int .i64 (0 : Int), .int .i64 (0 : Int)] 57, .no, .row #[.int .i64 (0 : Int)] 2, .no, .no, .no, .no, .row #[.int .i64 (num a0 1)] 2, .no, .row #[.int .i64 (num a0 0)] 2, .no, .no], [5]⟩ : St) hb)) (fun e hb => (kBlock 0 (kSeq (veC Try.prog (mkΓx [(84, con impl_spreadCode_con), (85, con impl_shareOf_con), (86, con impl_allOf_con)] [(69, impl_eachCell_nc)] [(105, impl_eachCell_1_ic)]) N (cAt (codeOf Try.f32) [1, 1, 1, 1]) (pAt (mkPlan (codeOf Try.f32) [([], [5])]).1 [1, 1, 1, 1]) (SV × Eff × Bool)) (finK Try.prog [] [.tmp 4, .cell 5 57, .tmp 6]))) e (leftI [5] (⟨[.a (.g a0 29), .a (.g a1 50), .a (.w 0), .a (.w 1), .a (.i .i64 (0 : Int)), .a (.w 3), .a (.i .i64 (0 : Int)), .a (.i .i64 (impl_spreadCode_v0 a0 a1)), .a (.w 5), .a (.u), .a (.g a0 29), .a (.g a1 50), .a (.i .i64 (impl_spreadCode_v0 a0 a1)), .a (.i .i64 (impl_spreadCode_v0 a0 a1)), .a (.b (((impl_spreadCode_v0 a0 a1) != (0 : Int)))), .a (.u), .a (.u), .a (.g a0 29), .a (.c 105 [10, 12]), .a (.u), .a (.u), .a (.u), .a (.u), .a (.u), .a (.u), .a (.u), .a (.u), .a (.u), .a (.u), .a (.u), .a (.u), .a (.u), .a (.u), .a (.u), .a (.u), .a (.u), .a (.u), .a (.u)], [.row a0 29, .row a1 50, .no, .row #[.int .i64 (0 : Int), .int .i64 (0 : Int)] 57, .no, .row #[.int .i64 (0 : Int)] 2, .no, .no, .no, .no, .row #[.int .i64 (num a0 1)] 2, .no, .row #[.int .i64 (num a0 0)] 2, .no, .no], [5]⟩ : St) hb)))
        else (none)))
    else (none)) := by kernel_rfl
  refine h.trans ?_
  simp only [impl_LikeliestCell_n0]

theorem spec_LikeliestCell_main (a0 : Array Value) (a1 : Array Value) (h_a0 : WT Try.prog 29 a0) (h_a1 : WT Try.prog 50 a1) (hg : (true) = true) : ansV Try.prog (mkΓ [(80, con spec_l02Asked_con), (81, con spec_l02Share_con), (82, con spec_l02All_con)]) 1000 Try.f30 [([8, 9], [])] [.g a0 29, .g a1 50] [] = some (.t [.i .i64 (likeI a0 a1), .g (likeG a0 a1) 57, .i .i64 (spec_l02Asked_v0 a0 a1)], .none, true) := by
  refine (spec_LikeliestCell_ans 1000 a0 a1).trans ?_
  unfold likeI likeG
  cases hA : (spec_l02Asked_v0 a0 a1 != 0)
  case true => rfl
  obtain ⟨hok, hs, h0⟩ := asked_ok hA
  obtain ⟨c1, c2, c3⟩ := sp_cells hs
  obtain ⟨f1, f2, f3⟩ := sp_facts hs
  have hb := bestW_in a1
  have sh := share_eq (p := num a1 (3 + (bestW a1).toNat * 1)) (w := allW a1) (c1 (bestW a1).toNat (by omega)).1 (allW_pos f1 f2)
  have b1 : (decide (0 ≤ bestW a1) && decide (bestW a1 < 36)) = true := by rw [decide_eq_true hb.1, decide_eq_true hb.2]; rfl
  rw [h0]
  have h := iter_folds (g := spec_LikeliestCell_g0 Try.prog a0 a1) (fun s k => (s, ((k : Int) + 1))) (fun b k => bestF a1 b (k + 1)) (m := 35) (t := bestF a1 0 0) (x := (bestW a1, (36 : Int))) (N := 1000) (fun k s hk hs => by
    have hin := folds_inv (f := fun b k => bestF a1 b (k + 1)) (fun _ b => 0 ≤ b ∧ b < 36) (t := bestF a1 0 0) (n := 35) (bestF_in a1 (by omega) ⟨by omega, by omega⟩) (fun k s hk hs => bestF_in a1 (by omega) hs) k (by omega)
    rw [← hs] at hin
    have h1 : decide ((k : Int) + 1 < 36) = true := decide_eq_true (by omega)
    have h2 : decide (0 ≤ (k : Int) + 1) = true := decide_eq_true (by omega)
    have h3 : IntKind.i64.wrap ((k : Int) + 1 + 1) = ((k + 1 : Nat) : Int) + 1 := by rw [IntWalk.i64_in _ (by omega)]; omega
    have h4 : decide (0 ≤ s) = true := decide_eq_true hin.1
    have h5 : decide (s < 36) = true := decide_eq_true hin.2
    have h6 : ((k : Int) + 1).toNat = k + 1 := by omega
    simp only [spec_LikeliestCell_g0, h1, h2, h3, h4, h5, h6, cond_true, Bool.and_self]
    show _ = some (Stp.more (bestF a1 s (k + 1), _))
    unfold bestF
    cases decide (num a1 (3 + (k + 1) * 1) > num a1 (3 + s.toNat * 1)) <;> rfl) (by
    have h1 : decide (((35 : Nat) : Int) + 1 < 36) = false := by decide
    simp only [spec_LikeliestCell_g0, h1, cond_false]
    unfold bestW
    rw [folds_shift]
    rfl) (by omega)
  have hz : bestF a1 0 0 = 0 := by
    unfold bestF
    show (bif decide (num a1 3 > num a1 3) then _ else _) = _
    rw [decide_eq_false (by omega)]; rfl
  rw [hz] at h
  have h' : iterO (spec_LikeliestCell_g0 Try.prog a0 a1) 1000 ((0 : Int), (1 : Int)) = some (bestW a1, (36 : Int)) := h
  simp only [cond_false, h', nodeX, spec_LikeliestCell_k0_0, b1, cond_true, (all_gd hs).2, show spec_l02All_v0 a1 = allW a1 from rfl, sh.2.2]
  rfl
noncomputable def spec_LikeliestCell_con : Con := fun args h => match args, h with
  | [.g a0 29, .g a1 50], [] => some (.t [.i .i64 (likeI a0 a1), .g (likeG a0 a1) 57, .i .i64 (spec_l02Asked_v0 a0 a1)], .none, true)
  | _, _ => none
theorem spec_LikeliestCell_enter : ∀ args w, (callFunc 30 args).run Try.prog w = .ok (.enter 30 args) w := enter_ok (fn := Try.f30) (by kernel_rfl) (by kernel_rfl) (by kernel_rfl)
theorem spec_LikeliestCell_ok : ConOk Try.prog 30 spec_LikeliestCell_con := (ans_ok (N := 1000) (by kernel_rfl) (mkΓ_cons (con_ok spec_l02Asked_ok) spec_l02Asked_enter (mkΓ_cons (con_ok spec_l02Share_ok) spec_l02Share_enter (mkΓ_cons (con_ok spec_l02All_ok) spec_l02All_enter mkΓ_nil))) (fn := Try.f30) (by kernel_rfl) (by kernel_rfl) [([8, 9], [])]).of (by
  intro ρ h w args vals r e hA hH hr
  unfold spec_LikeliestCell_con at hr
  split at hr
  · rename_i a0 a1
    obtain ⟨rfl, hg⟩ := Prod.mk.inj (Option.some.inj hr)
    obtain ⟨rfl, hg2⟩ := Prod.mk.inj hg
    exact spec_LikeliestCell_main a0 a1 (hA.wt 0 rfl) (hA.wt 1 rfl) hg2
  · cases hr)

theorem impl_LikeliestCell_main (a0 : Array Value) (a1 : Array Value) (h_a0 : WT Try.prog 29 a0) (h_a1 : WT Try.prog 50 a1) (hg : (true) = true) : ansV Try.prog (mkΓx [(84, con impl_spreadCode_con), (85, con impl_shareOf_con), (86, con impl_allOf_con)] [(69, impl_eachCell_nc)] [(105, impl_eachCell_1_ic)]) 1000 Try.f32 [([], [5])] [.g a0 29, .g a1 50] [] = some (.t [.i .i64 (likeI a0 a1), .g (likeG a0 a1) 57, .i .i64 (spec_l02Asked_v0 a0 a1)], .none, true) := by
  refine (impl_LikeliestCell_ans 1000 a0 a1).trans ?_
  rw [asked_eq, (valid_spread a0 a1).2]
  unfold likeI likeG
  cases hA : (spec_l02Asked_v0 a0 a1 != 0)
  case true => rfl
  obtain ⟨hok, hs, h0⟩ := asked_ok hA
  obtain ⟨c1, c2, c3⟩ := sp_cells hs
  obtain ⟨f1, f2, f3⟩ := sp_facts hs
  have hb := bestW_in a1
  have sh := share_eq (p := num a1 (3 + (bestW a1).toNat * 1)) (w := allW a1) (c1 (bestW a1).toNat (by omega)).1 (allW_pos f1 f2)
  have b1 : (decide (0 ≤ bestW a1) && decide (bestW a1 < 36)) = true := by rw [decide_eq_true hb.1, decide_eq_true hb.2]; rfl
  rw [h0]
  have hd := okS_iter hok
  have zero : ∀ k, k < 36 → inC (num a0 0) (num a0 1) k = false → num a1 (3 + k * 1) = 0 := fun k hk hn => by
    rcases (c1 k hk).2 with h | h
    · exact h
    · rw [is_inC h_a0 hk, hn] at h; cases h
  have h1 := foldI_same (X := Empty) (g := impl_LikeliestCell_g0 Try.prog a0 a1) (g' := fun c b => some (.more (bestF a1 b c.toNat))) (fun b => 0 ≤ b ∧ b < 36) (cellsL (num a0 0) (num a0 1) 36) 0 ⟨by omega, by omega⟩ (fun c hc b hb => by
    obtain ⟨k, hk, _, rfl⟩ := cellsL_mem hc
    refine ⟨?_, fun t' ht => ?_⟩
    · have h1 : decide ((k : Int) < 36) = true := decide_eq_true (by omega)
      have h2 : decide (0 ≤ (k : Int)) = true := decide_eq_true (by omega)
      have h4 : decide (0 ≤ b) = true := decide_eq_true hb.1
      have h5 : decide (b < 36) = true := decide_eq_true hb.2
      simp only [impl_LikeliestCell_g0, h1, h2, h4, h5, cond_true, Bool.and_self, bestF, Int.toNat_natCast]
      cases decide (num a1 (3 + k * 1) > num a1 (3 + b.toNat * 1)) <;> rfl
    · cases ht
      exact bestF_in a1 (by omega) hb)
  have h2 := foldI_grid (X := Empty) (g := fun c b => some (.more (bestF a1 b c.toNat))) (bestF a1) (wd := num a0 0) (hi := num a0 1) (fun t k hk _ => by rw [Int.toNat_natCast]) (0 : Int)
  have h3 : folds (fun b k => if inC (num a0 0) (num a0 1) k then bestF a1 b k else b) 0 36 = bestW a1 :=
    (folds_congr (g := bestF a1) (fun _ b => 0 ≤ b ∧ b < 36) (n := 36) ⟨by omega, by omega⟩ (fun k b hk hb => by
      refine ⟨?_, bestF_in a1 hk hb⟩
      show (if inC (num a0 0) (num a0 1) k then bestF a1 b k else b) = bestF a1 b k
      cases hc : inC (num a0 0) (num a0 1) k
      · have z := zero k hk hc
        have nn := (c1 b.toNat (by omega)).1
        unfold bestF
        rw [decide_eq_false (by omega)]; rfl
      · rfl) 36 (Nat.le_refl _)).1
  rw [h2, h3] at h1
  simp only [cond_false, cond_true, hd, h1, nodeI, impl_LikeliestCell_k0_n, b1, (all_gd hs).1, show impl_allOf_v0 a1 = allW a1 from rfl, sh.2.1]
  rw [sh.1]
  rfl
noncomputable def impl_LikeliestCell_con : Con := fun args h => match args, h with
  | [.g a0 29, .g a1 50], [] => some (.t [.i .i64 (likeI a0 a1), .g (likeG a0 a1) 57, .i .i64 (spec_l02Asked_v0 a0 a1)], .none, true)
  | _, _ => none
theorem impl_LikeliestCell_enter : ∀ args w, (callFunc 32 args).run Try.prog w = .ok (.enter 32 args) w := enter_ok (fn := Try.f32) (by kernel_rfl) (by kernel_rfl) (by kernel_rfl)
theorem impl_LikeliestCell_ok : ConOk Try.prog 32 impl_LikeliestCell_con := (ans_ok (N := 1000) (by kernel_rfl) (mkΓx_c (con_ok impl_spreadCode_ok) impl_spreadCode_enter (mkΓx_c (con_ok impl_shareOf_ok) impl_shareOf_enter (mkΓx_c (con_ok impl_allOf_ok) impl_allOf_enter (mkΓx_n impl_eachCell_nok impl_eachCell_enter (mkΓx_i impl_eachCell_1_iok impl_eachCell_1_enter mkΓx_nil))))) (fn := Try.f32) (by kernel_rfl) (by kernel_rfl) [([], [5])]).of (by
  intro ρ h w args vals r e hA hH hr
  unfold impl_LikeliestCell_con at hr
  split at hr
  · rename_i a0 a1
    obtain ⟨rfl, hg⟩ := Prod.mk.inj (Option.some.inj hr)
    obtain ⟨rfl, hg2⟩ := Prod.mk.inj hg
    exact impl_LikeliestCell_main a0 a1 (hA.wt 0 rfl) (hA.wt 1 rfl) hg2
  · cases hr)

theorem laws_FnExactLikeliestCell_ans (N : Nat) (a0 : Array Value) (a1 : Array Value) : ansV Try.prog (mkΓ [(19, con laws_toSea_con), (30, con spec_LikeliestCell_con), (31, con laws_toSpread_con), (32, con impl_LikeliestCell_con), (33, con laws_eqShare_con)]) N Try.f9 [] [.g a0 37, .g a1 55] [] = (bif ((likeI a0 a1) != (likeI a0 a1)) then (some (.a (.b (false)), .none, true))
    else (bif (!((laws_eqShare_v0 (likeG a0 a1) (likeG a0 a1)))) then (some (.a (.b (false)), .none, true))
      else (bif ((spec_l02Asked_v0 a0 a1) != (spec_l02Asked_v0 a0 a1)) then (some (.a (.b (false)), .none, true))
        else (some (.a (.b (true)), .none, true))))) := by kernel_rfl

noncomputable def laws_FnExactLikeliestCell_v0 (a0 : Array Value) (a1 : Array Value) : Bool := (bif ((likeI a0 a1) != (likeI a0 a1)) then false else (bif (!((laws_eqShare_v0 (likeG a0 a1) (likeG a0 a1)))) then false else (bif ((spec_l02Asked_v0 a0 a1) != (spec_l02Asked_v0 a0 a1)) then false else true)))

theorem laws_FnExactLikeliestCell_main (a0 : Array Value) (a1 : Array Value) (h_a0 : WT Try.prog 37 a0) (h_a1 : WT Try.prog 55 a1) (hg : (true) = true) : ansV Try.prog (mkΓ [(19, con laws_toSea_con), (30, con spec_LikeliestCell_con), (31, con laws_toSpread_con), (32, con impl_LikeliestCell_con), (33, con laws_eqShare_con)]) 1000 Try.f9 [] [.g a0 37, .g a1 55] [] = some (.a (.b ((laws_FnExactLikeliestCell_v0 a0 a1))), .none, true) := by
  refine (laws_FnExactLikeliestCell_ans 1000 a0 a1).trans ?_
  unfold laws_FnExactLikeliestCell_v0
  revert hg
  generalize (((likeI a0 a1) != (likeI a0 a1))) = b2
  intro hg
  cases b2
  · skip
    revert hg
    generalize ((!((laws_eqShare_v0 (likeG a0 a1) (likeG a0 a1))))) = b4
    intro hg
    cases b4
    · skip
      revert hg
      generalize (((spec_l02Asked_v0 a0 a1) != (spec_l02Asked_v0 a0 a1))) = b6
      intro hg
      cases b6
      · skip
        first | (simp only [cond_true, cond_false, Bool.and_true, Bool.true_and, Bool.and_false, Bool.false_and]; done) | rfl | exact (nomatch (hg : false = true))
      · skip
        first | (simp only [cond_true, cond_false, Bool.and_true, Bool.true_and, Bool.and_false, Bool.false_and]; done) | rfl | exact (nomatch (hg : false = true))
    · skip
      first | (simp only [cond_true, cond_false, Bool.and_true, Bool.true_and, Bool.and_false, Bool.false_and]; done) | rfl | exact (nomatch (hg : false = true))
  · skip
    first | (simp only [cond_true, cond_false, Bool.and_true, Bool.true_and, Bool.and_false, Bool.false_and]; done) | rfl | exact (nomatch (hg : false = true))
noncomputable def laws_FnExactLikeliestCell_con : Con := fun args h => match args, h with
  | [.g a0 37, .g a1 55], [] => some (.a (.b ((laws_FnExactLikeliestCell_v0 a0 a1))), .none, true)
  | _, _ => none
theorem laws_FnExactLikeliestCell_enter : ∀ args w, (callFunc 9 args).run Try.prog w = .ok (.enter 9 args) w := enter_ok (fn := Try.f9) (by kernel_rfl) (by kernel_rfl) (by kernel_rfl)
theorem laws_FnExactLikeliestCell_ok : ConOk Try.prog 9 laws_FnExactLikeliestCell_con := (ans_ok (N := 1000) (by kernel_rfl) (mkΓ_cons (con_ok laws_toSea_ok) laws_toSea_enter (mkΓ_cons (con_ok spec_LikeliestCell_ok) spec_LikeliestCell_enter (mkΓ_cons (con_ok laws_toSpread_ok) laws_toSpread_enter (mkΓ_cons (con_ok impl_LikeliestCell_ok) impl_LikeliestCell_enter (mkΓ_cons (con_ok laws_eqShare_ok) laws_eqShare_enter mkΓ_nil))))) (fn := Try.f9) (by kernel_rfl) (by kernel_rfl) []).of (by
  intro ρ h w args vals r e hA hH hr
  unfold laws_FnExactLikeliestCell_con at hr
  split at hr
  · rename_i a0 a1
    obtain ⟨rfl, hg⟩ := Prod.mk.inj (Option.some.inj hr)
    obtain ⟨rfl, hg2⟩ := Prod.mk.inj hg
    exact laws_FnExactLikeliestCell_main a0 a1 (hA.wt 0 rfl) (hA.wt 1 rfl) hg2
  · cases hr)

theorem laws_FnExactLikeliestCell_true (a0 : Array Value) (a1 : Array Value) (h_a0 : WT Try.prog 37 a0) (h_a1 : WT Try.prog 55 a1) : (true) = true ∧ ((laws_FnExactLikeliestCell_v0 a0 a1)) = true := by
  refine ⟨rfl, ?_⟩
  unfold laws_FnExactLikeliestCell_v0 laws_eqShare_v0
  simp only [bne_self_eq_false, cond_false, Bool.not_true]

namespace lawFnExactLikeliestCell
theorem lifted (os : Os) (started : os.Started) (H : Type) (enc : TypeId × Value → H) :
    ReturnsInHanded {} Try.checked os 9 .any (Rows.fnExactLikeliestCellSpec.pre6 enc Try.prog Try.f9 Rows.fnExactLikeliestCellRow.domain false) (Rows.fnExactLikeliestCellSpec.post enc Try.prog Try.f9 false true false false) := by
  refine law_lifted (C := Try.checked) (tb := 4) (by kernel_rfl) (by kernel_rfl) (by kernel_rfl) Try.func9 (by kernel_rfl) Try.underlying4 (of_decide_eq_true (by kernel_rfl)) rfl ?_ os started H enc
    (ChangeSpec.witness6 (enc := enc) (C := Try.checked) false ⟨#[], #[.agg (zc Try.prog 37), .agg (zc Try.prog 55)], []⟩ 8 (by kernel_rfl) (by kernel_rfl) (by kernel_rfl) (by kernel_rfl)) ?_
  · intro H ds hds
    rw [show Try.f9.params.toList.length = 2 by kernel_rfl] at hds
    match ds, hds with
    | [_, _], _ => rfl
  · intro W base args ds ps hval hA
    rw [Try.params9] at hA hval
    obtain ⟨v0, v1, d0, d1, p0, p1, hargs, rfl, rfl, h0, h1⟩ := trodAll_two hA
    obtain ⟨a0, e0, w0⟩ := open_data (t := 37) 8 (by kernel_rfl) (by kernel_rfl) (hval 0 37 v0 rfl (by rw [hargs]; rfl)) h0
    obtain ⟨a1, e1, w1⟩ := open_data (t := 55) 8 (by kernel_rfl) (by kernel_rfl) (hval 1 55 v1 rfl (by rw [hargs]; rfl)) h1
    obtain rfl : args = #[.agg a0, .agg a1] := by rw [hargs, e0, e1]
    obtain ⟨hg, hv⟩ := laws_FnExactLikeliestCell_true a0 a1 w0 w1
    have hr : laws_FnExactLikeliestCell_con [.g a0 37, .g a1 55] [] = some (.a (.b true), .none, true) := by
      show (some (SV.a (SA.b ((laws_FnExactLikeliestCell_v0 a0 a1))), Eff.none, true) : Option (SV × Eff × Bool)) = _
      rw [hg, hv]
    exact calls_con laws_FnExactLikeliestCell_ok hr W (vals := [.agg a0, .agg a1]) (allCons ⟨rfl, w0⟩ (allCons ⟨rfl, w1⟩ allNil))

theorem over : Rows.fnExactLikeliestCellRow.holds Try.pinned (OpenSpec.ofChange Rows.fnExactLikeliestCellSpec) :=
  OpenClaim.holds_of_wide 9 Try.f9 rfl rfl rfl rfl rfl rfl rfl ⟨rfl, rfl, rfl, rfl, rfl⟩ rfl rfl rfl rfl rfl (by kernel_rfl) Try.func9 (by kernel_rfl)
    (of_decide_eq_true (by kernel_rfl)) (by unfold Func.isWrapper; first | (rw [if_pos (by decide +kernel)]; kernel_rfl) | (rw [if_neg (by decide +kernel)]; exact ⟨rfl, rfl⟩))
    (fun os started H enc _ => lifted os started H enc)

theorem proved : Rows.FnExactLikeliestCellSaid := over
#print axioms proved
end lawFnExactLikeliestCell

end
end Go.Proofs.Ytafmhcdelokmbaa
