/- For every sea and spread spec and program answer the same means of all places. -/
import Derived.Test.YtafmhcdelokmbaaRows
import Derived.Test.YtafmhcdelokmbaaChecked
import Derived.Test.YtafmhcdelokmbaaBase
import Derived.Test.YtafmhcdelokmbaaVeSpC
namespace Go.Proofs.Ytafmhcdelokmbaa
open Go.ChangeShapes Go.WideShapes Go.ChangeAt Go.RowKit Ve
set_option linter.unusedVariables false
set_option linter.unusedSimpArgs false
set_option maxRecDepth 100000
noncomputable section

theorem sp_cells {S D : Array Value} (h : specSp S D = true) : (∀ k, k < 36 → 0 ≤ num D (3 + k * 1) ∧ (num D (3 + k * 1) = 0 ∨ spec_l01Is_v0 (k : Int) S = true)) ∧ (∀ k, k ≤ 36 → 0 ≤ sumC D k ∧ sumC D k ≤ allW D) ∧ allW D ≤ 1283918464548864000 := by
  obtain ⟨f1, f2, f3⟩ := sp_facts h
  have r3 := in_range f3
  have hA := allW_in f1 f2
  have hp : ∀ k, k < 36 → pS S D (IntKind.i64.wrap (allW D - num D 39)) k = true := by
    unfold specSp at h
    cases h0 : spec_l00In_v0 (IntKind.i64.wrap (num D 0)) 0 1 with
    | false => rw [h0] at h; exact nomatch h
    | true =>
      rw [h0, f1, f2, f3] at h
      simp only [Bool.not_true, cond_false, Bool.and_eq_true] at h
      exact (allB_iff _).1 h.1
  have hw : IntKind.i64.wrap (allW D - num D 39) = allW D - num D 39 := by rw [IntWalk.i64_in _ (by omega)]
  rw [hw] at hp
  refine ⟨fun k hk => ⟨(pS_iff.1 (hp k hk)).1.1, (pS_iff.1 (hp k hk)).2⟩, fun k hk => ?_, ?_⟩
  · obtain ⟨e1, e2, e3⟩ := left_run (X := allW D - num D 39) (D := D) (by omega) k (fun i hi => (pS_iff.1 (hp i (by omega))).1)
    omega
  · have r1 := in_range f1
    have r2 := in_range f2
    unfold allW
    have hq := pow12 (IntKind.i64.wrap (num D 1)).toNat (by omega)
    generalize (12 : Int) ^ (IntKind.i64.wrap (num D 1)).toNat = q at hq
    have b1 : 0 ≤ num D 2 * q := Int.mul_nonneg (by omega) (by omega)
    have b2 : num D 2 * q ≤ 1000 * q := Int.mul_le_mul_of_nonneg_right r2.2 (by omega)
    rw [IntWalk.i64_in _ (by omega)]
    omega
theorem asked_ok {S D : Array Value} (h : (spec_l02Asked_v0 S D != 0) = false) : okS S = true ∧ specSp S D = true ∧ spec_l02Asked_v0 S D = 0 := by
  unfold spec_l02Asked_v0 at h ⊢
  cases h0 : okS S with
  | false => rw [h0] at h; exact nomatch h
  | true =>
    cases h1 : specSp S D with
    | false => rw [h0, h1] at h; exact nomatch h
    | true => exact ⟨rfl, rfl, rfl⟩
theorem all_gd {S D : Array Value} (h : specSp S D = true) : impl_allOf_gd D = true ∧ spec_l02All_gd D = true := by
  have r1 := in_range (sp_facts h).1
  refine ⟨?_, ?_⟩
  · unfold impl_allOf_gd; rw [decide_eq_true r1.1, decide_eq_true r1.2]; rfl
  · unfold spec_l02All_gd; rw [decide_eq_true r1.1, decide_eq_true r1.2]; rfl
theorem foldI_same {T X : Type} {g g' : Int → T → Option (Stp T X)} (I : T → Prop) : ∀ (l : List Int) (t : T), I t → (∀ c ∈ l, ∀ t, I t → g c t = g' c t ∧ ∀ t', g' c t = some (.more t') → I t') → foldI g l t = foldI g' l t
  | [], _, _, _ => rfl
  | c :: l, t, hi, h => by
    obtain ⟨e, h'⟩ := h c (List.mem_cons_self ..) t hi
    simp only [foldI, e]
    split
    · rename_i t' ht
      exact foldI_same I l t' (h' t' ht) fun c hc => h c (List.mem_cons_of_mem _ hc)
    · rfl
    · rfl
theorem cellsL_mem {wd hi c : Int} {n : Nat} (h : c ∈ cellsL wd hi n) : ∃ k : Nat, k < n ∧ inC wd hi k = true ∧ c = (k : Int) := by
  unfold cellsL at h
  obtain ⟨k, hk, e⟩ := List.mem_map.1 h
  obtain ⟨h1, h2⟩ := List.mem_filter.1 hk
  exact ⟨k, List.mem_range.1 h1, h2, e.symm⟩
theorem folds_shift {T : Type} (f : T → Nat → T) (t : T) : ∀ n, folds f t (n + 1) = folds (fun s k => f s (k + 1)) (f t 0) n
  | 0 => rfl
  | n + 1 => by rw [folds_succ, folds_shift f t n, folds_succ]


noncomputable def shareW (p w : Int) : Array Value := #[.int .i64 (IntKind.i64.wrap (p.tdiv (gcdW p w))), .int .i64 (IntKind.i64.wrap (w.tdiv (gcdW p w)))]
noncomputable def eastC (D : Array Value) : Nat → Int
  | 0 => 0
  | k + 1 => eastC D k + num D (3 + k * 1) * ((k % 6 : Nat) : Int)
noncomputable def southC (D : Array Value) : Nat → Int
  | 0 => 0
  | k + 1 => southC D k + num D (3 + k * 1) * ((k / 6 : Nat) : Int)
theorem sum_succ (D : Array Value) (k : Nat) : sumC D (k + 1) = sumC D k + num D (3 + k * 1) := rfl
theorem east_succ (D : Array Value) (k : Nat) : eastC D (k + 1) = eastC D k + num D (3 + k * 1) * ((k % 6 : Nat) : Int) := rfl
theorem south_succ (D : Array Value) (k : Nat) : southC D (k + 1) = southC D k + num D (3 + k * 1) * ((k / 6 : Nat) : Int) := rfl
theorem mean_le {D : Array Value} (h : ∀ k, k < 36 → 0 ≤ num D (3 + k * 1)) : ∀ k, k ≤ 36 → (0 ≤ eastC D k ∧ eastC D k ≤ 5 * sumC D k) ∧ (0 ≤ southC D k ∧ southC D k ≤ 5 * sumC D k)
  | 0, _ => ⟨⟨Int.le_refl _, Int.le_refl _⟩, Int.le_refl _, Int.le_refl _⟩
  | k + 1, hk => by
    obtain ⟨⟨a, b⟩, c, d⟩ := mean_le h k (by omega)
    have hn := h k (by omega)
    rw [sum_succ, east_succ, south_succ]
    have x0 : 0 ≤ num D (3 + k * 1) * ((k % 6 : Nat) : Int) := Int.mul_nonneg hn (by omega)
    have x1 : num D (3 + k * 1) * ((k % 6 : Nat) : Int) ≤ num D (3 + k * 1) * 5 := Int.mul_le_mul_of_nonneg_left (by omega) hn
    have y0 : 0 ≤ num D (3 + k * 1) * ((k / 6 : Nat) : Int) := Int.mul_nonneg hn (by omega)
    have y1 : num D (3 + k * 1) * ((k / 6 : Nat) : Int) ≤ num D (3 + k * 1) * 5 := Int.mul_le_mul_of_nonneg_left (by omega) hn
    generalize num D (3 + k * 1) * ((k % 6 : Nat) : Int) = x at *
    generalize num D (3 + k * 1) * ((k / 6 : Nat) : Int) = y at *
    refine ⟨⟨by omega, by omega⟩, by omega, by omega⟩
/-- One cell more in the three sums. -/
theorem mean_step {S D : Array Value} (h : specSp S D = true) {k : Nat} (hk : k < 36) : IntKind.i64.wrap (sumC D k + num D (3 + k * 1)) = sumC D (k + 1) ∧ IntKind.i64.wrap (eastC D k + IntKind.i64.wrap (num D (3 + k * 1) * ((k : Int)).tmod 6)) = eastC D (k + 1) ∧ IntKind.i64.wrap (southC D k + IntKind.i64.wrap (num D (3 + k * 1) * IntKind.i64.wrap (((k : Int)).tdiv 6))) = southC D (k + 1) := by
  obtain ⟨c1, c2, c3⟩ := sp_cells h
  have m1 := mean_le (fun k hk => (c1 k hk).1) k (by omega)
  have m2 := mean_le (fun k hk => (c1 k hk).1) (k + 1) (by omega)
  have s1 := c2 k (by omega)
  have s2 := c2 (k + 1) (by omega)
  have hn := (c1 k hk).1
  have e1 : ((k : Int)).tmod 6 = ((k % 6 : Nat) : Int) := by rw [Int.tmod_eq_emod_of_nonneg (by omega)]; omega
  have e2 : IntKind.i64.wrap (((k : Int)).tdiv 6) = ((k / 6 : Nat) : Int) := by
    rw [Int.tdiv_eq_ediv_of_nonneg (by omega), IntWalk.i64_in _ (by omega)]; omega
  rw [e1, e2]
  rw [sum_succ, east_succ, south_succ] at m2
  rw [sum_succ] at s2
  rw [sum_succ, east_succ, south_succ]
  generalize num D (3 + k * 1) * ((k % 6 : Nat) : Int) = x at *
  generalize num D (3 + k * 1) * ((k / 6 : Nat) : Int) = y at *
  refine ⟨IntWalk.i64_in _ (by omega), ?_, ?_⟩
  · rw [IntWalk.i64_in x (by omega), IntWalk.i64_in _ (by omega)]
  · rw [IntWalk.i64_in y (by omega), IntWalk.i64_in _ (by omega)]
theorem sum_zero {D : Array Value} (h : ∀ k, k < 36 → 0 ≤ num D (3 + k * 1)) : ∀ n, n ≤ 36 → (0 ≤ sumC D n ∧ (sumC D n = 0 ↔ ∀ k, k < n → num D (3 + k * 1) = 0))
  | 0, _ => ⟨Int.le_refl _, fun _ k hk => by omega, fun _ => rfl⟩
  | n + 1, hn => by
    obtain ⟨h0, h1⟩ := sum_zero h n (by omega)
    have hk := h n (by omega)
    rw [sum_succ]
    refine ⟨by omega, fun he k hk' => ?_, fun he => ?_⟩
    · by_cases e : k = n
      · subst e; omega
      · exact h1.1 (by omega) k (by omega)
    · have := h1.2 fun k hk => he k (by omega)
      have := he n (by omega)
      omega
theorem z48 : zc Try.prog 48 = ⟨List.replicate 36 (.int .i64 0)⟩ := by kernel_rfl
theorem same_zero {D : Array Value} (h : WT Try.prog 50 D) (h0 : ∀ k, k < 36 → 0 ≤ num D (3 + k * 1)) : sameB (D.extract 3 (3 + 36)) (zc Try.prog 48) = (sumC D 36 == 0) := by
  have hL : ∀ k, k < 36 → (lay Try.prog 50)[3 + k * 1]? = some 3 := by
    intro k hk
    have h : (List.range 36).all (fun k => (lay Try.prog 50)[3 + k * 1]? == some 3) = true := by kernel_rfl
    have := List.all_eq_true.1 h k (List.mem_range.2 hk)
    exact beq_iff_eq.1 this
  have hz : D.size = 40 := by rw [h.layLen]; kernel_rfl
  have hc : ∀ k, k < 36 → D[3 + k * 1]? = some (.int .i64 (num D (3 + k * 1))) := fun k hk => (h.int (k := .i64) (hL k hk)).1
  rw [Bool.eq_iff_iff, sameB_iff, beq_iff_eq, (sum_zero h0 36 (Nat.le_refl _)).2, z48]
  constructor
  · intro e k hk
    have := congrArg (fun x : Array Value => x[k]?) e
    simp only [Array.getElem?_extract, List.getElem?_toArray, List.getElem?_replicate] at this
    rw [if_pos (by omega), if_pos hk, show 3 + k = 3 + k * 1 by omega, hc k hk] at this
    have := Value.int.inj (Option.some.inj this)
    exact this.2
  · intro e
    refine arr_ext fun i => ?_
    simp only [Array.getElem?_extract, List.getElem?_toArray, List.getElem?_replicate]
    by_cases hi : i < 36
    · rw [if_pos (by omega), if_pos hi, show 3 + i = 3 + i * 1 by omega, hc i hi, e i hi]
    · rw [if_neg (by omega), if_neg hi]
noncomputable def meanG (w : Int) (S D : Array Value) : Array Value := bif (spec_l02Asked_v0 S D != 0) then #[.int .i64 0, .int .i64 0] else bif (sumC D 36 == 0) then #[.int .i64 0, .int .i64 0] else shareW w (sumC D 36)
noncomputable def meanI (S D : Array Value) : Int := bif (spec_l02Asked_v0 S D != 0) then spec_l02Asked_v0 S D else bif (sumC D 36 == 0) then 6 else 0
/-- One cell more in the sums of the program. -/
noncomputable def meanF (D : Array Value) (t : Int × Int × Int) (k : Nat) : Int × Int × Int := (IntKind.i64.wrap (t.1 + num D (3 + k * 1)), IntKind.i64.wrap (t.2.1 + IntKind.i64.wrap (IntKind.i64.wrap (((k : Int)).tdiv 6) * num D (3 + k * 1))), IntKind.i64.wrap (t.2.2 + IntKind.i64.wrap (((k : Int)).tmod 6 * num D (3 + k * 1))))

noncomputable def spec_MeanPlace_e0 : Int × Int × Int × Int → LS
  | (y0_8, y0_9, y0_10, y0_11) => ([.a (.i .i64 (y0_8)), .a (.i .i64 (y0_9)), .a (.i .i64 (y0_10)), .a (.i .i64 (y0_11))], [])

noncomputable def spec_MeanPlace_x0 : Int × Int × Int × Int → Exit × LS
  | t => ((.exit 0), spec_MeanPlace_e0 t)

noncomputable def spec_MeanPlace_g0 (P : Program) (a0 : Array Value) (a1 : Array Value) : Int × Int × Int × Int → Option (Stp (Int × Int × Int × Int) (Int × Int × Int × Int))
  | (y0_8, y0_9, y0_10, y0_11) => bif decide (y0_11 < (36 : Int)) then (bif (decide (0 ≤ y0_11) && decide (y0_11 < 36)) then (bif (decide (0 ≤ y0_11) && decide (y0_11 < 36)) then (bif (decide (0 ≤ y0_11) && decide (y0_11 < 36)) then (some (.more ((IntKind.i64.wrap (y0_8 + (num a1 (3 + ((y0_11).toNat * 1))))), (IntKind.i64.wrap (y0_9 + (IntKind.i64.wrap ((num a1 (3 + ((y0_11).toNat * 1))) * ((y0_11).tmod (6 : Int)))))), (IntKind.i64.wrap (y0_10 + (IntKind.i64.wrap ((num a1 (3 + ((y0_11).toNat * 1))) * (IntKind.i64.wrap ((y0_11).tdiv (6 : Int))))))), (IntKind.i64.wrap (y0_11 + (1 : Int))))))
          else (none))
        else (none))
      else (none))
    else (some (.done (y0_8, y0_9, y0_10, y0_11)))

theorem spec_MeanPlace_s0 (N : Nat) (a0 : Array Value) (a1 : Array Value) : ∀ t : Int × Int × Int × Int, stepV Try.prog (mkΓ [(80, con spec_l02Asked_con), (81, con spec_l02Share_con)]) N (cAt (codeOf Try.f34) [1, 1, 1, 1, 1, 0, 1, 0, 0]) (pAt (mkPlan (codeOf Try.f34) [([8, 9, 10, 11], [])]).1 [1, 1, 1, 1, 1, 0, 1, 0]) [8, 9, 10, 11] [] (⟨[.a (.g a0 29), .a (.g a1 50), .a (.w 0), .a (.w 1), .a (.w 2), .a (.w 3), .a (.i .i64 (0 : Int)), .a (.i .i64 (spec_l02Asked_v0 a0 a1)), .a (.i .i64 (0 : Int)), .a (.i .i64 (0 : Int)), .a (.i .i64 (0 : Int)), .a (.i .i64 (0 : Int)), .a (.i .i64 (spec_l02Asked_v0 a0 a1)), .a (.i .i64 (spec_l02Asked_v0 a0 a1)), .a (.b (((spec_l02Asked_v0 a0 a1) != (0 : Int)))), .a (.u), .a (.u), .a (.u), .a (.u), .a (.u), .a (.u), .a (.u), .a (.u), .a (.u), .a (.u), .a (.u), .a (.u), .a (.u), .a (.u), .a (.u), .a (.u), .a (.u), .a (.u), .a (.u), .a (.u), .a (.u), .a (.u), .a (.u), .a (.u), .a (.u), .a (.u), .a (.u), .a (.u), .a (.u), .a (.u), .a (.u), .a (.u), .a (.u), .a (.u), .a (.u), .a (.u), .a (.u), .a (.u), .a (.u), .a (.u), .a (.u)], [.row a0 29, .row a1 50, .row #[.int .i64 (0 : Int), .int .i64 (0 : Int)] 57, .row #[.int .i64 (0 : Int), .int .i64 (0 : Int)] 57, .no], []⟩ : St) (spec_MeanPlace_e0 t) = mapS spec_MeanPlace_e0 spec_MeanPlace_x0 (spec_MeanPlace_g0 Try.prog a0 a1 t) := by
  rintro ⟨y0_8, y0_9, y0_10, y0_11⟩
  have h : stepV Try.prog (mkΓ [(80, con spec_l02Asked_con), (81, con spec_l02Share_con)]) N (cAt (codeOf Try.f34) [1, 1, 1, 1, 1, 0, 1, 0, 0]) (pAt (mkPlan (codeOf Try.f34) [([8, 9, 10, 11], [])]).1 [1, 1, 1, 1, 1, 0, 1, 0]) [8, 9, 10, 11] [] (⟨[.a (.g a0 29), .a (.g a1 50), .a (.w 0), .a (.w 1), .a (.w 2), .a (.w 3), .a (.i .i64 (0 : Int)), .a (.i .i64 (spec_l02Asked_v0 a0 a1)), .a (.i .i64 (0 : Int)), .a (.i .i64 (0 : Int)), .a (.i .i64 (0 : Int)), .a (.i .i64 (0 : Int)), .a (.i .i64 (spec_l02Asked_v0 a0 a1)), .a (.i .i64 (spec_l02Asked_v0 a0 a1)), .a (.b (((spec_l02Asked_v0 a0 a1) != (0 : Int)))), .a (.u), .a (.u), .a (.u), .a (.u), .a (.u), .a (.u), .a (.u), .a (.u), .a (.u), .a (.u), .a (.u), .a (.u), .a (.u), .a (.u), .a (.u), .a (.u), .a (.u), .a (.u), .a (.u), .a (.u), .a (.u), .a (.u), .a (.u), .a (.u), .a (.u), .a (.u), .a (.u), .a (.u), .a (.u), .a (.u), .a (.u), .a (.u), .a (.u), .a (.u), .a (.u), .a (.u), .a (.u), .a (.u), .a (.u), .a (.u), .a (.u)], [.row a0 29, .row a1 50, .row #[.int .i64 (0 : Int), .int .i64 (0 : Int)] 57, .row #[.int .i64 (0 : Int), .int .i64 (0 : Int)] 57, .no], []⟩ : St) ([.a (.i .i64 (y0_8)), .a (.i .i64 (y0_9)), .a (.i .i64 (y0_10)), .a (.i .i64 (y0_11))], []) = (bif decide (y0_11 < (36 : Int)) then (bif (decide (0 ≤ y0_11) && decide (y0_11 < 36)) then (bif (decide (0 ≤ y0_11) && decide (y0_11 < 36)) then (bif (decide (0 ≤ y0_11) && decide (y0_11 < 36)) then (some (.more ([.a (.i .i64 (IntKind.i64.wrap (y0_8 + (num a1 (3 + ((y0_11).toNat * 1)))))), .a (.i .i64 (IntKind.i64.wrap (y0_9 + (IntKind.i64.wrap ((num a1 (3 + ((y0_11).toNat * 1))) * ((y0_11).tmod (6 : Int))))))), .a (.i .i64 (IntKind.i64.wrap (y0_10 + (IntKind.i64.wrap ((num a1 (3 + ((y0_11).toNat * 1))) * (IntKind.i64.wrap ((y0_11).tdiv (6 : Int)))))))), .a (.i .i64 (IntKind.i64.wrap (y0_11 + (1 : Int))))], [])))
          else (none))
        else (none))
      else (none))
    else (some (.done ((.exit 0), ([.a (.i .i64 (y0_8)), .a (.i .i64 (y0_9)), .a (.i .i64 (y0_10)), .a (.i .i64 (y0_11))], []))))) := by kernel_rfl
  refine h.trans ?_
  simp only [spec_MeanPlace_g0, mapS_cond, mapS_more, mapS_done, mapS_none, spec_MeanPlace_e0, spec_MeanPlace_x0]

noncomputable def spec_MeanPlace_k0_0 (P : Program) (N : Nat) (a0 : Array Value) (a1 : Array Value) (z0_8 : Int) (z0_9 : Int) (z0_10 : Int) (z0_11 : Int) : Option (SV × Eff × Bool) := bif (z0_8 == (0 : Int)) then (some (.t [.g #[.int .i64 (0 : Int), .int .i64 (0 : Int)] 57, .g #[.int .i64 (0 : Int), .int .i64 (0 : Int)] 57, .i .i64 (6 : Int)], .none, true))
    else (bif (spec_l02Share_gd z0_9 z0_8) then (bif (spec_l02Share_gd z0_10 z0_8) then (some (.t [.g #[.int .i64 (IntKind.i64.wrap ((z0_9).tdiv (gcdW z0_9 z0_8))), .int .i64 (IntKind.i64.wrap ((z0_8).tdiv (gcdW z0_9 z0_8)))] 57, .g #[.int .i64 (IntKind.i64.wrap ((z0_10).tdiv (gcdW z0_10 z0_8))), .int .i64 (IntKind.i64.wrap ((z0_8).tdiv (gcdW z0_10 z0_8)))] 57, .i .i64 (0 : Int)], .none, true))
        else (none))
      else (none))

theorem spec_MeanPlace_k0_0_eq (N : Nat) (a0 : Array Value) (a1 : Array Value) (z0_8 : Int) (z0_9 : Int) (z0_10 : Int) (z0_11 : Int) : (kBlock 0 (kSeq (veC Try.prog (mkΓ [(80, con spec_l02Asked_con), (81, con spec_l02Share_con)]) N (cAt (codeOf Try.f34) [1, 1, 1, 1, 1, 1]) (pAt (mkPlan (codeOf Try.f34) [([8, 9, 10, 11], [])]).1 [1, 1, 1, 1, 1, 1]) (SV × Eff × Bool)) (finK Try.prog [] [.cell 4 57, .cell 5 57, .tmp 6]))) (.exit 0) (left (writes (cAt (codeOf Try.f34) [1, 1, 1, 1, 1, 0, 1, 0, 0])) [8, 9, 10, 11] [] (⟨[.a (.g a0 29), .a (.g a1 50), .a (.w 0), .a (.w 1), .a (.w 2), .a (.w 3), .a (.i .i64 (0 : Int)), .a (.i .i64 (spec_l02Asked_v0 a0 a1)), .a (.i .i64 (0 : Int)), .a (.i .i64 (0 : Int)), .a (.i .i64 (0 : Int)), .a (.i .i64 (0 : Int)), .a (.i .i64 (spec_l02Asked_v0 a0 a1)), .a (.i .i64 (spec_l02Asked_v0 a0 a1)), .a (.b (((spec_l02Asked_v0 a0 a1) != (0 : Int)))), .a (.u), .a (.u), .a (.u), .a (.u), .a (.u), .a (.u), .a (.u), .a (.u), .a (.u), .a (.u), .a (.u), .a (.u), .a (.u), .a (.u), .a (.u), .a (.u), .a (.u), .a (.u), .a (.u), .a (.u), .a (.u), .a (.u), .a (.u), .a (.u), .a (.u), .a (.u), .a (.u), .a (.u), .a (.u), .a (.u), .a (.u), .a (.u), .a (.u), .a (.u), .a (.u), .a (.u), .a (.u), .a (.u), .a (.u), .a (.u), .a (.u)], [.row a0 29, .row a1 50, .row #[.int .i64 (0 : Int), .int .i64 (0 : Int)] 57, .row #[.int .i64 (0 : Int), .int .i64 (0 : Int)] 57, .no], []⟩ : St) ([.a (.i .i64 (z0_8)), .a (.i .i64 (z0_9)), .a (.i .i64 (z0_10)), .a (.i .i64 (z0_11))], [])) = spec_MeanPlace_k0_0 Try.prog N a0 a1 z0_8 z0_9 z0_10 z0_11 := by
  have h : (kBlock 0 (kSeq (veC Try.prog (mkΓ [(80, con spec_l02Asked_con), (81, con spec_l02Share_con)]) N (cAt (codeOf Try.f34) [1, 1, 1, 1, 1, 1]) (pAt (mkPlan (codeOf Try.f34) [([8, 9, 10, 11], [])]).1 [1, 1, 1, 1, 1, 1]) (SV × Eff × Bool)) (finK Try.prog [] [.cell 4 57, .cell 5 57, .tmp 6]))) (.exit 0) (left (writes (cAt (codeOf Try.f34) [1, 1, 1, 1, 1, 0, 1, 0, 0])) [8, 9, 10, 11] [] (⟨[.a (.g a0 29), .a (.g a1 50), .a (.w 0), .a (.w 1), .a (.w 2), .a (.w 3), .a (.i .i64 (0 : Int)), .a (.i .i64 (spec_l02Asked_v0 a0 a1)), .a (.i .i64 (0 : Int)), .a (.i .i64 (0 : Int)), .a (.i .i64 (0 : Int)), .a (.i .i64 (0 : Int)), .a (.i .i64 (spec_l02Asked_v0 a0 a1)), .a (.i .i64 (spec_l02Asked_v0 a0 a1)), .a (.b (((spec_l02Asked_v0 a0 a1) != (0 : Int)))), .a (.u), .a (.u), .a (.u), .a (.u), .a (.u), .a (.u), .a (.u), .a (.u), .a (.u), .a (.u), .a (.u), .a (.u), .a (.u), .a (.u), .a (.u), .a (.u), .a (.u), .a (.u), .a (.u), .a (.u), .a (.u), .a (.u), .a (.u), .a (.u), .a (.u), .a (.u), .a (.u), .a (.u), .a (.u), .a (.u), .a (.u), .a (.u), .a (.u), .a (.u), .a (.u), .a (.u), .a (.u), .a (.u), .a (.u), .a (.u), .a (.u)], [.row a0 29, .row a1 50, .row #[.int .i64 (0 : Int), .int .i64 (0 : Int)] 57, .row #[.int .i64 (0 : Int), .int .i64 (0 : Int)] 57, .no], []⟩ : St) ([.a (.i .i64 (z0_8)), .a (.i .i64 (z0_9)), .a (.i .i64 (z0_10)), .a (.i .i64 (z0_11))], [])) = (bif (z0_8 == (0 : Int)) then (some (.t [.g #[.int .i64 (0 : Int), .int .i64 (0 : Int)] 57, .g #[.int .i64 (0 : Int), .int .i64 (0 : Int)] 57, .i .i64 (6 : Int)], .none, true))
    else (bif (spec_l02Share_gd z0_9 z0_8) then (bif (spec_l02Share_gd z0_10 z0_8) then (some (.t [.g #[.int .i64 (IntKind.i64.wrap ((z0_9).tdiv (gcdW z0_9 z0_8))), .int .i64 (IntKind.i64.wrap ((z0_8).tdiv (gcdW z0_9 z0_8)))] 57, .g #[.int .i64 (IntKind.i64.wrap ((z0_10).tdiv (gcdW z0_10 z0_8))), .int .i64 (IntKind.i64.wrap ((z0_8).tdiv (gcdW z0_10 z0_8)))] 57, .i .i64 (0 : Int)], .none, true))
        else (none))
      else (none))) := by kernel_rfl
  refine h.trans ?_
  rfl

theorem spec_MeanPlace_n0 (N : Nat) (a0 : Array Value) (a1 : Array Value) : bindX (iterO (stepV Try.prog (mkΓ [(80, con spec_l02Asked_con), (81, con spec_l02Share_con)]) N (cAt (codeOf Try.f34) [1, 1, 1, 1, 1, 0, 1, 0, 0]) (pAt (mkPlan (codeOf Try.f34) [([8, 9, 10, 11], [])]).1 [1, 1, 1, 1, 1, 0, 1, 0]) [8, 9, 10, 11] [] (⟨[.a (.g a0 29), .a (.g a1 50), .a (.w 0), .a (.w 1), .a (.w 2), .a (.w 3), .a (.i .i64 (0 : Int)), .a (.i .i64 (spec_l02Asked_v0 a0 a1)), .a (.i .i64 (0 : Int)), .a (.i .i64 (0 : Int)), .a (.i .i64 (0 : Int)), .a (.i .i64 (0 : Int)), .a (.i .i64 (spec_l02Asked_v0 a0 a1)), .a (.i .i64 (spec_l02Asked_v0 a0 a1)), .a (.b (((spec_l02Asked_v0 a0 a1) != (0 : Int)))), .a (.u), .a (.u), .a (.u), .a (.u), .a (.u), .a (.u), .a (.u), .a (.u), .a (.u), .a (.u), .a (.u), .a (.u), .a (.u), .a (.u), .a (.u), .a (.u), .a (.u), .a (.u), .a (.u), .a (.u), .a (.u), .a (.u), .a (.u), .a (.u), .a (.u), .a (.u), .a (.u), .a (.u), .a (.u), .a (.u), .a (.u), .a (.u), .a (.u), .a (.u), .a (.u), .a (.u), .a (.u), .a (.u), .a (.u), .a (.u), .a (.u)], [.row a0 29, .row a1 50, .row #[.int .i64 (0 : Int), .int .i64 (0 : Int)] 57, .row #[.int .i64 (0 : Int), .int .i64 (0 : Int)] 57, .no], []⟩ : St)) N ([.a (.i .i64 (0 : Int)), .a (.i .i64 (0 : Int)), .a (.i .i64 (0 : Int)), .a (.i .i64 (0 : Int))], [])) (fun e s => (kBlock 0 (kSeq (veC Try.prog (mkΓ [(80, con spec_l02Asked_con), (81, con spec_l02Share_con)]) N (cAt (codeOf Try.f34) [1, 1, 1, 1, 1, 1]) (pAt (mkPlan (codeOf Try.f34) [([8, 9, 10, 11], [])]).1 [1, 1, 1, 1, 1, 1]) (SV × Eff × Bool)) (finK Try.prog [] [.cell 4 57, .cell 5 57, .tmp 6]))) e (left (writes (cAt (codeOf Try.f34) [1, 1, 1, 1, 1, 0, 1, 0, 0])) [8, 9, 10, 11] [] (⟨[.a (.g a0 29), .a (.g a1 50), .a (.w 0), .a (.w 1), .a (.w 2), .a (.w 3), .a (.i .i64 (0 : Int)), .a (.i .i64 (spec_l02Asked_v0 a0 a1)), .a (.i .i64 (0 : Int)), .a (.i .i64 (0 : Int)), .a (.i .i64 (0 : Int)), .a (.i .i64 (0 : Int)), .a (.i .i64 (spec_l02Asked_v0 a0 a1)), .a (.i .i64 (spec_l02Asked_v0 a0 a1)), .a (.b (((spec_l02Asked_v0 a0 a1) != (0 : Int)))), .a (.u), .a (.u), .a (.u), .a (.u), .a (.u), .a (.u), .a (.u), .a (.u), .a (.u), .a (.u), .a (.u), .a (.u), .a (.u), .a (.u), .a (.u), .a (.u), .a (.u), .a (.u), .a (.u), .a (.u), .a (.u), .a (.u), .a (.u), .a (.u), .a (.u), .a (.u), .a (.u), .a (.u), .a (.u), .a (.u), .a (.u), .a (.u), .a (.u), .a (.u), .a (.u), .a (.u), .a (.u), .a (.u), .a (.u), .a (.u), .a (.u)], [.row a0 29, .row a1 50, .row #[.int .i64 (0 : Int), .int .i64 (0 : Int)] 57, .row #[.int .i64 (0 : Int), .int .i64 (0 : Int)] 57, .no], []⟩ : St) s)) = nodeX (iterO (spec_MeanPlace_g0 Try.prog a0 a1) N ((0 : Int), (0 : Int), (0 : Int), (0 : Int))) (fun x => spec_MeanPlace_k0_0 Try.prog N a0 a1 x.1 x.2.1 x.2.2.1 x.2.2.2) := by
  refine loop_node spec_MeanPlace_e0 spec_MeanPlace_x0 _ _ (spec_MeanPlace_s0 N a0 a1) N ((0 : Int), (0 : Int), (0 : Int), (0 : Int)) _ _ ?_
  intro x; exact spec_MeanPlace_k0_0_eq N a0 a1 x.1 x.2.1 x.2.2.1 x.2.2.2

theorem spec_MeanPlace_ans (N : Nat) (a0 : Array Value) (a1 : Array Value) : ansV Try.prog (mkΓ [(80, con spec_l02Asked_con), (81, con spec_l02Share_con)]) N Try.f34 [([8, 9, 10, 11], [])] [.g a0 29, .g a1 50] [] = (bif ((spec_l02Asked_v0 a0 a1) != (0 : Int)) then (some (.t [.g #[.int .i64 (0 : Int), .int .i64 (0 : Int)] 57, .g #[.int .i64 (0 : Int), .int .i64 (0 : Int)] 57, .i .i64 (spec_l02Asked_v0 a0 a1)], .none, true))
    else (nodeX (iterO (spec_MeanPlace_g0 Try.prog a0 a1) N ((0 : Int), (0 : Int), (0 : Int), (0 : Int))) (fun x => spec_MeanPlace_k0_0 Try.prog N a0 a1 x.1 x.2.1 x.2.2.1 x.2.2.2))) := by
  have h : ansV Try.prog (mkΓ [(80, con spec_l02Asked_con), (81, con spec_l02Share_con)]) N Try.f34 [([8, 9, 10, 11], [])] [.g a0 29, .g a1 50] [] = (bif ((spec_l02Asked_v0 a0 a1) != (0 : Int)) then (some (.t [.g #[.int .i64 (0 : Int), .int .i64 (0 : Int)] 57, .g #[.int .i64 (0 : Int), .int .i64 (0 : Int)] 57, .i .i64 (spec_l02Asked_v0 a0 a1)], .none, true))
    else (bindX (iterO (stepV Try.prog (mkΓ [(80, con spec_l02Asked_con), (81, con spec_l02Share_con)]) N (cAt (codeOf Try.f34) [1, 1, 1, 1, 1, 0, 1, 0, 0]) (pAt (mkPlan (codeOf Try.f34) [([8, 9, 10, 11], [])]).1 [1, 1, 1, 1, 1, 0, 1, 0]) [8, 9, 10, 11] [] (⟨[.a (.g a0 29), .a (.g a1 50), .a (.w 0), .a (.w 1), .a (.w 2), .a (.w 3), .a (.i .i64 (0 : Int)), .a (.i .i64 (spec_l02Asked_v0 a0 a1)), .a (.i .i64 (0 : Int)), .a (.i .i64 (0 : Int)), .a (.i .i64 (0 : Int)), .a (.i .i64 (0 : Int)), .a (.i .i64 (spec_l02Asked_v0 a0 a1)), .a (.i .i64 (spec_l02Asked_v0 a0 a1)), .a (.b (((spec_l02Asked_v0 a0 a1) != (0 : Int)))), .a (.u), .a (.u), .a (.u), .a (.u), .a (.u), .a (.u), .a (.u), .a (.u), .a (.u), .a (.u), .a (.u), .a (.u), .a (.u), .a (.u), .a (.u), .a (.u), .a (.u), .a (.u), .a (.u), .a (.u), .a (.u), .a (.u), .a (.u), .a (.u), .a (.u), .a (.u), .a (.u), .a (.u), .a (.u), .a (.u), .a (.u), .a (.u), .a (.u), .a (.u), .a (.u), .a (.u), .a (.u), .a (.u), .a (.u), .a (.u), .a (.u)], [.row a0 29, .row a1 50, .row #[.int .i64 (0 : Int), .int .i64 (0 : Int)] 57, .row #[.int .i64 (0 : Int), .int .i64 (0 : Int)] 57, .no], []⟩ : St)) N ([.a (.i .i64 (0 : Int)), .a (.i .i64 (0 : Int)), .a (.i .i64 (0 : Int)), .a (.i .i64 (0 : Int))], [])) (fun e s => (kBlock 0 (kSeq (veC Try.prog (mkΓ [(80, con spec_l02Asked_con), (81, con spec_l02Share_con)]) N (cAt (codeOf Try.f34) [1, 1, 1, 1, 1, 1]) (pAt (mkPlan (codeOf Try.f34) [([8, 9, 10, 11], [])]).1 [1, 1, 1, 1, 1, 1]) (SV × Eff × Bool)) (finK Try.prog [] [.cell 4 57, .cell 5 57, .tmp 6]))) e (left (writes (cAt (codeOf Try.f34) [1, 1, 1, 1, 1, 0, 1, 0, 0])) [8, 9, 10, 11] [] (⟨[.a (.g a0 29), .a (.g a1 50), .a (.w 0), .a (.w 1), .a (.w 2), .a (.w 3), .a (.i .i64 (0 : Int)), .a (.i .i64 (spec_l02Asked_v0 a0 a1)), .a (.i .i64 (0 : Int)), .a (.i .i64 (0 : Int)), .a (.i .i64 (0 : Int)), .a (.i .i64 (0 : Int)), .a (.i .i64 (spec_l02Asked_v0 a0 a1)), .a (.i .i64 (spec_l02Asked_v0 a0 a1)), .a (.b (((spec_l02Asked_v0 a0 a1) != (0 : Int)))), .a (.u), .a (.u), .a (.u), .a (.u), .a (.u), .a (.u), .a (.u), .a (.u), .a (.u), .a (.u), .a (.u), .a (.u), .a (.u), .a (.u), .a (.u), .a (.u), .a (.u), .a (.u), .a (.u), .a (.u), .a (.u), .a (.u), .a (.u), .a (.u), .a (.u), .a (.u), .a (.u), .a (.u), .a (.u), .a (.u), .a (.u), .a (.u), .a (.u), .a (.u), .a (.u), .a (.u), .a (.u), .a (.u), .a (.u), .a (.u), .a (.u)], [.row a0 29, .row a1 50, .row #[.int .i64 (0 : Int), .int .i64 (0 : Int)] 57, .row #[.int .i64 (0 : Int), .int .i64 (0 : Int)] 57, .no], []⟩ : St) s)))) := by kernel_rfl
  refine h.trans ?_
  simp only [spec_MeanPlace_n0]

noncomputable def impl_MeanPlace_e0 : Int × Int × Int → BS
  | (r0_7, r0_6, r0_5) => ([.row #[.int .i64 (r0_7)] 2, .row #[.int .i64 (r0_6)] 2, .row #[.int .i64 (r0_5)] 2] : BS)

noncomputable def impl_MeanPlace_x0 : Empty → Exit × BS := fun x => nomatch x

noncomputable def impl_MeanPlace_g0 (P : Program) (a0 : Array Value) (a1 : Array Value) (x0 : Int) : Int × Int × Int → Option (Stp (Int × Int × Int) Empty)
  | (r0_7, r0_6, r0_5) => bif (decide (0 ≤ x0) && decide (x0 < 36)) then (bif (decide (0 ≤ x0) && decide (x0 < 36)) then (bif (decide (0 ≤ x0) && decide (x0 < 36)) then (some (.more ((IntKind.i64.wrap (r0_7 + (num a1 (3 + ((x0).toNat * 1))))), (IntKind.i64.wrap (r0_6 + (IntKind.i64.wrap ((IntKind.i64.wrap ((x0).tdiv (6 : Int))) * (num a1 (3 + ((x0).toNat * 1))))))), (IntKind.i64.wrap (r0_5 + (IntKind.i64.wrap (((x0).tmod (6 : Int)) * (num a1 (3 + ((x0).toNat * 1))))))))))
        else (none))
      else (none))
    else (none)

theorem impl_MeanPlace_s0 (N : Nat) (a0 : Array Value) (a1 : Array Value) (x0 : Int) : ∀ t : Int × Int × Int, stepI Try.prog (mkΓx [(70, con impl_placeOf_con), (84, con impl_spreadCode_con), (85, con impl_shareOf_con)] [(69, impl_eachCell_nc)] [(105, impl_eachCell_1_ic)]) N (cAt (codeOf Try.f35) [1, 1, 1, 1, 0, 1, 0, 0]) (pAt (mkPlan (codeOf Try.f35) [([], [7, 6, 5])]).1 [1, 1, 1, 1, 0, 1, 0]) 16 [7, 6, 5] [29] [(11, 29)] (⟨[.a (.g a0 29), .a (.g a1 50), .a (.w 0), .a (.w 1), .a (.w 2), .a (.w 3), .a (.i .i64 (0 : Int)), .a (.i .i64 (impl_spreadCode_v0 a0 a1)), .a (.w 5), .a (.w 6), .a (.w 7), .a (.u), .a (.u), .a (.g a0 29), .a (.g a1 50), .a (.i .i64 (impl_spreadCode_v0 a0 a1)), .a (.i .i64 (impl_spreadCode_v0 a0 a1)), .a (.b (((impl_spreadCode_v0 a0 a1) != (0 : Int)))), .a (.u), .a (.u), .a (.u), .a (.p 1 (3) 48), .a (.g (a1.extract 3 (3 + 36)) 48), .a (.g (zc Try.prog 48) 48), .a (.b ((sameB (a1.extract 3 (3 + 36)) (zc Try.prog 48)))), .a (.u), .a (.u), .a (.g a0 29), .a (.c 105 [11, 13]), .a (.u), .a (.u), .a (.u), .a (.u), .a (.u), .a (.u), .a (.u), .a (.u), .a (.u), .a (.u), .a (.u), .a (.u), .a (.u), .a (.u), .a (.u), .a (.u), .a (.u), .a (.u), .a (.u), .a (.u), .a (.u), .a (.u), .a (.u), .a (.u), .a (.u), .a (.u), .a (.u), .a (.u), .a (.u), .a (.u), .a (.u), .a (.u), .a (.u)], [.row a0 29, .row a1 50, .row #[.int .i64 (0 : Int), .int .i64 (0 : Int)] 57, .row #[.int .i64 (0 : Int), .int .i64 (0 : Int)] 57, .no, .row #[.int .i64 (0 : Int)] 2, .row #[.int .i64 (0 : Int)] 2, .row #[.int .i64 (0 : Int)] 2, .no, .no, .no, .row #[.int .i64 (num a0 1)] 2, .no, .row #[.int .i64 (num a0 0)] 2, .no, .no], []⟩ : St) [.i .i64 (x0)] (impl_MeanPlace_e0 t) = mapS impl_MeanPlace_e0 impl_MeanPlace_x0 (impl_MeanPlace_g0 Try.prog a0 a1 x0 t) := by
  rintro ⟨r0_7, r0_6, r0_5⟩
  have h : stepI Try.prog (mkΓx [(70, con impl_placeOf_con), (84, con impl_spreadCode_con), (85, con impl_shareOf_con)] [(69, impl_eachCell_nc)] [(105, impl_eachCell_1_ic)]) N (cAt (codeOf Try.f35) [1, 1, 1, 1, 0, 1, 0, 0]) (pAt (mkPlan (codeOf Try.f35) [([], [7, 6, 5])]).1 [1, 1, 1, 1, 0, 1, 0]) 16 [7, 6, 5] [29] [(11, 29)] (⟨[.a (.g a0 29), .a (.g a1 50), .a (.w 0), .a (.w 1), .a (.w 2), .a (.w 3), .a (.i .i64 (0 : Int)), .a (.i .i64 (impl_spreadCode_v0 a0 a1)), .a (.w 5), .a (.w 6), .a (.w 7), .a (.u), .a (.u), .a (.g a0 29), .a (.g a1 50), .a (.i .i64 (impl_spreadCode_v0 a0 a1)), .a (.i .i64 (impl_spreadCode_v0 a0 a1)), .a (.b (((impl_spreadCode_v0 a0 a1) != (0 : Int)))), .a (.u), .a (.u), .a (.u), .a (.p 1 (3) 48), .a (.g (a1.extract 3 (3 + 36)) 48), .a (.g (zc Try.prog 48) 48), .a (.b ((sameB (a1.extract 3 (3 + 36)) (zc Try.prog 48)))), .a (.u), .a (.u), .a (.g a0 29), .a (.c 105 [11, 13]), .a (.u), .a (.u), .a (.u), .a (.u), .a (.u), .a (.u), .a (.u), .a (.u), .a (.u), .a (.u), .a (.u), .a (.u), .a (.u), .a (.u), .a (.u), .a (.u), .a (.u), .a (.u), .a (.u), .a (.u), .a (.u), .a (.u), .a (.u), .a (.u), .a (.u), .a (.u), .a (.u), .a (.u), .a (.u), .a (.u), .a (.u), .a (.u), .a (.u)], [.row a0 29, .row a1 50, .row #[.int .i64 (0 : Int), .int .i64 (0 : Int)] 57, .row #[.int .i64 (0 : Int), .int .i64 (0 : Int)] 57, .no, .row #[.int .i64 (0 : Int)] 2, .row #[.int .i64 (0 : Int)] 2, .row #[.int .i64 (0 : Int)] 2, .no, .no, .no, .row #[.int .i64 (num a0 1)] 2, .no, .row #[.int .i64 (num a0 0)] 2, .no, .no], []⟩ : St) [.i .i64 (x0)] ([.row #[.int .i64 (r0_7)] 2, .row #[.int .i64 (r0_6)] 2, .row #[.int .i64 (r0_5)] 2] : BS) = (bif (decide (0 ≤ x0) && decide (x0 < 36)) then (bif (decide (0 ≤ x0) && decide (x0 < 36)) then (bif (decide (0 ≤ x0) && decide (x0 < 36)) then (some (.more ([.row #[.int .i64 (IntKind.i64.wrap (r0_7 + (num a1 (3 + ((x0).toNat * 1)))))] 2, .row #[.int .i64 (IntKind.i64.wrap (r0_6 + (IntKind.i64.wrap ((IntKind.i64.wrap ((x0).tdiv (6 : Int))) * (num a1 (3 + ((x0).toNat * 1)))))))] 2, .row #[.int .i64 (IntKind.i64.wrap (r0_5 + (IntKind.i64.wrap (((x0).tmod (6 : Int)) * (num a1 (3 + ((x0).toNat * 1)))))))] 2] : BS)))
        else (none))
      else (none))
    else (none)) := by kernel_rfl
  refine h.trans ?_
  simp only [impl_MeanPlace_g0, mapS_cond, mapS_more, mapS_done, mapS_none, impl_MeanPlace_e0, impl_MeanPlace_x0]

noncomputable def impl_MeanPlace_k0_n (P : Program) (N : Nat) (a0 : Array Value) (a1 : Array Value) (q0_7 : Int) (q0_6 : Int) (q0_5 : Int) : Option (SV × Eff × Bool) := bif (impl_shareOf_gd q0_5 q0_7) then (bif (impl_shareOf_gd q0_6 q0_7) then (some (.t [.g (impl_shareOf_v0 q0_5 q0_7) 57, .g (impl_shareOf_v0 q0_6 q0_7) 57, .i .i64 (0 : Int)], .none, true))
      else (none))
    else (none)

theorem impl_MeanPlace_k0_n_eq (N : Nat) (a0 : Array Value) (a1 : Array Value) (q0_7 : Int) (q0_6 : Int) (q0_5 : Int) : (kBlock 0 (kSeq (veC Try.prog (mkΓx [(70, con impl_placeOf_con), (84, con impl_spreadCode_con), (85, con impl_shareOf_con)] [(69, impl_eachCell_nc)] [(105, impl_eachCell_1_ic)]) N (cAt (codeOf Try.f35) [1, 1, 1, 1, 1]) (pAt (mkPlan (codeOf Try.f35) [([], [7, 6, 5])]).1 [1, 1, 1, 1, 1]) (SV × Eff × Bool)) (finK Try.prog [] [.cell 4 57, .cell 5 57, .tmp 6]))) .normal (leftI [7, 6, 5] (⟨[.a (.g a0 29), .a (.g a1 50), .a (.w 0), .a (.w 1), .a (.w 2), .a (.w 3), .a (.i .i64 (0 : Int)), .a (.i .i64 (impl_spreadCode_v0 a0 a1)), .a (.w 5), .a (.w 6), .a (.w 7), .a (.u), .a (.u), .a (.g a0 29), .a (.g a1 50), .a (.i .i64 (impl_spreadCode_v0 a0 a1)), .a (.i .i64 (impl_spreadCode_v0 a0 a1)), .a (.b (((impl_spreadCode_v0 a0 a1) != (0 : Int)))), .a (.u), .a (.u), .a (.u), .a (.p 1 (3) 48), .a (.g (a1.extract 3 (3 + 36)) 48), .a (.g (zc Try.prog 48) 48), .a (.b ((sameB (a1.extract 3 (3 + 36)) (zc Try.prog 48)))), .a (.u), .a (.u), .a (.g a0 29), .a (.c 105 [11, 13]), .a (.u), .a (.u), .a (.u), .a (.u), .a (.u), .a (.u), .a (.u), .a (.u), .a (.u), .a (.u), .a (.u), .a (.u), .a (.u), .a (.u), .a (.u), .a (.u), .a (.u), .a (.u), .a (.u), .a (.u), .a (.u), .a (.u), .a (.u), .a (.u), .a (.u), .a (.u), .a (.u), .a (.u), .a (.u), .a (.u), .a (.u), .a (.u), .a (.u)], [.row a0 29, .row a1 50, .row #[.int .i64 (0 : Int), .int .i64 (0 : Int)] 57, .row #[.int .i64 (0 : Int), .int .i64 (0 : Int)] 57, .no, .row #[.int .i64 (0 : Int)] 2, .row #[.int .i64 (0 : Int)] 2, .row #[.int .i64 (0 : Int)] 2, .no, .no, .no, .row #[.int .i64 (num a0 1)] 2, .no, .row #[.int .i64 (num a0 0)] 2, .no, .no], []⟩ : St) ([.row #[.int .i64 (q0_7)] 2, .row #[.int .i64 (q0_6)] 2, .row #[.int .i64 (q0_5)] 2] : BS)) = impl_MeanPlace_k0_n Try.prog N a0 a1 q0_7 q0_6 q0_5 := by
  have h : (kBlock 0 (kSeq (veC Try.prog (mkΓx [(70, con impl_placeOf_con), (84, con impl_spreadCode_con), (85, con impl_shareOf_con)] [(69, impl_eachCell_nc)] [(105, impl_eachCell_1_ic)]) N (cAt (codeOf Try.f35) [1, 1, 1, 1, 1]) (pAt (mkPlan (codeOf Try.f35) [([], [7, 6, 5])]).1 [1, 1, 1, 1, 1]) (SV × Eff × Bool)) (finK Try.prog [] [.cell 4 57, .cell 5 57, .tmp 6]))) .normal (leftI [7, 6, 5] (⟨[.a (.g a0 29), .a (.g a1 50), .a (.w 0), .a (.w 1), .a (.w 2), .a (.w 3), .a (.i .i64 (0 : Int)), .a (.i .i64 (impl_spreadCode_v0 a0 a1)), .a (.w 5), .a (.w 6), .a (.w 7), .a (.u), .a (.u), .a (.g a0 29), .a (.g a1 50), .a (.i .i64 (impl_spreadCode_v0 a0 a1)), .a (.i .i64 (impl_spreadCode_v0 a0 a1)), .a (.b (((impl_spreadCode_v0 a0 a1) != (0 : Int)))), .a (.u), .a (.u), .a (.u), .a (.p 1 (3) 48), .a (.g (a1.extract 3 (3 + 36)) 48), .a (.g (zc Try.prog 48) 48), .a (.b ((sameB (a1.extract 3 (3 + 36)) (zc Try.prog 48)))), .a (.u), .a (.u), .a (.g a0 29), .a (.c 105 [11, 13]), .a (.u), .a (.u), .a (.u), .a (.u), .a (.u), .a (.u), .a (.u), .a (.u), .a (.u), .a (.u), .a (.u), .a (.u), .a (.u), .a (.u), .a (.u), .a (.u), .a (.u), .a (.u), .a (.u), .a (.u), .a (.u), .a (.u), .a (.u), .a (.u), .a (.u), .a (.u), .a (.u), .a (.u), .a (.u), .a (.u), .a (.u), .a (.u), .a (.u)], [.row a0 29, .row a1 50, .row #[.int .i64 (0 : Int), .int .i64 (0 : Int)] 57, .row #[.int .i64 (0 : Int), .int .i64 (0 : Int)] 57, .no, .row #[.int .i64 (0 : Int)] 2, .row #[.int .i64 (0 : Int)] 2, .row #[.int .i64 (0 : Int)] 2, .no, .no, .no, .row #[.int .i64 (num a0 1)] 2, .no, .row #[.int .i64 (num a0 0)] 2, .no, .no], []⟩ : St) ([.row #[.int .i64 (q0_7)] 2, .row #[.int .i64 (q0_6)] 2, .row #[.int .i64 (q0_5)] 2] : BS)) = (bif (impl_shareOf_gd q0_5 q0_7) then (bif (impl_shareOf_gd q0_6 q0_7) then (some (.t [.g (impl_shareOf_v0 q0_5 q0_7) 57, .g (impl_shareOf_v0 q0_6 q0_7) 57, .i .i64 (0 : Int)], .none, true))
      else (none))
    else (none)) := by kernel_rfl
  refine h.trans ?_
  rfl

theorem impl_MeanPlace_n0 (N : Nat) (a0 : Array Value) (a1 : Array Value) : bindI (foldI (fun (x0 : Int) (hb : BS) => stepI Try.prog (mkΓx [(70, con impl_placeOf_con), (84, con impl_spreadCode_con), (85, con impl_shareOf_con)] [(69, impl_eachCell_nc)] [(105, impl_eachCell_1_ic)]) N (cAt (codeOf Try.f35) [1, 1, 1, 1, 0, 1, 0, 0]) (pAt (mkPlan (codeOf Try.f35) [([], [7, 6, 5])]).1 [1, 1, 1, 1, 0, 1, 0]) 16 [7, 6, 5] [29] [(11, 29)] (⟨[.a (.g a0 29), .a (.g a1 50), .a (.w 0), .a (.w 1), .a (.w 2), .a (.w 3), .a (.i .i64 (0 : Int)), .a (.i .i64 (impl_spreadCode_v0 a0 a1)), .a (.w 5), .a (.w 6), .a (.w 7), .a (.u), .a (.u), .a (.g a0 29), .a (.g a1 50), .a (.i .i64 (impl_spreadCode_v0 a0 a1)), .a (.i .i64 (impl_spreadCode_v0 a0 a1)), .a (.b (((impl_spreadCode_v0 a0 a1) != (0 : Int)))), .a (.u), .a (.u), .a (.u), .a (.p 1 (3) 48), .a (.g (a1.extract 3 (3 + 36)) 48), .a (.g (zc Try.prog 48) 48), .a (.b ((sameB (a1.extract 3 (3 + 36)) (zc Try.prog 48)))), .a (.u), .a (.u), .a (.g a0 29), .a (.c 105 [11, 13]), .a (.u), .a (.u), .a (.u), .a (.u), .a (.u), .a (.u), .a (.u), .a (.u), .a (.u), .a (.u), .a (.u), .a (.u), .a (.u), .a (.u), .a (.u), .a (.u), .a (.u), .a (.u), .a (.u), .a (.u), .a (.u), .a (.u), .a (.u), .a (.u), .a (.u), .a (.u), .a (.u), .a (.u), .a (.u), .a (.u), .a (.u), .a (.u), .a (.u)], [.row a0 29, .row a1 50, .row #[.int .i64 (0 : Int), .int .i64 (0 : Int)] 57, .row #[.int .i64 (0 : Int), .int .i64 (0 : Int)] 57, .no, .row #[.int .i64 (0 : Int)] 2, .row #[.int .i64 (0 : Int)] 2, .row #[.int .i64 (0 : Int)] 2, .no, .no, .no, .row #[.int .i64 (num a0 1)] 2, .no, .row #[.int .i64 (num a0 0)] 2, .no, .no], []⟩ : St) [.i .i64 (x0)] hb) (cellsL (num a0 0) (num a0 1) 36) ([.row #[.int .i64 (0 : Int)] 2, .row #[.int .i64 (0 : Int)] 2, .row #[.int .i64 (0 : Int)] 2] : BS)) (fun hb => (kBlock 0 (kSeq (veC Try.prog (mkΓx [(70, con impl_placeOf_con), (84, con impl_spreadCode_con), (85, con impl_shareOf_con)] [(69, impl_eachCell_nc)] [(105, impl_eachCell_1_ic)]) N (cAt (codeOf Try.f35) [1, 1, 1, 1, 1]) (pAt (mkPlan (codeOf Try.f35) [([], [7, 6, 5])]).1 [1, 1, 1, 1, 1]) (SV × Eff × Bool)) (finK Try.prog [] [.cell 4 57, .cell 5 57, .tmp 6]))) .normal (leftI [7, 6, 5] (⟨[.a (.g a0 29), .a (.g a1 50), .a (.w 0), .a (.w 1), .a (.w 2), .a (.w 3), .a (.i .i64 (0 : Int)), .a (.i .i64 (impl_spreadCode_v0 a0 a1)), .a (.w 5), .a (.w 6), .a (.w 7), .a (.u), .a (.u), .a (.g a0 29), .a (.g a1 50), .a (.i .i64 (impl_spreadCode_v0 a0 a1)), .a (.i .i64 (impl_spreadCode_v0 a0 a1)), .a (.b (((impl_spreadCode_v0 a0 a1) != (0 : Int)))), .a (.u), .a (.u), .a (.u), .a (.p 1 (3) 48), .a (.g (a1.extract 3 (3 + 36)) 48), .a (.g (zc Try.prog 48) 48), .a (.b ((sameB (a1.extract 3 (3 + 36)) (zc Try.prog 48)))), .a (.u), .a (.u), .a (.g a0 29), .a (.c 105 [11, 13]), .a (.u), .a (.u), .a (.u), .a (.u), .a (.u), .a (.u), .a (.u), .a (.u), .a (.u), .a (.u), .a (.u), .a (.u), .a (.u), .a (.u), .a (.u), .a (.u), .a (.u), .a (.u), .a (.u), .a (.u), .a (.u), .a (.u), .a (.u), .a (.u), .a (.u), .a (.u), .a (.u), .a (.u), .a (.u), .a (.u), .a (.u), .a (.u), .a (.u)], [.row a0 29, .row a1 50, .row #[.int .i64 (0 : Int), .int .i64 (0 : Int)] 57, .row #[.int .i64 (0 : Int), .int .i64 (0 : Int)] 57, .no, .row #[.int .i64 (0 : Int)] 2, .row #[.int .i64 (0 : Int)] 2, .row #[.int .i64 (0 : Int)] 2, .no, .no, .no, .row #[.int .i64 (num a0 1)] 2, .no, .row #[.int .i64 (num a0 0)] 2, .no, .no], []⟩ : St) hb)) (fun e hb => (kBlock 0 (kSeq (veC Try.prog (mkΓx [(70, con impl_placeOf_con), (84, con impl_spreadCode_con), (85, con impl_shareOf_con)] [(69, impl_eachCell_nc)] [(105, impl_eachCell_1_ic)]) N (cAt (codeOf Try.f35) [1, 1, 1, 1, 1]) (pAt (mkPlan (codeOf Try.f35) [([], [7, 6, 5])]).1 [1, 1, 1, 1, 1]) (SV × Eff × Bool)) (finK Try.prog [] [.cell 4 57, .cell 5 57, .tmp 6]))) e (leftI [7, 6, 5] (⟨[.a (.g a0 29), .a (.g a1 50), .a (.w 0), .a (.w 1), .a (.w 2), .a (.w 3), .a (.i .i64 (0 : Int)), .a (.i .i64 (impl_spreadCode_v0 a0 a1)), .a (.w 5), .a (.w 6), .a (.w 7), .a (.u), .a (.u), .a (.g a0 29), .a (.g a1 50), .a (.i .i64 (impl_spreadCode_v0 a0 a1)), .a (.i .i64 (impl_spreadCode_v0 a0 a1)), .a (.b (((impl_spreadCode_v0 a0 a1) != (0 : Int)))), .a (.u), .a (.u), .a (.u), .a (.p 1 (3) 48), .a (.g (a1.extract 3 (3 + 36)) 48), .a (.g (zc Try.prog 48) 48), .a (.b ((sameB (a1.extract 3 (3 + 36)) (zc Try.prog 48)))), .a (.u), .a (.u), .a (.g a0 29), .a (.c 105 [11, 13]), .a (.u), .a (.u), .a (.u), .a (.u), .a (.u), .a (.u), .a (.u), .a (.u), .a (.u), .a (.u), .a (.u), .a (.u), .a (.u), .a (.u), .a (.u), .a (.u), .a (.u), .a (.u), .a (.u), .a (.u), .a (.u), .a (.u), .a (.u), .a (.u), .a (.u), .a (.u), .a (.u), .a (.u), .a (.u), .a (.u), .a (.u), .a (.u), .a (.u)], [.row a0 29, .row a1 50, .row #[.int .i64 (0 : Int), .int .i64 (0 : Int)] 57, .row #[.int .i64 (0 : Int), .int .i64 (0 : Int)] 57, .no, .row #[.int .i64 (0 : Int)] 2, .row #[.int .i64 (0 : Int)] 2, .row #[.int .i64 (0 : Int)] 2, .no, .no, .no, .row #[.int .i64 (num a0 1)] 2, .no, .row #[.int .i64 (num a0 0)] 2, .no, .no], []⟩ : St) hb)) = nodeI (foldI (impl_MeanPlace_g0 Try.prog a0 a1) (cellsL (num a0 0) (num a0 1) 36) ((0 : Int), (0 : Int), (0 : Int))) (fun x => impl_MeanPlace_k0_n Try.prog N a0 a1 x.1 x.2.1 x.2.2) (fun x : Empty => nomatch x) := by
  refine iter_node impl_MeanPlace_e0 impl_MeanPlace_x0 _ _ (fun y t => impl_MeanPlace_s0 N a0 a1 y t) _ ((0 : Int), (0 : Int), (0 : Int)) _ _ _ _ ?_ ?_
  · intro x; exact impl_MeanPlace_k0_n_eq N a0 a1 x.1 x.2.1 x.2.2
  · intro x; exact nomatch x

theorem impl_MeanPlace_ans (N : Nat) (a0 : Array Value) (a1 : Array Value) : ansV Try.prog (mkΓx [(70, con impl_placeOf_con), (84, con impl_spreadCode_con), (85, con impl_shareOf_con)] [(69, impl_eachCell_nc)] [(105, impl_eachCell_1_ic)]) N Try.f35 [([], [7, 6, 5])] [.g a0 29, .g a1 50] [] = (bif (impl_ValidSpread_gd a0 a1) then (bif ((impl_spreadCode_v0 a0 a1) != (0 : Int)) then (some (.t [.g #[.int .i64 (0 : Int), .int .i64 (0 : Int)] 57, .g #[.int .i64 (0 : Int), .int .i64 (0 : Int)] 57, .i .i64 (impl_spreadCode_v0 a0 a1)], .none, true))
      else (bif (sameB (a1.extract 3 (3 + 36)) (zc Try.prog 48)) then (some (.t [.g #[.int .i64 (0 : Int), .int .i64 (0 : Int)] 57, .g #[.int .i64 (0 : Int), .int .i64 (0 : Int)] 57, .i .i64 (6 : Int)], .none, true))
        else (bif (decide (0 ≤ (num a0 0)) && decide ((num a0 0) ≤ 6) && (decide (0 ≤ (num a0 1)) && decide ((num a0 1) ≤ 6))) then (nodeI (foldI (impl_MeanPlace_g0 Try.prog a0 a1) (cellsL (num a0 0) (num a0 1) 36) ((0 : Int), (0 : Int), (0 : Int))) (fun x => impl_MeanPlace_k0_n Try.prog N a0 a1 x.1 x.2.1 x.2.2) (fun x : Empty => nomatch x))
          else (none))))
    else (none)) := by
  have h : ansV Try.prog (mkΓx [(70, con impl_placeOf_con), (84, con impl_spreadCode_con), (85, con impl_shareOf_con)] [(69, impl_eachCell_nc)] [(105, impl_eachCell_1_ic)]) N Try.f35 [([], [7, 6, 5])] [.g a0 29, .g a1 50] [] = (bif (impl_ValidSpread_gd a0 a1) then (bif ((impl_spreadCode_v0 a0 a1) != (0 : Int)) then (some (.t [.g #[.int .i64 (0 : Int), .int .i64 (0 : Int)] 57, .g #[.int .i64 (0 : Int), .int .i64 (0 : Int)] 57, .i .i64 (impl_spreadCode_v0 a0 a1)], .none, true))
      else (bif (sameB (a1.extract 3 (3 + 36)) (zc Try.prog 48)) then (some (.t [.g #[.int .i64 (0 : Int), .int .i64 (0 : Int)] 57, .g #[.int .i64 (0 : Int), .int .i64 (0 : Int)] 57, .i .i64 (6 : Int)], .none, true))
        else (bif (decide (0 ≤ (num a0 0)) && decide ((num a0 0) ≤ 6) && (decide (0 ≤ (num a0 1)) && decide ((num a0 1) ≤ 6))) then (bindI (foldI (fun (x0 : Int) (hb : BS) => stepI Try.prog (mkΓx [(70, con impl_placeOf_con), (84, con impl_spreadCode_con), (85, con impl_shareOf_con)] [(69, impl_eachCell_nc)] [(105, impl_eachCell_1_ic)]) N (cAt (codeOf Try.f35) [1, 1, 1, 1, 0, 1, 0, 0]) (pAt (mkPlan (codeOf Try.f35) [([], [7, 6, 5])]).1 [1, 1, 1, 1, 0, 1, 0]) 16 [7, 6, 5] [29] [(11, 29)] (⟨[.a (.g a0 29), .a (.g a1 50), .a (.w 0), .a (.w 1), .a (.w 2), .a (.w 3), .a (.i .i64 (0 : Int)), .a (.i .i64 (impl_spreadCode_v0 a0 a1)), .a (.w 5), .a (.w 6), .a (.w 7), .a (.u), .a (.u), .a (.g a0 29), .a (.g a1 50), .a (.i .i64 (impl_spreadCode_v0 a0 a1)), .a (.i .i64 (impl_spreadCode_v0 a0 a1)), .a (.b (((impl_spreadCode_v0 a0 a1) != (0 : Int)))), .a (.u), .a (.u), .a (.u), .a (.p 1 (3) 48), .a (.g (a1.extract 3 (3 + 36)) 48), .a (.g (zc Try.prog 48) 48), .a (.b ((sameB (a1.extract 3 (3 + 36)) (zc Try.prog 48)))), .a (.u), .a (.u), .a (.g a0 29), .a (.c 105 [11, 13]), .a (.u), .a (.u), .a (.u), .a (.u), .a (.u), .a (.u), .a (.u), .a (.u), .a (.u), .a (.u), .a (.u), .a (.u), .a (.u), .a (.u), .a (.u), .a (.u), .a (.u), .a (.u), .a (.u), .a (.u), .a (.u), .a (.u), .a (.u), .a (.u), .a (.u), .a (.u), .a (.u), .a (.u), .a (.u), .a (.u), .a (.u), .a (.u), .a (.u)], [.row a0 29, .row a1 50, .row #[.int .i64 (0 : Int), .int .i64 (0 : Int)] 57, .row #[.int .i64 (0 : Int), .int .i64 (0 : Int)] 57, .no, .row #[.int .i64 (0 : Int)] 2, .row #[.int .i64 (0 : Int)] 2, .row #[.int .i64 (0 : Int)] 2, .no, .no, .no, .row #[.int .i64 (num a0 1)] 2, .no, .row #[.int .i64 (num a0 0)] 2, .no, .no], []⟩ : St) [.i .i64 (x0)] hb) (cellsL (num a0 0) (num a0 1) 36) ([.row #[.int .i64 (0 : Int)] 2, .row #[.int .i64 (0 : Int)] 2, .row #[.int .i64 (0 : Int)] 2] : BS)) (fun hb => (kBlock 0 (kSeq (veC Try.prog (mkΓx [(70, con impl_placeOf_con), (84, con impl_spreadCode_con), (85, con impl_shareOf_con)] [(69, impl_eachCell_nc)] [(105, impl_eachCell_1_ic)]) N (cAt (codeOf Try.f35) [1, 1, 1, 1, 1]) (pAt (mkPlan (codeOf Try.f35) [([], [7, 6, 5])]).1 [1, 1, 1, 1, 1]) (SV × Eff × Bool)) (finK Try.prog [] [.cell 4 57, .cell 5 57, .tmp 6]))) .normal (leftI [7, 6, 5] (⟨[.a (.g a0 29), .a (.g a1 50), .a (.w 0), .a (.w 1), .a (.w 2), .a (.w 3), .a (.i .i64 (0 : Int)), .a (.i .i64 (impl_spreadCode_v0 a0 a1)), .a (.w 5), .a (.w 6), .a (.w 7), .a (.u), .a (.u), .a (.g a0 29), .a (.g a1 50), .a (.i .i64 (impl_spreadCode_v0 a0 a1)), .a (.i .i64 (impl_spreadCode_v0 a0 a1)), .a (.b (((impl_spreadCode_v0 a0 a1) != (0 : Int)))), .a (.u), .a (.u), .a (.u), .a (.p 1 (3) 48), .a (.g (a1.extract 3 (3 + 36)) 48), .a (.g (zc Try.prog 48) 48), .a (.b ((sameB (a1.extract 3 (3 + 36)) (zc Try.prog 48)))), .a (.u), .a (.u), .a (.g a0 29), .a (.c 105 [11, 13]), .a (.u), .a (.u), .a (.u), .a (.u), .a (.u), .a (.u), .a (.u), .a (.u), .a (.u), .a (.u), .a (.u), .a (.u), .a (.u), .a (.u), .a (.u), .a (.u), .a (.u), .a (.u), .a (.u), .a (.u), .a (.u), .a (.u), .a (.u), .a (.u), .a (.u), .a (.u), .a (.u), .a (.u), .a (.u), .a (.u), .a (.u), .a (.u), .a (.u)], [.row a0 29, .row a1 50, .row #[.int .i64 (0 : Int), .int .i64 (0 : Int)] 57, .row #[.int .i64 (0 : Int), .int .i64 (0 : Int)] 57, .no, .row #[.int .i64 (0 : Int)] 2, .row #[.int .i64 (0 : Int)] 2, .row #[.int .i64 (0 : Int)] 2, .no, .no, .no, .row #[.int .i64 (num a0 1)] 2, .no, .row #[.int .i64 (num a0 0)] 2, .no, .no], []⟩ : St) hb)) (fun e hb => (kBlock 0 (kSeq (veC Try.prog (mkΓx [(70, con impl_placeOf_con), (84, con impl_spreadCode_con), (85, con impl_shareOf_con)] [(69, impl_eachCell_nc)] [(105, impl_eachCell_1_ic)]) N (cAt (codeOf Try.f35) [1, 1, 1, 1, 1]) (pAt (mkPlan (codeOf Try.f35) [([], [7, 6, 5])]).1 [1, 1, 1, 1, 1]) (SV × Eff × Bool)) (finK Try.prog [] [.cell 4 57, .cell 5 57, .tmp 6]))) e (leftI [7, 6, 5] (⟨[.a (.g a0 29), .a (.g a1 50), .a (.w 0), .a (.w 1), .a (.w 2), .a (.w 3), .a (.i .i64 (0 : Int)), .a (.i .i64 (impl_spreadCode_v0 a0 a1)), .a (.w 5), .a (.w 6), .a (.w 7), .a (.u), .a (.u), .a (.g a0 29), .a (.g a1 50), .a (.i .i64 (impl_spreadCode_v0 a0 a1)), .a (.i .i64 (impl_spreadCode_v0 a0 a1)), .a (.b (((impl_spreadCode_v0 a0 a1) != (0 : Int)))), .a (.u), .a (.u), .a (.u), .a (.p 1 (3) 48), .a (.g (a1.extract 3 (3 + 36)) 48), .a (.g (zc Try.prog 48) 48), .a (.b ((sameB (a1.extract 3 (3 + 36)) (zc Try.prog 48)))), .a (.u), .a (.u), .a (.g a0 29), .a (.c 105 [11, 13]), .a (.u), .a (.u), .a (.u), .a (.u), .a (.u), .a (.u), .a (.u), .a (.u), .a (.u), .a (.u), .a (.u), .a (.u), .a (.u), .a (.u), .a (.u), .a (.u), .a (.u), .a (.u), .a (.u), .a (.u), .a (.u), .a (.u), .a (.u), .a (.u), .a (.u), .a (.u), .a (.u), .a (.u), .a (.u), .a (.u), .a (.u), .a (.u), .a (.u)], [.row a0 29, .row a1 50, .row #[.int .i64 (0 : Int), .int .i64 (0 : Int)] 57, .row #[.int .i64 (0 : Int), .int .i64 (0 : Int)] 57, .no, .row #[.int .i64 (0 : Int)] 2, .row #[.int .i64 (0 : Int)] 2, .row #[.int .i64 (0 : Int)] 2, .no, .no, .no, .row #[.int .i64 (num a0 1)] 2, .no, .row #[.int .i64 (num a0 0)] 2, .no, .no], []⟩ : St) hb)))
          else (none))))
    else (none)) := by kernel_rfl
  refine h.trans ?_
  simp only [impl_MeanPlace_n0]

theorem spec_MeanPlace_main (a0 : Array Value) (a1 : Array Value) (h_a0 : WT Try.prog 29 a0) (h_a1 : WT Try.prog 50 a1) (hg : (true) = true) : ansV Try.prog (mkΓ [(80, con spec_l02Asked_con), (81, con spec_l02Share_con)]) 1000 Try.f34 [([8, 9, 10, 11], [])] [.g a0 29, .g a1 50] [] = some (.t [.g (meanG (eastC a1 36) a0 a1) 57, .g (meanG (southC a1 36) a0 a1) 57, .i .i64 (meanI a0 a1)], .none, true) := by
  refine (spec_MeanPlace_ans 1000 a0 a1).trans ?_
  unfold meanG meanI
  cases hA : (spec_l02Asked_v0 a0 a1 != 0)
  case true => rfl
  obtain ⟨hok, hs, h0⟩ := asked_ok hA
  obtain ⟨c1, c2, c3⟩ := sp_cells hs
  have m := mean_le (fun k hk => (c1 k hk).1) 36 (Nat.le_refl _)
  have sz := (sum_zero (fun k hk => (c1 k hk).1) 36 (Nat.le_refl _)).1
  have h := iter_all (g := spec_MeanPlace_g0 Try.prog a0 a1) (fun k => (sumC a1 k, eastC a1 k, southC a1 k, (k : Int))) (m := 36) (x := (sumC a1 36, eastC a1 36, southC a1 36, ((36 : Nat) : Int))) (N := 1000) (fun k hk => by
    have h1 : decide ((k : Int) < 36) = true := decide_eq_true (by omega)
    have h2 : decide (0 ≤ (k : Int)) = true := decide_eq_true (by omega)
    have h3 : IntKind.i64.wrap ((k : Int) + 1) = ((k + 1 : Nat) : Int) := by rw [IntWalk.i64_in _ (by omega)]; omega
    obtain ⟨s1, s2, s3⟩ := mean_step hs hk
    simp only [spec_MeanPlace_g0, h1, h2, h3, cond_true, Bool.and_self, Int.toNat_natCast, s1, s2, s3]) (by
    have h1 : decide (((36 : Nat) : Int) < 36) = false := by decide
    simp only [spec_MeanPlace_g0, h1, cond_false]) (by omega)
  have h' : iterO (spec_MeanPlace_g0 Try.prog a0 a1) 1000 ((0 : Int), (0 : Int), (0 : Int), (0 : Int)) = some (sumC a1 36, eastC a1 36, southC a1 36, ((36 : Nat) : Int)) := h
  simp only [cond_false, h', nodeX, spec_MeanPlace_k0_0]
  generalize sumC a1 36 = w at *
  generalize eastC a1 36 = e at *
  generalize southC a1 36 = s at *
  cases hw : (w == 0)
  · have hw' : w ≠ 0 := beq_eq_false_iff_ne.1 hw
    have sh1 := share_eq (p := e) (w := w) m.1.1 (by omega)
    have sh2 := share_eq (p := s) (w := w) m.2.1 (by omega)
    simp only [cond_false, sh1.2.2, sh2.2.2, cond_true]
    rfl
  · rfl
noncomputable def spec_MeanPlace_con : Con := fun args h => match args, h with
  | [.g a0 29, .g a1 50], [] => some (.t [.g (meanG (eastC a1 36) a0 a1) 57, .g (meanG (southC a1 36) a0 a1) 57, .i .i64 (meanI a0 a1)], .none, true)
  | _, _ => none
theorem spec_MeanPlace_enter : ∀ args w, (callFunc 34 args).run Try.prog w = .ok (.enter 34 args) w := enter_ok (fn := Try.f34) (by kernel_rfl) (by kernel_rfl) (by kernel_rfl)
theorem spec_MeanPlace_ok : ConOk Try.prog 34 spec_MeanPlace_con := (ans_ok (N := 1000) (by kernel_rfl) (mkΓ_cons (con_ok spec_l02Asked_ok) spec_l02Asked_enter (mkΓ_cons (con_ok spec_l02Share_ok) spec_l02Share_enter mkΓ_nil)) (fn := Try.f34) (by kernel_rfl) (by kernel_rfl) [([8, 9, 10, 11], [])]).of (by
  intro ρ h w args vals r e hA hH hr
  unfold spec_MeanPlace_con at hr
  split at hr
  · rename_i a0 a1
    obtain ⟨rfl, hg⟩ := Prod.mk.inj (Option.some.inj hr)
    obtain ⟨rfl, hg2⟩ := Prod.mk.inj hg
    exact spec_MeanPlace_main a0 a1 (hA.wt 0 rfl) (hA.wt 1 rfl) hg2
  · cases hr)

theorem impl_MeanPlace_main (a0 : Array Value) (a1 : Array Value) (h_a0 : WT Try.prog 29 a0) (h_a1 : WT Try.prog 50 a1) (hg : (true) = true) : ansV Try.prog (mkΓx [(70, con impl_placeOf_con), (84, con impl_spreadCode_con), (85, con impl_shareOf_con)] [(69, impl_eachCell_nc)] [(105, impl_eachCell_1_ic)]) 1000 Try.f35 [([], [7, 6, 5])] [.g a0 29, .g a1 50] [] = some (.t [.g (meanG (eastC a1 36) a0 a1) 57, .g (meanG (southC a1 36) a0 a1) 57, .i .i64 (meanI a0 a1)], .none, true) := by
  refine (impl_MeanPlace_ans 1000 a0 a1).trans ?_
  rw [asked_eq, (valid_spread a0 a1).2]
  unfold meanG meanI
  cases hA : (spec_l02Asked_v0 a0 a1 != 0)
  case true => rfl
  obtain ⟨hok, hs, h0⟩ := asked_ok hA
  obtain ⟨c1, c2, c3⟩ := sp_cells hs
  have m := mean_le (fun k hk => (c1 k hk).1) 36 (Nat.le_refl _)
  have sz := (sum_zero (fun k hk => (c1 k hk).1) 36 (Nat.le_refl _)).1
  have hd := okS_iter hok
  have zero : ∀ k, k < 36 → inC (num a0 0) (num a0 1) k = false → num a1 (3 + k * 1) = 0 := fun k hk hn => by
    rcases (c1 k hk).2 with h | h
    · exact h
    · rw [is_inC h_a0 hk, hn] at h; cases h
  have h2 := foldI_grid (X := Empty) (g := impl_MeanPlace_g0 Try.prog a0 a1) (meanF a1) (wd := num a0 0) (hi := num a0 1) (fun t k hk _ => by
    obtain ⟨t1, t2, t3⟩ := t
    have h1 : decide ((k : Int) < 36) = true := decide_eq_true (by omega)
    have h2 : decide (0 ≤ (k : Int)) = true := decide_eq_true (by omega)
    simp only [impl_MeanPlace_g0, h1, h2, cond_true, Bool.and_self, Int.toNat_natCast]
    rfl) ((0 : Int), (0 : Int), (0 : Int))
  have h3 : ∀ n, n ≤ 36 → folds (fun t k => if inC (num a0 0) (num a0 1) k then meanF a1 t k else t) ((0 : Int), (0 : Int), (0 : Int)) n = (sumC a1 n, southC a1 n, eastC a1 n) := by
    intro n
    induction n with
    | zero => intro _; rfl
    | succ n ih =>
      intro hn
      obtain ⟨s1, s2, s3⟩ := mean_step hs (show n < 36 by omega)
      rw [folds_succ, ih (by omega)]
      cases hc : inC (num a0 0) (num a0 1) n
      · have z := zero n (by omega) hc
        rw [sum_succ, east_succ, south_succ, z]
        simp only [Int.zero_mul, Int.add_zero]
        rfl
      · show meanF a1 (sumC a1 n, southC a1 n, eastC a1 n) n = _
        unfold meanF
        rw [Int.mul_comm (IntKind.i64.wrap (((n : Int)).tdiv 6)), Int.mul_comm (((n : Int)).tmod 6), s1, s2, s3]
  rw [h3 36 (Nat.le_refl _)] at h2
  rw [same_zero h_a1 (fun k hk => (c1 k hk).1)]
  simp only [cond_false, cond_true, hd, h2, nodeI, impl_MeanPlace_k0_n]
  generalize sumC a1 36 = w at *
  generalize eastC a1 36 = e at *
  generalize southC a1 36 = s at *
  cases hw : (w == 0)
  · have hw' : w ≠ 0 := beq_eq_false_iff_ne.1 hw
    have sh1 := share_eq (p := e) (w := w) m.1.1 (by omega)
    have sh2 := share_eq (p := s) (w := w) m.2.1 (by omega)
    simp only [cond_false, sh1.2.1, sh2.2.1, cond_true]
    rw [sh1.1, sh2.1]
    rfl
  · rfl
noncomputable def impl_MeanPlace_con : Con := fun args h => match args, h with
  | [.g a0 29, .g a1 50], [] => some (.t [.g (meanG (eastC a1 36) a0 a1) 57, .g (meanG (southC a1 36) a0 a1) 57, .i .i64 (meanI a0 a1)], .none, true)
  | _, _ => none
theorem impl_MeanPlace_enter : ∀ args w, (callFunc 35 args).run Try.prog w = .ok (.enter 35 args) w := enter_ok (fn := Try.f35) (by kernel_rfl) (by kernel_rfl) (by kernel_rfl)
theorem impl_MeanPlace_ok : ConOk Try.prog 35 impl_MeanPlace_con := (ans_ok (N := 1000) (by kernel_rfl) (mkΓx_c (con_ok impl_placeOf_ok) impl_placeOf_enter (mkΓx_c (con_ok impl_spreadCode_ok) impl_spreadCode_enter (mkΓx_c (con_ok impl_shareOf_ok) impl_shareOf_enter (mkΓx_n impl_eachCell_nok impl_eachCell_enter (mkΓx_i impl_eachCell_1_iok impl_eachCell_1_enter mkΓx_nil))))) (fn := Try.f35) (by kernel_rfl) (by kernel_rfl) [([], [7, 6, 5])]).of (by
  intro ρ h w args vals r e hA hH hr
  unfold impl_MeanPlace_con at hr
  split at hr
  · rename_i a0 a1
    obtain ⟨rfl, hg⟩ := Prod.mk.inj (Option.some.inj hr)
    obtain ⟨rfl, hg2⟩ := Prod.mk.inj hg
    exact impl_MeanPlace_main a0 a1 (hA.wt 0 rfl) (hA.wt 1 rfl) hg2
  · cases hr)

theorem laws_FnExactMeanPlace_ans (N : Nat) (a0 : Array Value) (a1 : Array Value) : ansV Try.prog (mkΓ [(19, con laws_toSea_con), (31, con laws_toSpread_con), (33, con laws_eqShare_con), (34, con spec_MeanPlace_con), (35, con impl_MeanPlace_con)]) N Try.f10 [] [.g a0 37, .g a1 55] [] = (bif (!((laws_eqShare_v0 (meanG (eastC a1 36) a0 a1) (meanG (eastC a1 36) a0 a1)))) then (some (.a (.b (false)), .none, true))
    else (bif (!((laws_eqShare_v0 (meanG (southC a1 36) a0 a1) (meanG (southC a1 36) a0 a1)))) then (some (.a (.b (false)), .none, true))
      else (bif ((meanI a0 a1) != (meanI a0 a1)) then (some (.a (.b (false)), .none, true))
        else (some (.a (.b (true)), .none, true))))) := by kernel_rfl

noncomputable def laws_FnExactMeanPlace_v0 (a0 : Array Value) (a1 : Array Value) : Bool := (bif (!((laws_eqShare_v0 (meanG (eastC a1 36) a0 a1) (meanG (eastC a1 36) a0 a1)))) then false else (bif (!((laws_eqShare_v0 (meanG (southC a1 36) a0 a1) (meanG (southC a1 36) a0 a1)))) then false else (bif ((meanI a0 a1) != (meanI a0 a1)) then false else true)))

theorem laws_FnExactMeanPlace_main (a0 : Array Value) (a1 : Array Value) (h_a0 : WT Try.prog 37 a0) (h_a1 : WT Try.prog 55 a1) (hg : (true) = true) : ansV Try.prog (mkΓ [(19, con laws_toSea_con), (31, con laws_toSpread_con), (33, con laws_eqShare_con), (34, con spec_MeanPlace_con), (35, con impl_MeanPlace_con)]) 1000 Try.f10 [] [.g a0 37, .g a1 55] [] = some (.a (.b ((laws_FnExactMeanPlace_v0 a0 a1))), .none, true) := by
  refine (laws_FnExactMeanPlace_ans 1000 a0 a1).trans ?_
  unfold laws_FnExactMeanPlace_v0
  revert hg
  generalize ((!((laws_eqShare_v0 (meanG (eastC a1 36) a0 a1) (meanG (eastC a1 36) a0 a1))))) = b2
  intro hg
  cases b2
  · skip
    revert hg
    generalize ((!((laws_eqShare_v0 (meanG (southC a1 36) a0 a1) (meanG (southC a1 36) a0 a1))))) = b4
    intro hg
    cases b4
    · skip
      revert hg
      generalize (((meanI a0 a1) != (meanI a0 a1))) = b6
      intro hg
      cases b6
      · skip
        first | (simp only [cond_true, cond_false, Bool.and_true, Bool.true_and, Bool.and_false, Bool.false_and]; done) | rfl | exact (nomatch (hg : false = true))
      · skip
        first | (simp only [cond_true, cond_false, Bool.and_true, Bool.true_and, Bool.and_false, Bool.false_and]; done) | rfl | exact (nomatch (hg : false = true))
    · skip
      first | (simp only [cond_true, cond_false, Bool.and_true, Bool.true_and, Bool.and_false, Bool.false_and]; done) | rfl | exact (nomatch (hg : false = true))
  · skip
    first | (simp only [cond_true, cond_false, Bool.and_true, Bool.true_and, Bool.and_false, Bool.false_and]; done) | rfl | exact (nomatch (hg : false = true))
noncomputable def laws_FnExactMeanPlace_con : Con := fun args h => match args, h with
  | [.g a0 37, .g a1 55], [] => some (.a (.b ((laws_FnExactMeanPlace_v0 a0 a1))), .none, true)
  | _, _ => none
theorem laws_FnExactMeanPlace_enter : ∀ args w, (callFunc 10 args).run Try.prog w = .ok (.enter 10 args) w := enter_ok (fn := Try.f10) (by kernel_rfl) (by kernel_rfl) (by kernel_rfl)
theorem laws_FnExactMeanPlace_ok : ConOk Try.prog 10 laws_FnExactMeanPlace_con := (ans_ok (N := 1000) (by kernel_rfl) (mkΓ_cons (con_ok laws_toSea_ok) laws_toSea_enter (mkΓ_cons (con_ok laws_toSpread_ok) laws_toSpread_enter (mkΓ_cons (con_ok laws_eqShare_ok) laws_eqShare_enter (mkΓ_cons (con_ok spec_MeanPlace_ok) spec_MeanPlace_enter (mkΓ_cons (con_ok impl_MeanPlace_ok) impl_MeanPlace_enter mkΓ_nil))))) (fn := Try.f10) (by kernel_rfl) (by kernel_rfl) []).of (by
  intro ρ h w args vals r e hA hH hr
  unfold laws_FnExactMeanPlace_con at hr
  split at hr
  · rename_i a0 a1
    obtain ⟨rfl, hg⟩ := Prod.mk.inj (Option.some.inj hr)
    obtain ⟨rfl, hg2⟩ := Prod.mk.inj hg
    exact laws_FnExactMeanPlace_main a0 a1 (hA.wt 0 rfl) (hA.wt 1 rfl) hg2
  · cases hr)

theorem laws_FnExactMeanPlace_true (a0 : Array Value) (a1 : Array Value) (h_a0 : WT Try.prog 37 a0) (h_a1 : WT Try.prog 55 a1) : (true) = true ∧ ((laws_FnExactMeanPlace_v0 a0 a1)) = true := by
  refine ⟨rfl, ?_⟩
  unfold laws_FnExactMeanPlace_v0 laws_eqShare_v0
  simp only [bne_self_eq_false, cond_false, Bool.not_true]

namespace lawFnExactMeanPlace
theorem lifted (os : Os) (started : os.Started) (H : Type) (enc : TypeId × Value → H) :
    ReturnsInHanded {} Try.checked os 10 .any (Rows.fnExactMeanPlaceSpec.pre6 enc Try.prog Try.f10 Rows.fnExactMeanPlaceRow.domain false) (Rows.fnExactMeanPlaceSpec.post enc Try.prog Try.f10 false true false false) := by
  refine law_lifted (C := Try.checked) (tb := 4) (by kernel_rfl) (by kernel_rfl) (by kernel_rfl) Try.func10 (by kernel_rfl) Try.underlying4 (of_decide_eq_true (by kernel_rfl)) rfl ?_ os started H enc
    (ChangeSpec.witness6 (enc := enc) (C := Try.checked) false ⟨#[], #[.agg (zc Try.prog 37), .agg (zc Try.prog 55)], []⟩ 8 (by kernel_rfl) (by kernel_rfl) (by kernel_rfl) (by kernel_rfl)) ?_
  · intro H ds hds
    rw [show Try.f10.params.toList.length = 2 by kernel_rfl] at hds
    match ds, hds with
    | [_, _], _ => rfl
  · intro W base args ds ps hval hA
    rw [Try.params10] at hA hval
    obtain ⟨v0, v1, d0, d1, p0, p1, hargs, rfl, rfl, h0, h1⟩ := trodAll_two hA
    obtain ⟨a0, e0, w0⟩ := open_data (t := 37) 8 (by kernel_rfl) (by kernel_rfl) (hval 0 37 v0 rfl (by rw [hargs]; rfl)) h0
    obtain ⟨a1, e1, w1⟩ := open_data (t := 55) 8 (by kernel_rfl) (by kernel_rfl) (hval 1 55 v1 rfl (by rw [hargs]; rfl)) h1
    obtain rfl : args = #[.agg a0, .agg a1] := by rw [hargs, e0, e1]
    obtain ⟨hg, hv⟩ := laws_FnExactMeanPlace_true a0 a1 w0 w1
    have hr : laws_FnExactMeanPlace_con [.g a0 37, .g a1 55] [] = some (.a (.b true), .none, true) := by
      show (some (SV.a (SA.b ((laws_FnExactMeanPlace_v0 a0 a1))), Eff.none, true) : Option (SV × Eff × Bool)) = _
      rw [hg, hv]
    exact calls_con laws_FnExactMeanPlace_ok hr W (vals := [.agg a0, .agg a1]) (allCons ⟨rfl, w0⟩ (allCons ⟨rfl, w1⟩ allNil))

theorem over : Rows.fnExactMeanPlaceRow.holds Try.pinned (OpenSpec.ofChange Rows.fnExactMeanPlaceSpec) :=
  OpenClaim.holds_of_wide 10 Try.f10 rfl rfl rfl rfl rfl rfl rfl ⟨rfl, rfl, rfl, rfl, rfl⟩ rfl rfl rfl rfl rfl (by kernel_rfl) Try.func10 (by kernel_rfl)
    (of_decide_eq_true (by kernel_rfl)) (by unfold Func.isWrapper; first | (rw [if_pos (by decide +kernel)]; kernel_rfl) | (rw [if_neg (by decide +kernel)]; exact ⟨rfl, rfl⟩))
    (fun os started H enc _ => lifted os started H enc)

theorem proved : Rows.FnExactMeanPlaceSaid := over
#print axioms proved
end lawFnExactMeanPlace

end
end Go.Proofs.Ytafmhcdelokmbaa
