/- The steps from a cell. -/
import Derived.Test.YtmkkckhfghomfaaProg
import Derived.Test.YtmkkckhfghomfaaVeStA
namespace Go.Proofs.Ytmkkckhfghomfaa
open Go.ChangeShapes Go.WideShapes Go.ChangeAt Go.RowKit Ve
set_option linter.unusedVariables false
set_option linter.unusedSimpArgs false
set_option maxRecDepth 100000
noncomputable section

noncomputable def pl (c : Int) : Nat → Array Value
  | 0 => #[.int .i64 (c.tmod 6), .int .i64 (IntKind.i64.wrap (c.tdiv 6))]
  | 1 => #[.int .i64 (c.tmod 6), .int .i64 (IntKind.i64.wrap (IntKind.i64.wrap (c.tdiv 6) - 1))]
  | 2 => #[.int .i64 (IntKind.i64.wrap (c.tmod 6 + 1)), .int .i64 (IntKind.i64.wrap (c.tdiv 6))]
  | 3 => #[.int .i64 (c.tmod 6), .int .i64 (IntKind.i64.wrap (IntKind.i64.wrap (c.tdiv 6) + 1))]
  | _ => #[.int .i64 (IntKind.i64.wrap (c.tmod 6 - 1)), .int .i64 (IntKind.i64.wrap (c.tdiv 6))]
theorem hp_eq {S : Array Value} (h0 : 1 ≤ num S 0 ∧ num S 0 ≤ 6 ∧ 1 ≤ num S 1 ∧ num S 1 ≤ 6) (x y : Int) : impl_hasPlace_v0 S #[.int .i64 x, .int .i64 y] = decide (0 ≤ x ∧ x < num S 0 ∧ 0 ≤ y ∧ y < num S 1) := by
  obtain ⟨a1, a2, a3, a4⟩ := h0
  show (bif decide (x ≥ 0) then (bif decide (x < IntKind.i64.wrap (num S 0)) then (bif decide (y ≥ 0) then decide (y < IntKind.i64.wrap (num S 1)) else false) else false) else false) = _
  rw [w64 (n := num S 0) (by omega), w64 (n := num S 1) (by omega)]
  have : ∀ a b c d : Prop, [Decidable a] → [Decidable b] → [Decidable c] → [Decidable d] → (bif decide a then (bif decide b then (bif decide c then decide d else false) else false) else false) = decide (a ∧ b ∧ c ∧ d) := by
    intro a b c d _ _ _ _
    by_cases a <;> by_cases b <;> by_cases c <;> by_cases d <;> simp [*]
  exact this _ _ _ _
theorem place_nice {S : Array Value} (h0 : 1 ≤ num S 0 ∧ num S 0 ≤ 6 ∧ 1 ≤ num S 1 ∧ num S 1 ≤ 6) {k : Nat} (hk : k < 36) (hi : inC (num S 0) (num S 1) k = true) (w : Nat) (hw : w < 5) :
    impl_hasPlace_v0 S (pl (k : Int) w) = decide (gw S k w ≠ -1) ∧ (gw S k w ≠ -1 → IntKind.i64.wrap (num (pl (k : Int) w) 0 + IntKind.i64.wrap (6 * num (pl (k : Int) w) 1)) = gw S k w) := by
  obtain ⟨hx, hy⟩ := inC_lt hi
  obtain ⟨ex, ey⟩ := xy hk
  have hxl : k % 6 < 6 := Nat.mod_lt _ (by omega)
  have hyl : k / 6 < 6 := by omega
  have hk6 : k = 6 * (k / 6) + k % 6 := by omega
  have h0' := h0
  obtain ⟨a1, a2, a3, a4⟩ := h0
  generalize hX : k % 6 = X at *
  generalize hY : k / 6 = Y at *
  have eY : IntKind.i64.wrap ((Y : Nat) : Int) = Y := w64 (by omega)
  match w, hw with
  | 0, _ =>
    have e : pl (k : Int) 0 = #[.int .i64 (X : Int), .int .i64 (Y : Int)] := by unfold pl; rw [ex, ey, eY]; rfl
    rw [e, hp_eq h0']
    refine ⟨decide_eq_decide.2 ?_, fun _ => ?_⟩
    · show _ ↔ (k : Int) ≠ -1; omega
    · show IntKind.i64.wrap ((X : Int) + IntKind.i64.wrap (6 * (Y : Int))) = (k : Int)
      rw [w64 (n := 6 * (Y : Int)) (by omega), w64 (by omega)]; omega
  | 1, _ =>
    have e : pl (k : Int) 1 = #[.int .i64 (X : Int), .int .i64 ((Y : Int) - 1)] := by unfold pl; rw [ex, ey, eY, w64 (n := (Y : Int) - 1) (by omega)]; rfl
    rw [e, hp_eq h0']
    have hg : gw S k 1 = if 6 ≤ k then (k : Int) - 6 else -1 := by unfold gw; by_cases c : 6 ≤ k <;> simp [c]
    rw [hg]
    refine ⟨decide_eq_decide.2 ?_, fun hn => ?_⟩
    · split <;> omega
    · show IntKind.i64.wrap ((X : Int) + IntKind.i64.wrap (6 * ((Y : Int) - 1))) = _
      rw [w64 (n := 6 * ((Y : Int) - 1)) (by omega), w64 (by omega)]
      split at hn <;> split <;> omega
  | 2, _ =>
    have e : pl (k : Int) 2 = #[.int .i64 ((X : Int) + 1), .int .i64 (Y : Int)] := by unfold pl; rw [ex, ey, eY, w64 (n := (X : Int) + 1) (by omega)]; rfl
    rw [e, hp_eq h0']
    have hg : gw S k 2 = if (X : Int) + 1 < num S 0 then (k : Int) + 1 else -1 := by unfold gw; rw [hX]; by_cases c : (X : Int) + 1 < num S 0 <;> simp [c]
    rw [hg]
    refine ⟨decide_eq_decide.2 ?_, fun hn => ?_⟩
    · split <;> omega
    · show IntKind.i64.wrap ((X : Int) + 1 + IntKind.i64.wrap (6 * (Y : Int))) = _
      rw [w64 (n := 6 * (Y : Int)) (by omega), w64 (by omega)]
      split at hn <;> split <;> omega
  | 3, _ =>
    have e : pl (k : Int) 3 = #[.int .i64 (X : Int), .int .i64 ((Y : Int) + 1)] := by unfold pl; rw [ex, ey, eY, w64 (n := (Y : Int) + 1) (by omega)]; rfl
    rw [e, hp_eq h0']
    have hg : gw S k 3 = if (Y : Int) + 1 < num S 1 then (k : Int) + 6 else -1 := by unfold gw; rw [hY]; by_cases c : (Y : Int) + 1 < num S 1 <;> simp [c]
    rw [hg]
    refine ⟨decide_eq_decide.2 ?_, fun hn => ?_⟩
    · split <;> omega
    · show IntKind.i64.wrap ((X : Int) + IntKind.i64.wrap (6 * ((Y : Int) + 1))) = _
      rw [w64 (n := 6 * ((Y : Int) + 1)) (by omega), w64 (by omega)]
      split at hn <;> split <;> omega
  | 4, _ =>
    have e : pl (k : Int) 4 = #[.int .i64 ((X : Int) - 1), .int .i64 (Y : Int)] := by unfold pl; rw [ex, ey, eY, w64 (n := (X : Int) - 1) (by omega)]; rfl
    rw [e, hp_eq h0']
    have hg : gw S k 4 = if 1 ≤ X then (k : Int) - 1 else -1 := by unfold gw; rw [hX]; by_cases c : 1 ≤ X <;> simp [c]
    rw [hg]
    refine ⟨decide_eq_decide.2 ?_, fun hn => ?_⟩
    · split <;> omega
    · show IntKind.i64.wrap ((X : Int) - 1 + IntKind.i64.wrap (6 * (Y : Int))) = _
      rw [w64 (n := 6 * (Y : Int)) (by omega), w64 (by omega)]
      split at hn <;> split <;> omega
/-- A step by a way, if there is one. -/
noncomputable def oneSt (S : Array Value) (t : Int) (k w : Nat) : List (Int × Int) := bif decide (chW S t (k : Int) w > 0) && decide (gw S k w ≠ -1) then [(gw S k w, chW S t (k : Int) w)] else []
/-- The steps from a cell. -/
noncomputable def stL (S : Array Value) (t : Int) (k : Nat) : List (Int × Int) := bif impl_isLand_v0 S (k : Int) then [((k : Int), 12)] else oneSt S t k 1 ++ oneSt S t k 4 ++ oneSt S t k 0 ++ oneSt S t k 2 ++ oneSt S t k 3
noncomputable def encSt (l : List (Int × Int)) : Array Value := ⟨l.flatMap fun p => [.int .i64 p.1, .int .i64 p.2]⟩
theorem encSt_app (l m : List (Int × Int)) : encSt (l ++ m) = encSt l ++ encSt m := by unfold encSt; simp
noncomputable def stF (S : Array Value) (t c : Int) (w : Nat) (q : Nat × Array Value) : Nat × Array Value :=
  bif decide (chW S t c w > 0) then (bif impl_hasPlace_v0 S (pl c w) then (q.1 + 1, q.2 ++ #[.int .i64 (IntKind.i64.wrap (num (pl c w) 0 + IntKind.i64.wrap (6 * num (pl c w) 1))), .int .i64 (chW S t c w)]) else (q.1, q.2)) else (q.1, q.2)
theorem stF_one {S : Array Value} (h0 : 1 ≤ num S 0 ∧ num S 0 ≤ 6 ∧ 1 ≤ num S 1 ∧ num S 1 ≤ 6) {k : Nat} (hk : k < 36) (hi : inC (num S 0) (num S 1) k = true) (t : Int) {w : Nat} (hw : w < 5) (l : List (Int × Int)) :
    stF S t (k : Int) w (l.length, encSt l) = ((l ++ oneSt S t k w).length, encSt (l ++ oneSt S t k w)) := by
  obtain ⟨h1, h2⟩ := place_nice h0 hk hi w hw
  unfold stF oneSt
  rw [h1]
  cases decide (chW S t (k : Int) w > 0) with
  | false => simp
  | true =>
    cases hd : decide (gw S k w ≠ -1) with
    | false => simp
    | true =>
      rw [h2 (of_decide_eq_true hd)]
      simp only [cond_true, Bool.and_self, List.length_append, List.length_cons, List.length_nil, encSt_app]
      rfl

noncomputable def impl_stepsFrom_e0_0 (t : Nat × Array Value) : LS := ([.a (.i .i64 (0 : Int)), .a (.l 5)], [.sl .own t.1 t.2 110])

noncomputable def impl_stepsFrom_e0_1 (t : Nat × Array Value) : LS := ([.a (.i .i64 (1 : Int)), .a (.l 5)], [.sl .own t.1 t.2 110])

noncomputable def impl_stepsFrom_e0_2 (t : Nat × Array Value) : LS := ([.a (.i .i64 (2 : Int)), .a (.l 5)], [.sl .own t.1 t.2 110])

noncomputable def impl_stepsFrom_e0_3 (t : Nat × Array Value) : LS := ([.a (.i .i64 (3 : Int)), .a (.l 5)], [.sl .own t.1 t.2 110])

noncomputable def impl_stepsFrom_e0_4 (t : Nat × Array Value) : LS := ([.a (.i .i64 (4 : Int)), .a (.l 5)], [.sl .own t.1 t.2 110])

noncomputable def impl_stepsFrom_e0_5 (t : Nat × Array Value) : LS := ([.a (.i .i64 (5 : Int)), .a (.l 5)], [.sl .own t.1 t.2 110])

noncomputable def impl_stepsFrom_F0_0 (a0 : Array Value) (a1 : Int) (a2 : Int) (t : Nat × Array Value) : Nat × Array Value := bif decide ((IntKind.i64.wrap (num a0 (((3 + ((a2).toNat * 180)) + ((a1).toNat * 5)) + 1))) > (0 : Int)) then (bif (impl_hasPlace_v0 a0 (#[.int .i64 (num (#[.int .i64 ((a1).tmod (6 : Int)), .int .i64 (IntKind.i64.wrap ((a1).tdiv (6 : Int)))] : Array Value) 0), .int .i64 (IntKind.i64.wrap ((num (#[.int .i64 ((a1).tmod (6 : Int)), .int .i64 (IntKind.i64.wrap ((a1).tdiv (6 : Int)))] : Array Value) 1) - (1 : Int)))] : Array Value)) then (((t.1 + 1), (t.2 ++ (#[.int .i64 (IntKind.i64.wrap ((num (#[.int .i64 (num (#[.int .i64 ((a1).tmod (6 : Int)), .int .i64 (IntKind.i64.wrap ((a1).tdiv (6 : Int)))] : Array Value) 0), .int .i64 (IntKind.i64.wrap ((num (#[.int .i64 ((a1).tmod (6 : Int)), .int .i64 (IntKind.i64.wrap ((a1).tdiv (6 : Int)))] : Array Value) 1) - (1 : Int)))] : Array Value) 0) + (IntKind.i64.wrap ((6 : Int) * (num (#[.int .i64 (num (#[.int .i64 ((a1).tmod (6 : Int)), .int .i64 (IntKind.i64.wrap ((a1).tdiv (6 : Int)))] : Array Value) 0), .int .i64 (IntKind.i64.wrap ((num (#[.int .i64 ((a1).tmod (6 : Int)), .int .i64 (IntKind.i64.wrap ((a1).tdiv (6 : Int)))] : Array Value) 1) - (1 : Int)))] : Array Value) 1))))), .int .i64 (IntKind.i64.wrap (num a0 (((3 + ((a2).toNat * 180)) + ((a1).toNat * 5)) + 1)))] : Array Value)))) else ((t.1, t.2))) else ((t.1, t.2))

theorem impl_stepsFrom_r0_0 (N : Nat) (a0 : Array Value) (a1 : Int) (a2 : Int) (hq0 : (decide (0 ≤ a2) && decide (a2 < 2)) = true) (hq1 : (decide (0 ≤ a1) && decide (a1 < 36)) = true) (t : Nat × Array Value) (hl : t.1 ≤ 1000000) : stepVG Try.prog (mkΓ [(92, con impl_isLand_con), (96, con impl_hasPlace_con), (97, con impl_placeOf_con), (98, con impl_allWays_con), (99, con impl_waysByCell_con), (100, con impl_cellOf_con), (106, con impl_place_here_con), (107, con impl_place_north_con), (108, con impl_place_east_con), (109, con impl_place_south_con), (110, con impl_place_west_con)]) N (cAt (codeOf Try.f79) [1, 1, 1, 1, 0, 1, 0, 0]) (pAt (mkPlan (codeOf Try.f79) [([21], [1000007, 110])]).1 [1, 1, 1, 1, 0, 1, 0]) [21] [] 7 110 5 (⟨.a (.g a0 36) :: .a (.i .i64 (a1)) :: .a (.i .i64 (a2)) :: .a (.w 0) :: .a (.u) :: .a (.u) :: .a (.v (.slice none 0 0)) :: .a (.l 5) :: .a (.w 3) :: us 4 (.a (.g a0 36) :: .a (.i .i64 (a1)) :: .a (.b ((impl_isLand_v0 a0 a1))) :: us 3 (.a (.g #[.func (.func 106) #[] #[], .func (.func 107) #[] #[], .func (.func 108) #[] #[], .func (.func 109) #[] #[], .func (.func 110) #[] #[]] 126) :: .a (.g #[.int .u8 (1 : Int), .int .u8 (4 : Int), .int .u8 (0 : Int), .int .u8 (2 : Int), .int .u8 (3 : Int)] 24) :: .a (.i .i64 (0 : Int)) :: us 34 ([]))), [.row a0 36, .no, .no, .row #[.func (.func 106) #[] #[], .func (.func 107) #[] #[], .func (.func 108) #[] #[], .func (.func 109) #[] #[], .func (.func 110) #[] #[]] 126, .no, .sl .own 0 (#[] : Array Value) 110], [3]⟩ : St) (impl_stepsFrom_e0_0 t) = some (.more (impl_stepsFrom_e0_1 (impl_stepsFrom_F0_0 a0 a1 a2 t))) := by
  refine Eq.trans (b := (bif (decide (0 ≤ a2) && decide (a2 < 2)) then (bif (decide (0 ≤ a1) && decide (a1 < 36)) then (bif decide ((IntKind.i64.wrap (num a0 (((3 + ((a2).toNat * 180)) + ((a1).toNat * 5)) + 1))) > (0 : Int)) then (bif (impl_hasPlace_v0 a0 (#[.int .i64 (num (#[.int .i64 ((a1).tmod (6 : Int)), .int .i64 (IntKind.i64.wrap ((a1).tdiv (6 : Int)))] : Array Value) 0), .int .i64 (IntKind.i64.wrap ((num (#[.int .i64 ((a1).tmod (6 : Int)), .int .i64 (IntKind.i64.wrap ((a1).tdiv (6 : Int)))] : Array Value) 1) - (1 : Int)))] : Array Value)) then (bif (Nat.ble ((t.1 + 1) * bytesOf Try.prog 110) 140737488355328) then (some (.more ([.a (.i .i64 (1 : Int)), .a (.l 5)], [.sl .own (t.1 + 1) (t.2 ++ (#[.int .i64 (IntKind.i64.wrap ((num (#[.int .i64 (num (#[.int .i64 ((a1).tmod (6 : Int)), .int .i64 (IntKind.i64.wrap ((a1).tdiv (6 : Int)))] : Array Value) 0), .int .i64 (IntKind.i64.wrap ((num (#[.int .i64 ((a1).tmod (6 : Int)), .int .i64 (IntKind.i64.wrap ((a1).tdiv (6 : Int)))] : Array Value) 1) - (1 : Int)))] : Array Value) 0) + (IntKind.i64.wrap ((6 : Int) * (num (#[.int .i64 (num (#[.int .i64 ((a1).tmod (6 : Int)), .int .i64 (IntKind.i64.wrap ((a1).tdiv (6 : Int)))] : Array Value) 0), .int .i64 (IntKind.i64.wrap ((num (#[.int .i64 ((a1).tmod (6 : Int)), .int .i64 (IntKind.i64.wrap ((a1).tdiv (6 : Int)))] : Array Value) 1) - (1 : Int)))] : Array Value) 1))))), .int .i64 (IntKind.i64.wrap (num a0 (((3 + ((a2).toNat * 180)) + ((a1).toNat * 5)) + 1)))] : Array Value)) 110]))) else (none)) else (some (.more ([.a (.i .i64 (1 : Int)), .a (.l 5)], [.sl .own t.1 t.2 110])))) else (some (.more ([.a (.i .i64 (1 : Int)), .a (.l 5)], [.sl .own t.1 t.2 110])))) else (none)) else (none))) (by kernel_rfl) ?_
  have hb : bytesOf Try.prog 110 ≤ 1000000 := Nat.le_of_ble_eq_true (by kernel_rfl)
  have g2 : (Nat.ble ((t.1 + 1) * bytesOf Try.prog 110) 140737488355328) = true := Nat.ble_eq_true_of_le (Nat.le_trans (Nat.mul_le_mul (show _ ≤ 1000001 by omega) hb) (by decide))
  simp only [impl_stepsFrom_F0_0, more_cond, g2, hq0, hq1, cond_true]
  rfl

theorem impl_stepsFrom_l0_0 (a0 : Array Value) (a1 : Int) (a2 : Int) (t : Nat × Array Value) : (impl_stepsFrom_F0_0 a0 a1 a2 t).1 ≤ t.1 + 1 := by
  unfold impl_stepsFrom_F0_0
  repeat (first | exact Nat.le_refl _ | exact Nat.le_succ _ | refine cond_fst_le ?_ ?_)

noncomputable def impl_stepsFrom_F0_1 (a0 : Array Value) (a1 : Int) (a2 : Int) (t : Nat × Array Value) : Nat × Array Value := bif decide ((IntKind.i64.wrap (num a0 (((3 + ((a2).toNat * 180)) + ((a1).toNat * 5)) + 4))) > (0 : Int)) then (bif (impl_hasPlace_v0 a0 (#[.int .i64 (IntKind.i64.wrap ((num (#[.int .i64 ((a1).tmod (6 : Int)), .int .i64 (IntKind.i64.wrap ((a1).tdiv (6 : Int)))] : Array Value) 0) - (1 : Int))), .int .i64 (num (#[.int .i64 ((a1).tmod (6 : Int)), .int .i64 (IntKind.i64.wrap ((a1).tdiv (6 : Int)))] : Array Value) 1)] : Array Value)) then (((t.1 + 1), (t.2 ++ (#[.int .i64 (IntKind.i64.wrap ((num (#[.int .i64 (IntKind.i64.wrap ((num (#[.int .i64 ((a1).tmod (6 : Int)), .int .i64 (IntKind.i64.wrap ((a1).tdiv (6 : Int)))] : Array Value) 0) - (1 : Int))), .int .i64 (num (#[.int .i64 ((a1).tmod (6 : Int)), .int .i64 (IntKind.i64.wrap ((a1).tdiv (6 : Int)))] : Array Value) 1)] : Array Value) 0) + (IntKind.i64.wrap ((6 : Int) * (num (#[.int .i64 (IntKind.i64.wrap ((num (#[.int .i64 ((a1).tmod (6 : Int)), .int .i64 (IntKind.i64.wrap ((a1).tdiv (6 : Int)))] : Array Value) 0) - (1 : Int))), .int .i64 (num (#[.int .i64 ((a1).tmod (6 : Int)), .int .i64 (IntKind.i64.wrap ((a1).tdiv (6 : Int)))] : Array Value) 1)] : Array Value) 1))))), .int .i64 (IntKind.i64.wrap (num a0 (((3 + ((a2).toNat * 180)) + ((a1).toNat * 5)) + 4)))] : Array Value)))) else ((t.1, t.2))) else ((t.1, t.2))

theorem impl_stepsFrom_r0_1 (N : Nat) (a0 : Array Value) (a1 : Int) (a2 : Int) (hq0 : (decide (0 ≤ a2) && decide (a2 < 2)) = true) (hq1 : (decide (0 ≤ a1) && decide (a1 < 36)) = true) (t : Nat × Array Value) (hl : t.1 ≤ 1000000) : stepVG Try.prog (mkΓ [(92, con impl_isLand_con), (96, con impl_hasPlace_con), (97, con impl_placeOf_con), (98, con impl_allWays_con), (99, con impl_waysByCell_con), (100, con impl_cellOf_con), (106, con impl_place_here_con), (107, con impl_place_north_con), (108, con impl_place_east_con), (109, con impl_place_south_con), (110, con impl_place_west_con)]) N (cAt (codeOf Try.f79) [1, 1, 1, 1, 0, 1, 0, 0]) (pAt (mkPlan (codeOf Try.f79) [([21], [1000007, 110])]).1 [1, 1, 1, 1, 0, 1, 0]) [21] [] 7 110 5 (⟨.a (.g a0 36) :: .a (.i .i64 (a1)) :: .a (.i .i64 (a2)) :: .a (.w 0) :: .a (.u) :: .a (.u) :: .a (.v (.slice none 0 0)) :: .a (.l 5) :: .a (.w 3) :: us 4 (.a (.g a0 36) :: .a (.i .i64 (a1)) :: .a (.b ((impl_isLand_v0 a0 a1))) :: us 3 (.a (.g #[.func (.func 106) #[] #[], .func (.func 107) #[] #[], .func (.func 108) #[] #[], .func (.func 109) #[] #[], .func (.func 110) #[] #[]] 126) :: .a (.g #[.int .u8 (1 : Int), .int .u8 (4 : Int), .int .u8 (0 : Int), .int .u8 (2 : Int), .int .u8 (3 : Int)] 24) :: .a (.i .i64 (0 : Int)) :: us 34 ([]))), [.row a0 36, .no, .no, .row #[.func (.func 106) #[] #[], .func (.func 107) #[] #[], .func (.func 108) #[] #[], .func (.func 109) #[] #[], .func (.func 110) #[] #[]] 126, .no, .sl .own 0 (#[] : Array Value) 110], [3]⟩ : St) (impl_stepsFrom_e0_1 t) = some (.more (impl_stepsFrom_e0_2 (impl_stepsFrom_F0_1 a0 a1 a2 t))) := by
  refine Eq.trans (b := (bif (decide (0 ≤ a2) && decide (a2 < 2)) then (bif (decide (0 ≤ a1) && decide (a1 < 36)) then (bif decide ((IntKind.i64.wrap (num a0 (((3 + ((a2).toNat * 180)) + ((a1).toNat * 5)) + 4))) > (0 : Int)) then (bif (impl_hasPlace_v0 a0 (#[.int .i64 (IntKind.i64.wrap ((num (#[.int .i64 ((a1).tmod (6 : Int)), .int .i64 (IntKind.i64.wrap ((a1).tdiv (6 : Int)))] : Array Value) 0) - (1 : Int))), .int .i64 (num (#[.int .i64 ((a1).tmod (6 : Int)), .int .i64 (IntKind.i64.wrap ((a1).tdiv (6 : Int)))] : Array Value) 1)] : Array Value)) then (bif (Nat.ble ((t.1 + 1) * bytesOf Try.prog 110) 140737488355328) then (some (.more ([.a (.i .i64 (2 : Int)), .a (.l 5)], [.sl .own (t.1 + 1) (t.2 ++ (#[.int .i64 (IntKind.i64.wrap ((num (#[.int .i64 (IntKind.i64.wrap ((num (#[.int .i64 ((a1).tmod (6 : Int)), .int .i64 (IntKind.i64.wrap ((a1).tdiv (6 : Int)))] : Array Value) 0) - (1 : Int))), .int .i64 (num (#[.int .i64 ((a1).tmod (6 : Int)), .int .i64 (IntKind.i64.wrap ((a1).tdiv (6 : Int)))] : Array Value) 1)] : Array Value) 0) + (IntKind.i64.wrap ((6 : Int) * (num (#[.int .i64 (IntKind.i64.wrap ((num (#[.int .i64 ((a1).tmod (6 : Int)), .int .i64 (IntKind.i64.wrap ((a1).tdiv (6 : Int)))] : Array Value) 0) - (1 : Int))), .int .i64 (num (#[.int .i64 ((a1).tmod (6 : Int)), .int .i64 (IntKind.i64.wrap ((a1).tdiv (6 : Int)))] : Array Value) 1)] : Array Value) 1))))), .int .i64 (IntKind.i64.wrap (num a0 (((3 + ((a2).toNat * 180)) + ((a1).toNat * 5)) + 4)))] : Array Value)) 110]))) else (none)) else (some (.more ([.a (.i .i64 (2 : Int)), .a (.l 5)], [.sl .own t.1 t.2 110])))) else (some (.more ([.a (.i .i64 (2 : Int)), .a (.l 5)], [.sl .own t.1 t.2 110])))) else (none)) else (none))) (by kernel_rfl) ?_
  have hb : bytesOf Try.prog 110 ≤ 1000000 := Nat.le_of_ble_eq_true (by kernel_rfl)
  have g2 : (Nat.ble ((t.1 + 1) * bytesOf Try.prog 110) 140737488355328) = true := Nat.ble_eq_true_of_le (Nat.le_trans (Nat.mul_le_mul (show _ ≤ 1000001 by omega) hb) (by decide))
  simp only [impl_stepsFrom_F0_1, more_cond, g2, hq0, hq1, cond_true]
  rfl

theorem impl_stepsFrom_l0_1 (a0 : Array Value) (a1 : Int) (a2 : Int) (t : Nat × Array Value) : (impl_stepsFrom_F0_1 a0 a1 a2 t).1 ≤ t.1 + 1 := by
  unfold impl_stepsFrom_F0_1
  repeat (first | exact Nat.le_refl _ | exact Nat.le_succ _ | refine cond_fst_le ?_ ?_)

noncomputable def impl_stepsFrom_F0_2 (a0 : Array Value) (a1 : Int) (a2 : Int) (t : Nat × Array Value) : Nat × Array Value := bif decide ((IntKind.i64.wrap (num a0 (((3 + ((a2).toNat * 180)) + ((a1).toNat * 5)) + 0))) > (0 : Int)) then (bif (impl_hasPlace_v0 a0 (#[.int .i64 ((a1).tmod (6 : Int)), .int .i64 (IntKind.i64.wrap ((a1).tdiv (6 : Int)))] : Array Value)) then (((t.1 + 1), (t.2 ++ (#[.int .i64 (IntKind.i64.wrap ((num (#[.int .i64 ((a1).tmod (6 : Int)), .int .i64 (IntKind.i64.wrap ((a1).tdiv (6 : Int)))] : Array Value) 0) + (IntKind.i64.wrap ((6 : Int) * (num (#[.int .i64 ((a1).tmod (6 : Int)), .int .i64 (IntKind.i64.wrap ((a1).tdiv (6 : Int)))] : Array Value) 1))))), .int .i64 (IntKind.i64.wrap (num a0 (((3 + ((a2).toNat * 180)) + ((a1).toNat * 5)) + 0)))] : Array Value)))) else ((t.1, t.2))) else ((t.1, t.2))

theorem impl_stepsFrom_r0_2 (N : Nat) (a0 : Array Value) (a1 : Int) (a2 : Int) (hq0 : (decide (0 ≤ a2) && decide (a2 < 2)) = true) (hq1 : (decide (0 ≤ a1) && decide (a1 < 36)) = true) (t : Nat × Array Value) (hl : t.1 ≤ 1000000) : stepVG Try.prog (mkΓ [(92, con impl_isLand_con), (96, con impl_hasPlace_con), (97, con impl_placeOf_con), (98, con impl_allWays_con), (99, con impl_waysByCell_con), (100, con impl_cellOf_con), (106, con impl_place_here_con), (107, con impl_place_north_con), (108, con impl_place_east_con), (109, con impl_place_south_con), (110, con impl_place_west_con)]) N (cAt (codeOf Try.f79) [1, 1, 1, 1, 0, 1, 0, 0]) (pAt (mkPlan (codeOf Try.f79) [([21], [1000007, 110])]).1 [1, 1, 1, 1, 0, 1, 0]) [21] [] 7 110 5 (⟨.a (.g a0 36) :: .a (.i .i64 (a1)) :: .a (.i .i64 (a2)) :: .a (.w 0) :: .a (.u) :: .a (.u) :: .a (.v (.slice none 0 0)) :: .a (.l 5) :: .a (.w 3) :: us 4 (.a (.g a0 36) :: .a (.i .i64 (a1)) :: .a (.b ((impl_isLand_v0 a0 a1))) :: us 3 (.a (.g #[.func (.func 106) #[] #[], .func (.func 107) #[] #[], .func (.func 108) #[] #[], .func (.func 109) #[] #[], .func (.func 110) #[] #[]] 126) :: .a (.g #[.int .u8 (1 : Int), .int .u8 (4 : Int), .int .u8 (0 : Int), .int .u8 (2 : Int), .int .u8 (3 : Int)] 24) :: .a (.i .i64 (0 : Int)) :: us 34 ([]))), [.row a0 36, .no, .no, .row #[.func (.func 106) #[] #[], .func (.func 107) #[] #[], .func (.func 108) #[] #[], .func (.func 109) #[] #[], .func (.func 110) #[] #[]] 126, .no, .sl .own 0 (#[] : Array Value) 110], [3]⟩ : St) (impl_stepsFrom_e0_2 t) = some (.more (impl_stepsFrom_e0_3 (impl_stepsFrom_F0_2 a0 a1 a2 t))) := by
  refine Eq.trans (b := (bif (decide (0 ≤ a2) && decide (a2 < 2)) then (bif (decide (0 ≤ a1) && decide (a1 < 36)) then (bif decide ((IntKind.i64.wrap (num a0 (((3 + ((a2).toNat * 180)) + ((a1).toNat * 5)) + 0))) > (0 : Int)) then (bif (impl_hasPlace_v0 a0 (#[.int .i64 ((a1).tmod (6 : Int)), .int .i64 (IntKind.i64.wrap ((a1).tdiv (6 : Int)))] : Array Value)) then (bif (Nat.ble ((t.1 + 1) * bytesOf Try.prog 110) 140737488355328) then (some (.more ([.a (.i .i64 (3 : Int)), .a (.l 5)], [.sl .own (t.1 + 1) (t.2 ++ (#[.int .i64 (IntKind.i64.wrap ((num (#[.int .i64 ((a1).tmod (6 : Int)), .int .i64 (IntKind.i64.wrap ((a1).tdiv (6 : Int)))] : Array Value) 0) + (IntKind.i64.wrap ((6 : Int) * (num (#[.int .i64 ((a1).tmod (6 : Int)), .int .i64 (IntKind.i64.wrap ((a1).tdiv (6 : Int)))] : Array Value) 1))))), .int .i64 (IntKind.i64.wrap (num a0 (((3 + ((a2).toNat * 180)) + ((a1).toNat * 5)) + 0)))] : Array Value)) 110]))) else (none)) else (some (.more ([.a (.i .i64 (3 : Int)), .a (.l 5)], [.sl .own t.1 t.2 110])))) else (some (.more ([.a (.i .i64 (3 : Int)), .a (.l 5)], [.sl .own t.1 t.2 110])))) else (none)) else (none))) (by kernel_rfl) ?_
  have hb : bytesOf Try.prog 110 ≤ 1000000 := Nat.le_of_ble_eq_true (by kernel_rfl)
  have g2 : (Nat.ble ((t.1 + 1) * bytesOf Try.prog 110) 140737488355328) = true := Nat.ble_eq_true_of_le (Nat.le_trans (Nat.mul_le_mul (show _ ≤ 1000001 by omega) hb) (by decide))
  simp only [impl_stepsFrom_F0_2, more_cond, g2, hq0, hq1, cond_true]
  rfl

theorem impl_stepsFrom_l0_2 (a0 : Array Value) (a1 : Int) (a2 : Int) (t : Nat × Array Value) : (impl_stepsFrom_F0_2 a0 a1 a2 t).1 ≤ t.1 + 1 := by
  unfold impl_stepsFrom_F0_2
  repeat (first | exact Nat.le_refl _ | exact Nat.le_succ _ | refine cond_fst_le ?_ ?_)

noncomputable def impl_stepsFrom_F0_3 (a0 : Array Value) (a1 : Int) (a2 : Int) (t : Nat × Array Value) : Nat × Array Value := bif decide ((IntKind.i64.wrap (num a0 (((3 + ((a2).toNat * 180)) + ((a1).toNat * 5)) + 2))) > (0 : Int)) then (bif (impl_hasPlace_v0 a0 (#[.int .i64 (IntKind.i64.wrap ((num (#[.int .i64 ((a1).tmod (6 : Int)), .int .i64 (IntKind.i64.wrap ((a1).tdiv (6 : Int)))] : Array Value) 0) + (1 : Int))), .int .i64 (num (#[.int .i64 ((a1).tmod (6 : Int)), .int .i64 (IntKind.i64.wrap ((a1).tdiv (6 : Int)))] : Array Value) 1)] : Array Value)) then (((t.1 + 1), (t.2 ++ (#[.int .i64 (IntKind.i64.wrap ((num (#[.int .i64 (IntKind.i64.wrap ((num (#[.int .i64 ((a1).tmod (6 : Int)), .int .i64 (IntKind.i64.wrap ((a1).tdiv (6 : Int)))] : Array Value) 0) + (1 : Int))), .int .i64 (num (#[.int .i64 ((a1).tmod (6 : Int)), .int .i64 (IntKind.i64.wrap ((a1).tdiv (6 : Int)))] : Array Value) 1)] : Array Value) 0) + (IntKind.i64.wrap ((6 : Int) * (num (#[.int .i64 (IntKind.i64.wrap ((num (#[.int .i64 ((a1).tmod (6 : Int)), .int .i64 (IntKind.i64.wrap ((a1).tdiv (6 : Int)))] : Array Value) 0) + (1 : Int))), .int .i64 (num (#[.int .i64 ((a1).tmod (6 : Int)), .int .i64 (IntKind.i64.wrap ((a1).tdiv (6 : Int)))] : Array Value) 1)] : Array Value) 1))))), .int .i64 (IntKind.i64.wrap (num a0 (((3 + ((a2).toNat * 180)) + ((a1).toNat * 5)) + 2)))] : Array Value)))) else ((t.1, t.2))) else ((t.1, t.2))

theorem impl_stepsFrom_r0_3 (N : Nat) (a0 : Array Value) (a1 : Int) (a2 : Int) (hq0 : (decide (0 ≤ a2) && decide (a2 < 2)) = true) (hq1 : (decide (0 ≤ a1) && decide (a1 < 36)) = true) (t : Nat × Array Value) (hl : t.1 ≤ 1000000) : stepVG Try.prog (mkΓ [(92, con impl_isLand_con), (96, con impl_hasPlace_con), (97, con impl_placeOf_con), (98, con impl_allWays_con), (99, con impl_waysByCell_con), (100, con impl_cellOf_con), (106, con impl_place_here_con), (107, con impl_place_north_con), (108, con impl_place_east_con), (109, con impl_place_south_con), (110, con impl_place_west_con)]) N (cAt (codeOf Try.f79) [1, 1, 1, 1, 0, 1, 0, 0]) (pAt (mkPlan (codeOf Try.f79) [([21], [1000007, 110])]).1 [1, 1, 1, 1, 0, 1, 0]) [21] [] 7 110 5 (⟨.a (.g a0 36) :: .a (.i .i64 (a1)) :: .a (.i .i64 (a2)) :: .a (.w 0) :: .a (.u) :: .a (.u) :: .a (.v (.slice none 0 0)) :: .a (.l 5) :: .a (.w 3) :: us 4 (.a (.g a0 36) :: .a (.i .i64 (a1)) :: .a (.b ((impl_isLand_v0 a0 a1))) :: us 3 (.a (.g #[.func (.func 106) #[] #[], .func (.func 107) #[] #[], .func (.func 108) #[] #[], .func (.func 109) #[] #[], .func (.func 110) #[] #[]] 126) :: .a (.g #[.int .u8 (1 : Int), .int .u8 (4 : Int), .int .u8 (0 : Int), .int .u8 (2 : Int), .int .u8 (3 : Int)] 24) :: .a (.i .i64 (0 : Int)) :: us 34 ([]))), [.row a0 36, .no, .no, .row #[.func (.func 106) #[] #[], .func (.func 107) #[] #[], .func (.func 108) #[] #[], .func (.func 109) #[] #[], .func (.func 110) #[] #[]] 126, .no, .sl .own 0 (#[] : Array Value) 110], [3]⟩ : St) (impl_stepsFrom_e0_3 t) = some (.more (impl_stepsFrom_e0_4 (impl_stepsFrom_F0_3 a0 a1 a2 t))) := by
  refine Eq.trans (b := (bif (decide (0 ≤ a2) && decide (a2 < 2)) then (bif (decide (0 ≤ a1) && decide (a1 < 36)) then (bif decide ((IntKind.i64.wrap (num a0 (((3 + ((a2).toNat * 180)) + ((a1).toNat * 5)) + 2))) > (0 : Int)) then (bif (impl_hasPlace_v0 a0 (#[.int .i64 (IntKind.i64.wrap ((num (#[.int .i64 ((a1).tmod (6 : Int)), .int .i64 (IntKind.i64.wrap ((a1).tdiv (6 : Int)))] : Array Value) 0) + (1 : Int))), .int .i64 (num (#[.int .i64 ((a1).tmod (6 : Int)), .int .i64 (IntKind.i64.wrap ((a1).tdiv (6 : Int)))] : Array Value) 1)] : Array Value)) then (bif (Nat.ble ((t.1 + 1) * bytesOf Try.prog 110) 140737488355328) then (some (.more ([.a (.i .i64 (4 : Int)), .a (.l 5)], [.sl .own (t.1 + 1) (t.2 ++ (#[.int .i64 (IntKind.i64.wrap ((num (#[.int .i64 (IntKind.i64.wrap ((num (#[.int .i64 ((a1).tmod (6 : Int)), .int .i64 (IntKind.i64.wrap ((a1).tdiv (6 : Int)))] : Array Value) 0) + (1 : Int))), .int .i64 (num (#[.int .i64 ((a1).tmod (6 : Int)), .int .i64 (IntKind.i64.wrap ((a1).tdiv (6 : Int)))] : Array Value) 1)] : Array Value) 0) + (IntKind.i64.wrap ((6 : Int) * (num (#[.int .i64 (IntKind.i64.wrap ((num (#[.int .i64 ((a1).tmod (6 : Int)), .int .i64 (IntKind.i64.wrap ((a1).tdiv (6 : Int)))] : Array Value) 0) + (1 : Int))), .int .i64 (num (#[.int .i64 ((a1).tmod (6 : Int)), .int .i64 (IntKind.i64.wrap ((a1).tdiv (6 : Int)))] : Array Value) 1)] : Array Value) 1))))), .int .i64 (IntKind.i64.wrap (num a0 (((3 + ((a2).toNat * 180)) + ((a1).toNat * 5)) + 2)))] : Array Value)) 110]))) else (none)) else (some (.more ([.a (.i .i64 (4 : Int)), .a (.l 5)], [.sl .own t.1 t.2 110])))) else (some (.more ([.a (.i .i64 (4 : Int)), .a (.l 5)], [.sl .own t.1 t.2 110])))) else (none)) else (none))) (by kernel_rfl) ?_
  have hb : bytesOf Try.prog 110 ≤ 1000000 := Nat.le_of_ble_eq_true (by kernel_rfl)
  have g2 : (Nat.ble ((t.1 + 1) * bytesOf Try.prog 110) 140737488355328) = true := Nat.ble_eq_true_of_le (Nat.le_trans (Nat.mul_le_mul (show _ ≤ 1000001 by omega) hb) (by decide))
  simp only [impl_stepsFrom_F0_3, more_cond, g2, hq0, hq1, cond_true]
  rfl

theorem impl_stepsFrom_l0_3 (a0 : Array Value) (a1 : Int) (a2 : Int) (t : Nat × Array Value) : (impl_stepsFrom_F0_3 a0 a1 a2 t).1 ≤ t.1 + 1 := by
  unfold impl_stepsFrom_F0_3
  repeat (first | exact Nat.le_refl _ | exact Nat.le_succ _ | refine cond_fst_le ?_ ?_)

noncomputable def impl_stepsFrom_F0_4 (a0 : Array Value) (a1 : Int) (a2 : Int) (t : Nat × Array Value) : Nat × Array Value := bif decide ((IntKind.i64.wrap (num a0 (((3 + ((a2).toNat * 180)) + ((a1).toNat * 5)) + 3))) > (0 : Int)) then (bif (impl_hasPlace_v0 a0 (#[.int .i64 (num (#[.int .i64 ((a1).tmod (6 : Int)), .int .i64 (IntKind.i64.wrap ((a1).tdiv (6 : Int)))] : Array Value) 0), .int .i64 (IntKind.i64.wrap ((num (#[.int .i64 ((a1).tmod (6 : Int)), .int .i64 (IntKind.i64.wrap ((a1).tdiv (6 : Int)))] : Array Value) 1) + (1 : Int)))] : Array Value)) then (((t.1 + 1), (t.2 ++ (#[.int .i64 (IntKind.i64.wrap ((num (#[.int .i64 (num (#[.int .i64 ((a1).tmod (6 : Int)), .int .i64 (IntKind.i64.wrap ((a1).tdiv (6 : Int)))] : Array Value) 0), .int .i64 (IntKind.i64.wrap ((num (#[.int .i64 ((a1).tmod (6 : Int)), .int .i64 (IntKind.i64.wrap ((a1).tdiv (6 : Int)))] : Array Value) 1) + (1 : Int)))] : Array Value) 0) + (IntKind.i64.wrap ((6 : Int) * (num (#[.int .i64 (num (#[.int .i64 ((a1).tmod (6 : Int)), .int .i64 (IntKind.i64.wrap ((a1).tdiv (6 : Int)))] : Array Value) 0), .int .i64 (IntKind.i64.wrap ((num (#[.int .i64 ((a1).tmod (6 : Int)), .int .i64 (IntKind.i64.wrap ((a1).tdiv (6 : Int)))] : Array Value) 1) + (1 : Int)))] : Array Value) 1))))), .int .i64 (IntKind.i64.wrap (num a0 (((3 + ((a2).toNat * 180)) + ((a1).toNat * 5)) + 3)))] : Array Value)))) else ((t.1, t.2))) else ((t.1, t.2))

theorem impl_stepsFrom_r0_4 (N : Nat) (a0 : Array Value) (a1 : Int) (a2 : Int) (hq0 : (decide (0 ≤ a2) && decide (a2 < 2)) = true) (hq1 : (decide (0 ≤ a1) && decide (a1 < 36)) = true) (t : Nat × Array Value) (hl : t.1 ≤ 1000000) : stepVG Try.prog (mkΓ [(92, con impl_isLand_con), (96, con impl_hasPlace_con), (97, con impl_placeOf_con), (98, con impl_allWays_con), (99, con impl_waysByCell_con), (100, con impl_cellOf_con), (106, con impl_place_here_con), (107, con impl_place_north_con), (108, con impl_place_east_con), (109, con impl_place_south_con), (110, con impl_place_west_con)]) N (cAt (codeOf Try.f79) [1, 1, 1, 1, 0, 1, 0, 0]) (pAt (mkPlan (codeOf Try.f79) [([21], [1000007, 110])]).1 [1, 1, 1, 1, 0, 1, 0]) [21] [] 7 110 5 (⟨.a (.g a0 36) :: .a (.i .i64 (a1)) :: .a (.i .i64 (a2)) :: .a (.w 0) :: .a (.u) :: .a (.u) :: .a (.v (.slice none 0 0)) :: .a (.l 5) :: .a (.w 3) :: us 4 (.a (.g a0 36) :: .a (.i .i64 (a1)) :: .a (.b ((impl_isLand_v0 a0 a1))) :: us 3 (.a (.g #[.func (.func 106) #[] #[], .func (.func 107) #[] #[], .func (.func 108) #[] #[], .func (.func 109) #[] #[], .func (.func 110) #[] #[]] 126) :: .a (.g #[.int .u8 (1 : Int), .int .u8 (4 : Int), .int .u8 (0 : Int), .int .u8 (2 : Int), .int .u8 (3 : Int)] 24) :: .a (.i .i64 (0 : Int)) :: us 34 ([]))), [.row a0 36, .no, .no, .row #[.func (.func 106) #[] #[], .func (.func 107) #[] #[], .func (.func 108) #[] #[], .func (.func 109) #[] #[], .func (.func 110) #[] #[]] 126, .no, .sl .own 0 (#[] : Array Value) 110], [3]⟩ : St) (impl_stepsFrom_e0_4 t) = some (.more (impl_stepsFrom_e0_5 (impl_stepsFrom_F0_4 a0 a1 a2 t))) := by
  refine Eq.trans (b := (bif (decide (0 ≤ a2) && decide (a2 < 2)) then (bif (decide (0 ≤ a1) && decide (a1 < 36)) then (bif decide ((IntKind.i64.wrap (num a0 (((3 + ((a2).toNat * 180)) + ((a1).toNat * 5)) + 3))) > (0 : Int)) then (bif (impl_hasPlace_v0 a0 (#[.int .i64 (num (#[.int .i64 ((a1).tmod (6 : Int)), .int .i64 (IntKind.i64.wrap ((a1).tdiv (6 : Int)))] : Array Value) 0), .int .i64 (IntKind.i64.wrap ((num (#[.int .i64 ((a1).tmod (6 : Int)), .int .i64 (IntKind.i64.wrap ((a1).tdiv (6 : Int)))] : Array Value) 1) + (1 : Int)))] : Array Value)) then (bif (Nat.ble ((t.1 + 1) * bytesOf Try.prog 110) 140737488355328) then (some (.more ([.a (.i .i64 (5 : Int)), .a (.l 5)], [.sl .own (t.1 + 1) (t.2 ++ (#[.int .i64 (IntKind.i64.wrap ((num (#[.int .i64 (num (#[.int .i64 ((a1).tmod (6 : Int)), .int .i64 (IntKind.i64.wrap ((a1).tdiv (6 : Int)))] : Array Value) 0), .int .i64 (IntKind.i64.wrap ((num (#[.int .i64 ((a1).tmod (6 : Int)), .int .i64 (IntKind.i64.wrap ((a1).tdiv (6 : Int)))] : Array Value) 1) + (1 : Int)))] : Array Value) 0) + (IntKind.i64.wrap ((6 : Int) * (num (#[.int .i64 (num (#[.int .i64 ((a1).tmod (6 : Int)), .int .i64 (IntKind.i64.wrap ((a1).tdiv (6 : Int)))] : Array Value) 0), .int .i64 (IntKind.i64.wrap ((num (#[.int .i64 ((a1).tmod (6 : Int)), .int .i64 (IntKind.i64.wrap ((a1).tdiv (6 : Int)))] : Array Value) 1) + (1 : Int)))] : Array Value) 1))))), .int .i64 (IntKind.i64.wrap (num a0 (((3 + ((a2).toNat * 180)) + ((a1).toNat * 5)) + 3)))] : Array Value)) 110]))) else (none)) else (some (.more ([.a (.i .i64 (5 : Int)), .a (.l 5)], [.sl .own t.1 t.2 110])))) else (some (.more ([.a (.i .i64 (5 : Int)), .a (.l 5)], [.sl .own t.1 t.2 110])))) else (none)) else (none))) (by kernel_rfl) ?_
  have hb : bytesOf Try.prog 110 ≤ 1000000 := Nat.le_of_ble_eq_true (by kernel_rfl)
  have g2 : (Nat.ble ((t.1 + 1) * bytesOf Try.prog 110) 140737488355328) = true := Nat.ble_eq_true_of_le (Nat.le_trans (Nat.mul_le_mul (show _ ≤ 1000001 by omega) hb) (by decide))
  simp only [impl_stepsFrom_F0_4, more_cond, g2, hq0, hq1, cond_true]
  rfl

theorem impl_stepsFrom_l0_4 (a0 : Array Value) (a1 : Int) (a2 : Int) (t : Nat × Array Value) : (impl_stepsFrom_F0_4 a0 a1 a2 t).1 ≤ t.1 + 1 := by
  unfold impl_stepsFrom_F0_4
  repeat (first | exact Nat.le_refl _ | exact Nat.le_succ _ | refine cond_fst_le ?_ ?_)

theorem impl_stepsFrom_r0_5 (N : Nat) (a0 : Array Value) (a1 : Int) (a2 : Int) (hq0 : (decide (0 ≤ a2) && decide (a2 < 2)) = true) (hq1 : (decide (0 ≤ a1) && decide (a1 < 36)) = true) (t : Nat × Array Value) : stepVG Try.prog (mkΓ [(92, con impl_isLand_con), (96, con impl_hasPlace_con), (97, con impl_placeOf_con), (98, con impl_allWays_con), (99, con impl_waysByCell_con), (100, con impl_cellOf_con), (106, con impl_place_here_con), (107, con impl_place_north_con), (108, con impl_place_east_con), (109, con impl_place_south_con), (110, con impl_place_west_con)]) N (cAt (codeOf Try.f79) [1, 1, 1, 1, 0, 1, 0, 0]) (pAt (mkPlan (codeOf Try.f79) [([21], [1000007, 110])]).1 [1, 1, 1, 1, 0, 1, 0]) [21] [] 7 110 5 (⟨.a (.g a0 36) :: .a (.i .i64 (a1)) :: .a (.i .i64 (a2)) :: .a (.w 0) :: .a (.u) :: .a (.u) :: .a (.v (.slice none 0 0)) :: .a (.l 5) :: .a (.w 3) :: us 4 (.a (.g a0 36) :: .a (.i .i64 (a1)) :: .a (.b ((impl_isLand_v0 a0 a1))) :: us 3 (.a (.g #[.func (.func 106) #[] #[], .func (.func 107) #[] #[], .func (.func 108) #[] #[], .func (.func 109) #[] #[], .func (.func 110) #[] #[]] 126) :: .a (.g #[.int .u8 (1 : Int), .int .u8 (4 : Int), .int .u8 (0 : Int), .int .u8 (2 : Int), .int .u8 (3 : Int)] 24) :: .a (.i .i64 (0 : Int)) :: us 34 ([]))), [.row a0 36, .no, .no, .row #[.func (.func 106) #[] #[], .func (.func 107) #[] #[], .func (.func 108) #[] #[], .func (.func 109) #[] #[], .func (.func 110) #[] #[]] 126, .no, .sl .own 0 (#[] : Array Value) 110], [3]⟩ : St) (impl_stepsFrom_e0_5 t) = some (.done ((.exit 0), impl_stepsFrom_e0_5 t)) := by kernel_rfl

noncomputable def impl_stepsFrom_v0 (a0 : Array Value) (a1 : Int) (a2 : Int) : Nat × Array Value := (impl_stepsFrom_F0_4 a0 a1 a2 (impl_stepsFrom_F0_3 a0 a1 a2 (impl_stepsFrom_F0_2 a0 a1 a2 (impl_stepsFrom_F0_1 a0 a1 a2 (impl_stepsFrom_F0_0 a0 a1 a2 (0, (#[] : Array Value)))))))

theorem impl_stepsFrom_i0 (N : Nat) (hN : 5 < N) (a0 : Array Value) (a1 : Int) (a2 : Int) (hq0 : (decide (0 ≤ a2) && decide (a2 < 2)) = true) (hq1 : (decide (0 ≤ a1) && decide (a1 < 36)) = true) : iterO (stepVG Try.prog (mkΓ [(92, con impl_isLand_con), (96, con impl_hasPlace_con), (97, con impl_placeOf_con), (98, con impl_allWays_con), (99, con impl_waysByCell_con), (100, con impl_cellOf_con), (106, con impl_place_here_con), (107, con impl_place_north_con), (108, con impl_place_east_con), (109, con impl_place_south_con), (110, con impl_place_west_con)]) N (cAt (codeOf Try.f79) [1, 1, 1, 1, 0, 1, 0, 0]) (pAt (mkPlan (codeOf Try.f79) [([21], [1000007, 110])]).1 [1, 1, 1, 1, 0, 1, 0]) [21] [] 7 110 5 (⟨.a (.g a0 36) :: .a (.i .i64 (a1)) :: .a (.i .i64 (a2)) :: .a (.w 0) :: .a (.u) :: .a (.u) :: .a (.v (.slice none 0 0)) :: .a (.l 5) :: .a (.w 3) :: us 4 (.a (.g a0 36) :: .a (.i .i64 (a1)) :: .a (.b ((impl_isLand_v0 a0 a1))) :: us 3 (.a (.g #[.func (.func 106) #[] #[], .func (.func 107) #[] #[], .func (.func 108) #[] #[], .func (.func 109) #[] #[], .func (.func 110) #[] #[]] 126) :: .a (.g #[.int .u8 (1 : Int), .int .u8 (4 : Int), .int .u8 (0 : Int), .int .u8 (2 : Int), .int .u8 (3 : Int)] 24) :: .a (.i .i64 (0 : Int)) :: us 34 ([]))), [.row a0 36, .no, .no, .row #[.func (.func 106) #[] #[], .func (.func 107) #[] #[], .func (.func 108) #[] #[], .func (.func 109) #[] #[], .func (.func 110) #[] #[]] 126, .no, .sl .own 0 (#[] : Array Value) 110], [3]⟩ : St)) N (impl_stepsFrom_e0_0 (0, (#[] : Array Value))) = some ((.exit 0), impl_stepsFrom_e0_5 (impl_stepsFrom_v0 a0 a1 a2)) := by
  have l0 : ((0, (#[] : Array Value)) : Nat × Array Value).1 ≤ 0 := Nat.le_refl _
  have l1 := impl_stepsFrom_l0_0 a0 a1 a2 (0, (#[] : Array Value))
  have l2 := impl_stepsFrom_l0_1 a0 a1 a2 (impl_stepsFrom_F0_0 a0 a1 a2 (0, (#[] : Array Value)))
  have l3 := impl_stepsFrom_l0_2 a0 a1 a2 (impl_stepsFrom_F0_1 a0 a1 a2 (impl_stepsFrom_F0_0 a0 a1 a2 (0, (#[] : Array Value))))
  have l4 := impl_stepsFrom_l0_3 a0 a1 a2 (impl_stepsFrom_F0_2 a0 a1 a2 (impl_stepsFrom_F0_1 a0 a1 a2 (impl_stepsFrom_F0_0 a0 a1 a2 (0, (#[] : Array Value)))))
  have l5 := impl_stepsFrom_l0_4 a0 a1 a2 (impl_stepsFrom_F0_3 a0 a1 a2 (impl_stepsFrom_F0_2 a0 a1 a2 (impl_stepsFrom_F0_1 a0 a1 a2 (impl_stepsFrom_F0_0 a0 a1 a2 (0, (#[] : Array Value))))))
  have q0 := impl_stepsFrom_r0_0 N a0 a1 a2 hq0 hq1 (0, (#[] : Array Value)) (by omega)
  have q1 := impl_stepsFrom_r0_1 N a0 a1 a2 hq0 hq1 (impl_stepsFrom_F0_0 a0 a1 a2 (0, (#[] : Array Value))) (by omega)
  have q2 := impl_stepsFrom_r0_2 N a0 a1 a2 hq0 hq1 (impl_stepsFrom_F0_1 a0 a1 a2 (impl_stepsFrom_F0_0 a0 a1 a2 (0, (#[] : Array Value)))) (by omega)
  have q3 := impl_stepsFrom_r0_3 N a0 a1 a2 hq0 hq1 (impl_stepsFrom_F0_2 a0 a1 a2 (impl_stepsFrom_F0_1 a0 a1 a2 (impl_stepsFrom_F0_0 a0 a1 a2 (0, (#[] : Array Value))))) (by omega)
  have q4 := impl_stepsFrom_r0_4 N a0 a1 a2 hq0 hq1 (impl_stepsFrom_F0_3 a0 a1 a2 (impl_stepsFrom_F0_2 a0 a1 a2 (impl_stepsFrom_F0_1 a0 a1 a2 (impl_stepsFrom_F0_0 a0 a1 a2 (0, (#[] : Array Value)))))) (by omega)
  have q5 := impl_stepsFrom_r0_5 N a0 a1 a2 hq0 hq1 (impl_stepsFrom_F0_4 a0 a1 a2 (impl_stepsFrom_F0_3 a0 a1 a2 (impl_stepsFrom_F0_2 a0 a1 a2 (impl_stepsFrom_F0_1 a0 a1 a2 (impl_stepsFrom_F0_0 a0 a1 a2 (0, (#[] : Array Value)))))))
  unfold impl_stepsFrom_v0
  obtain ⟨N0, e0⟩ : ∃ N0, N = N0 + 5 + 1 := ⟨N - 5 - 1, by omega⟩
  generalize hf : stepVG Try.prog (mkΓ [(92, con impl_isLand_con), (96, con impl_hasPlace_con), (97, con impl_placeOf_con), (98, con impl_allWays_con), (99, con impl_waysByCell_con), (100, con impl_cellOf_con), (106, con impl_place_here_con), (107, con impl_place_north_con), (108, con impl_place_east_con), (109, con impl_place_south_con), (110, con impl_place_west_con)]) N (cAt (codeOf Try.f79) [1, 1, 1, 1, 0, 1, 0, 0]) (pAt (mkPlan (codeOf Try.f79) [([21], [1000007, 110])]).1 [1, 1, 1, 1, 0, 1, 0]) [21] [] 7 110 5 (⟨.a (.g a0 36) :: .a (.i .i64 (a1)) :: .a (.i .i64 (a2)) :: .a (.w 0) :: .a (.u) :: .a (.u) :: .a (.v (.slice none 0 0)) :: .a (.l 5) :: .a (.w 3) :: us 4 (.a (.g a0 36) :: .a (.i .i64 (a1)) :: .a (.b ((impl_isLand_v0 a0 a1))) :: us 3 (.a (.g #[.func (.func 106) #[] #[], .func (.func 107) #[] #[], .func (.func 108) #[] #[], .func (.func 109) #[] #[], .func (.func 110) #[] #[]] 126) :: .a (.g #[.int .u8 (1 : Int), .int .u8 (4 : Int), .int .u8 (0 : Int), .int .u8 (2 : Int), .int .u8 (3 : Int)] 24) :: .a (.i .i64 (0 : Int)) :: us 34 ([]))), [.row a0 36, .no, .no, .row #[.func (.func 106) #[] #[], .func (.func 107) #[] #[], .func (.func 108) #[] #[], .func (.func 109) #[] #[], .func (.func 110) #[] #[]] 126, .no, .sl .own 0 (#[] : Array Value) 110], [3]⟩ : St) = f at q0 q1 q2 q3 q4 q5 ⊢
  rw [e0]
  refine (iter_step q0 (N0 + 5)).trans ?_
  refine (iter_step q1 (N0 + 4)).trans ?_
  refine (iter_step q2 (N0 + 3)).trans ?_
  refine (iter_step q3 (N0 + 2)).trans ?_
  refine (iter_step q4 (N0 + 1)).trans ?_
  exact iter_done q5 N0

theorem impl_stepsFrom_n0 (N : Nat) (hN : 5 < N) (a0 : Array Value) (a1 : Int) (a2 : Int) (hq0 : (decide (0 ≤ a2) && decide (a2 < 2)) = true) (hq1 : (decide (0 ≤ a1) && decide (a1 < 36)) = true) : bindX (iterO (stepVG Try.prog (mkΓ [(92, con impl_isLand_con), (96, con impl_hasPlace_con), (97, con impl_placeOf_con), (98, con impl_allWays_con), (99, con impl_waysByCell_con), (100, con impl_cellOf_con), (106, con impl_place_here_con), (107, con impl_place_north_con), (108, con impl_place_east_con), (109, con impl_place_south_con), (110, con impl_place_west_con)]) N (cAt (codeOf Try.f79) [1, 1, 1, 1, 0, 1, 0, 0]) (pAt (mkPlan (codeOf Try.f79) [([21], [1000007, 110])]).1 [1, 1, 1, 1, 0, 1, 0]) [21] [] 7 110 5 (⟨.a (.g a0 36) :: .a (.i .i64 (a1)) :: .a (.i .i64 (a2)) :: .a (.w 0) :: .a (.u) :: .a (.u) :: .a (.v (.slice none 0 0)) :: .a (.l 5) :: .a (.w 3) :: us 4 (.a (.g a0 36) :: .a (.i .i64 (a1)) :: .a (.b ((impl_isLand_v0 a0 a1))) :: us 3 (.a (.g #[.func (.func 106) #[] #[], .func (.func 107) #[] #[], .func (.func 108) #[] #[], .func (.func 109) #[] #[], .func (.func 110) #[] #[]] 126) :: .a (.g #[.int .u8 (1 : Int), .int .u8 (4 : Int), .int .u8 (0 : Int), .int .u8 (2 : Int), .int .u8 (3 : Int)] 24) :: .a (.i .i64 (0 : Int)) :: us 34 ([]))), [.row a0 36, .no, .no, .row #[.func (.func 106) #[] #[], .func (.func 107) #[] #[], .func (.func 108) #[] #[], .func (.func 109) #[] #[], .func (.func 110) #[] #[]] 126, .no, .sl .own 0 (#[] : Array Value) 110], [3]⟩ : St)) N ([.a (.i .i64 (0 : Int)), .a (.l 5)], [.sl .own 0 (#[] : Array Value) 110])) (fun e s => (kBlock 0 (kSeq (veC Try.prog (mkΓ [(92, con impl_isLand_con), (96, con impl_hasPlace_con), (97, con impl_placeOf_con), (98, con impl_allWays_con), (99, con impl_waysByCell_con), (100, con impl_cellOf_con), (106, con impl_place_here_con), (107, con impl_place_north_con), (108, con impl_place_east_con), (109, con impl_place_south_con), (110, con impl_place_west_con)]) N (cAt (codeOf Try.f79) [1, 1, 1, 1, 1]) (pAt (mkPlan (codeOf Try.f79) [([21], [1000007, 110])]).1 [1, 1, 1, 1, 1]) (SV × Eff × Bool)) (finK Try.prog [] [.tmp 6]))) e (left (writes (cAt (codeOf Try.f79) [1, 1, 1, 1, 0, 1, 0, 0])) [21, 7] [5] (⟨.a (.g a0 36) :: .a (.i .i64 (a1)) :: .a (.i .i64 (a2)) :: .a (.w 0) :: .a (.u) :: .a (.u) :: .a (.v (.slice none 0 0)) :: .a (.l 5) :: .a (.w 3) :: us 4 (.a (.g a0 36) :: .a (.i .i64 (a1)) :: .a (.b ((impl_isLand_v0 a0 a1))) :: us 3 (.a (.g #[.func (.func 106) #[] #[], .func (.func 107) #[] #[], .func (.func 108) #[] #[], .func (.func 109) #[] #[], .func (.func 110) #[] #[]] 126) :: .a (.g #[.int .u8 (1 : Int), .int .u8 (4 : Int), .int .u8 (0 : Int), .int .u8 (2 : Int), .int .u8 (3 : Int)] 24) :: .a (.i .i64 (0 : Int)) :: us 34 ([]))), [.row a0 36, .no, .no, .row #[.func (.func 106) #[] #[], .func (.func 107) #[] #[], .func (.func 108) #[] #[], .func (.func 109) #[] #[], .func (.func 110) #[] #[]] 126, .no, .sl .own 0 (#[] : Array Value) 110], [3]⟩ : St) s)) = (some (.a .x, .newS none (impl_stepsFrom_v0 a0 a1 a2).1 (impl_stepsFrom_v0 a0 a1 a2).2 110, true)) := by
  have e0 : (([.a (.i .i64 (0 : Int)), .a (.l 5)], [.sl .own 0 (#[] : Array Value) 110]) : LS) = impl_stepsFrom_e0_0 (0, (#[] : Array Value)) := rfl
  rw [e0, impl_stepsFrom_i0 N hN a0 a1 a2 hq0 hq1 ]
  change _ = _
  kernel_rfl

theorem impl_stepsFrom_ans (N : Nat) (hN : 5 < N) (a0 : Array Value) (a1 : Int) (a2 : Int) (hq0 : (decide (0 ≤ a2) && decide (a2 < 2)) = true) (hq1 : (decide (0 ≤ a1) && decide (a1 < 36)) = true) : ansV Try.prog (mkΓ [(92, con impl_isLand_con), (96, con impl_hasPlace_con), (97, con impl_placeOf_con), (98, con impl_allWays_con), (99, con impl_waysByCell_con), (100, con impl_cellOf_con), (106, con impl_place_here_con), (107, con impl_place_north_con), (108, con impl_place_east_con), (109, con impl_place_south_con), (110, con impl_place_west_con)]) N Try.f79 [([21], [1000007, 110])] [.g a0 36, .i .i64 (a1), .i .i64 (a2)] [] = (bif decide (0 ≤ a1) then (bif (impl_isLand_v0 a0 a1) then (some (.a .x, .newS none 1 (#[.int .i64 (a1), .int .i64 (12 : Int)] : Array Value) 110, true))
      else (some (.a .x, .newS none (impl_stepsFrom_v0 a0 a1 a2).1 (impl_stepsFrom_v0 a0 a1 a2).2 110, true)))
    else (none)) := by
  refine Eq.trans (b := (bif decide (0 ≤ a1) then (bif (impl_isLand_v0 a0 a1) then (some (.a .x, .newS none 1 (#[.int .i64 (a1), .int .i64 (12 : Int)] : Array Value) 110, true))
      else (bindX (iterO (stepVG Try.prog (mkΓ [(92, con impl_isLand_con), (96, con impl_hasPlace_con), (97, con impl_placeOf_con), (98, con impl_allWays_con), (99, con impl_waysByCell_con), (100, con impl_cellOf_con), (106, con impl_place_here_con), (107, con impl_place_north_con), (108, con impl_place_east_con), (109, con impl_place_south_con), (110, con impl_place_west_con)]) N (cAt (codeOf Try.f79) [1, 1, 1, 1, 0, 1, 0, 0]) (pAt (mkPlan (codeOf Try.f79) [([21], [1000007, 110])]).1 [1, 1, 1, 1, 0, 1, 0]) [21] [] 7 110 5 (⟨.a (.g a0 36) :: .a (.i .i64 (a1)) :: .a (.i .i64 (a2)) :: .a (.w 0) :: .a (.u) :: .a (.u) :: .a (.v (.slice none 0 0)) :: .a (.l 5) :: .a (.w 3) :: us 4 (.a (.g a0 36) :: .a (.i .i64 (a1)) :: .a (.b ((impl_isLand_v0 a0 a1))) :: us 3 (.a (.g #[.func (.func 106) #[] #[], .func (.func 107) #[] #[], .func (.func 108) #[] #[], .func (.func 109) #[] #[], .func (.func 110) #[] #[]] 126) :: .a (.g #[.int .u8 (1 : Int), .int .u8 (4 : Int), .int .u8 (0 : Int), .int .u8 (2 : Int), .int .u8 (3 : Int)] 24) :: .a (.i .i64 (0 : Int)) :: us 34 ([]))), [.row a0 36, .no, .no, .row #[.func (.func 106) #[] #[], .func (.func 107) #[] #[], .func (.func 108) #[] #[], .func (.func 109) #[] #[], .func (.func 110) #[] #[]] 126, .no, .sl .own 0 (#[] : Array Value) 110], [3]⟩ : St)) N ([.a (.i .i64 (0 : Int)), .a (.l 5)], [.sl .own 0 (#[] : Array Value) 110])) (fun e s => (kBlock 0 (kSeq (veC Try.prog (mkΓ [(92, con impl_isLand_con), (96, con impl_hasPlace_con), (97, con impl_placeOf_con), (98, con impl_allWays_con), (99, con impl_waysByCell_con), (100, con impl_cellOf_con), (106, con impl_place_here_con), (107, con impl_place_north_con), (108, con impl_place_east_con), (109, con impl_place_south_con), (110, con impl_place_west_con)]) N (cAt (codeOf Try.f79) [1, 1, 1, 1, 1]) (pAt (mkPlan (codeOf Try.f79) [([21], [1000007, 110])]).1 [1, 1, 1, 1, 1]) (SV × Eff × Bool)) (finK Try.prog [] [.tmp 6]))) e (left (writes (cAt (codeOf Try.f79) [1, 1, 1, 1, 0, 1, 0, 0])) [21, 7] [5] (⟨.a (.g a0 36) :: .a (.i .i64 (a1)) :: .a (.i .i64 (a2)) :: .a (.w 0) :: .a (.u) :: .a (.u) :: .a (.v (.slice none 0 0)) :: .a (.l 5) :: .a (.w 3) :: us 4 (.a (.g a0 36) :: .a (.i .i64 (a1)) :: .a (.b ((impl_isLand_v0 a0 a1))) :: us 3 (.a (.g #[.func (.func 106) #[] #[], .func (.func 107) #[] #[], .func (.func 108) #[] #[], .func (.func 109) #[] #[], .func (.func 110) #[] #[]] 126) :: .a (.g #[.int .u8 (1 : Int), .int .u8 (4 : Int), .int .u8 (0 : Int), .int .u8 (2 : Int), .int .u8 (3 : Int)] 24) :: .a (.i .i64 (0 : Int)) :: us 34 ([]))), [.row a0 36, .no, .no, .row #[.func (.func 106) #[] #[], .func (.func 107) #[] #[], .func (.func 108) #[] #[], .func (.func 109) #[] #[], .func (.func 110) #[] #[]] 126, .no, .sl .own 0 (#[] : Array Value) 110], [3]⟩ : St) s))))
    else (none))) (by kernel_rfl) ?_
  simp only [impl_stepsFrom_n0 N hN a0 a1 a2 hq0 hq1 ]


theorem sf_F0 (S : Array Value) (c t : Int) (q : Nat × Array Value) : impl_stepsFrom_F0_0 S c t q = stF S t c 1 q := rfl
theorem sf_F1 (S : Array Value) (c t : Int) (q : Nat × Array Value) : impl_stepsFrom_F0_1 S c t q = stF S t c 4 q := rfl
theorem sf_F2 (S : Array Value) (c t : Int) (q : Nat × Array Value) : impl_stepsFrom_F0_2 S c t q = stF S t c 0 q := rfl
theorem sf_F3 (S : Array Value) (c t : Int) (q : Nat × Array Value) : impl_stepsFrom_F0_3 S c t q = stF S t c 2 q := rfl
theorem sf_F4 (S : Array Value) (c t : Int) (q : Nat × Array Value) : impl_stepsFrom_F0_4 S c t q = stF S t c 3 q := rfl
theorem sf_v {S : Array Value} (h0 : 1 ≤ num S 0 ∧ num S 0 ≤ 6 ∧ 1 ≤ num S 1 ∧ num S 1 ≤ 6) {k : Nat} (hk : k < 36) (hi : inC (num S 0) (num S 1) k = true) (t : Int) :
    impl_stepsFrom_v0 S (k : Int) t = ((oneSt S t k 1 ++ oneSt S t k 4 ++ oneSt S t k 0 ++ oneSt S t k 2 ++ oneSt S t k 3).length, encSt (oneSt S t k 1 ++ oneSt S t k 4 ++ oneSt S t k 0 ++ oneSt S t k 2 ++ oneSt S t k 3)) := by
  unfold impl_stepsFrom_v0
  rw [sf_F0, sf_F1, sf_F2, sf_F3, sf_F4, show ((0, (#[] : Array Value)) : Nat × Array Value) = (([] : List (Int × Int)).length, encSt []) from rfl, stF_one h0 hk hi t (by omega), stF_one h0 hk hi t (by omega), stF_one h0 hk hi t (by omega), stF_one h0 hk hi t (by omega), stF_one h0 hk hi t (by omega), List.nil_append]

theorem impl_stepsFrom_main (a0 : Array Value) (a1 : Int) (a2 : Int) (h_a0 : WT Try.prog 36 a0) (h_a1 : IntKind.i64.min ≤ a1 ∧ a1 ≤ IntKind.i64.max) (h_a2 : IntKind.i64.min ≤ a2 ∧ a2 ≤ IntKind.i64.max) (hg : ((okS a0 && (spec_l01Is_v0 a1 a0 && (decide (0 ≤ a2) && decide (a2 < 2))))) = true) : ansV Try.prog (mkΓ [(92, con impl_isLand_con), (96, con impl_hasPlace_con), (97, con impl_placeOf_con), (98, con impl_allWays_con), (99, con impl_waysByCell_con), (100, con impl_cellOf_con), (106, con impl_place_here_con), (107, con impl_place_north_con), (108, con impl_place_east_con), (109, con impl_place_south_con), (110, con impl_place_west_con)]) 1000 Try.f79 [([21], [1000007, 110])] [.g a0 36, .i .i64 (a1), .i .i64 (a2)] [] = some (.a .x, .newS none (stL a0 a2 a1.toNat).length (encSt (stL a0 a2 a1.toNat)) 110, true) := by
  rw [Bool.and_eq_true, Bool.and_eq_true] at hg
  obtain ⟨hok, his, ht⟩ := hg
  have h0 := okS_dims hok
  obtain ⟨c0, c1⟩ := is_range his
  obtain ⟨k, rfl⟩ : ∃ k : Nat, a1 = (k : Int) := ⟨a1.toNat, by omega⟩
  have hk : k < 36 := by omega
  rw [is_inC h_a0 hk] at his
  have hc : (decide (0 ≤ (k : Int)) && decide ((k : Int) < 36)) = true := by rw [decide_eq_true c0, decide_eq_true (show (k : Int) < 36 by omega)]; rfl
  refine (impl_stepsFrom_ans 1000 (by decide) a0 (k : Int) a2 ht hc).trans ?_
  rw [sf_v h0 hk his, Int.toNat_natCast, decide_eq_true c0]
  unfold stL
  cases impl_isLand_v0 a0 (k : Int) <;> rfl
noncomputable def impl_stepsFrom_con : Con := fun args h => match args, h with
  | [.g a0 36, .i .i64 a1, .i .i64 a2], [] => some (.a .x, .newS none (stL a0 a2 a1.toNat).length (encSt (stL a0 a2 a1.toNat)) 110, (okS a0 && (spec_l01Is_v0 a1 a0 && (decide (0 ≤ a2) && decide (a2 < 2)))))
  | _, _ => none
theorem impl_stepsFrom_enter : ∀ args w, (callFunc 79 args).run Try.prog w = .ok (.enter 79 args) w := enter_ok (fn := Try.f79) (by kernel_rfl) (by kernel_rfl) (by kernel_rfl)
theorem impl_stepsFrom_ok : ConOk Try.prog 79 impl_stepsFrom_con := (ans_ok (N := 1000) (by kernel_rfl) (mkΓ_cons (con_ok impl_isLand_ok) impl_isLand_enter (mkΓ_cons (con_ok impl_hasPlace_ok) impl_hasPlace_enter (mkΓ_cons (con_ok impl_placeOf_ok) impl_placeOf_enter (mkΓ_cons (con_ok impl_allWays_ok) impl_allWays_enter (mkΓ_cons (con_ok impl_waysByCell_ok) impl_waysByCell_enter (mkΓ_cons (con_ok impl_cellOf_ok) impl_cellOf_enter (mkΓ_cons (con_ok impl_place_here_ok) impl_place_here_enter (mkΓ_cons (con_ok impl_place_north_ok) impl_place_north_enter (mkΓ_cons (con_ok impl_place_east_ok) impl_place_east_enter (mkΓ_cons (con_ok impl_place_south_ok) impl_place_south_enter (mkΓ_cons (con_ok impl_place_west_ok) impl_place_west_enter mkΓ_nil))))))))))) (fn := Try.f79) (by kernel_rfl) (by kernel_rfl) [([21], [1000007, 110])]).of (by
  intro ρ h w args vals r e hA hH hr
  unfold impl_stepsFrom_con at hr
  split at hr
  · rename_i a0 a1 a2
    obtain ⟨rfl, hg⟩ := Prod.mk.inj (Option.some.inj hr)
    obtain ⟨rfl, hg2⟩ := Prod.mk.inj hg
    exact impl_stepsFrom_main a0 a1 a2 (hA.wt 0 rfl) (hA.rng 1 rfl) (hA.rng 2 rfl) hg2
  · cases hr)

end
end Go.Proofs.Ytmkkckhfghomfaa
