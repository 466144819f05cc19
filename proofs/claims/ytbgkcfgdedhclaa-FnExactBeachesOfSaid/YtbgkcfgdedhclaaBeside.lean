/- The model's cells beside cells of the other kind. -/
import Derived.Test.YtbgkcfgdedhclaaGoes
import Derived.Test.YtbgkcfgdedhclaaImplD
namespace Go.Proofs.Ytbgkcfgdedhclaa
open Go.ChangeShapes Go.WideShapes Go.ChangeAt Go.RowKit
set_option linter.unusedVariables false

/-- Does a way lead from a cell to a cell of the other kind? -/
def hitB (wd hi ld : Int) (dry : Bool) (c : Int) (y : Nat) : Bool := decide (0 ≤ goesV wd hi c y) && (dryB ld (goesV wd hi c y) != dry)
def besUp (wd hi ld : Int) (dry : Bool) (c : Nat) (o : Int) : Nat → Int
  | 0 => o
  | j + 1 => bif hitB wd hi ld dry c (j + 1) then bits .or .u64 (besUp wd hi ld dry c o j) (IntKind.u64.wrap (2 ^ c)) else besUp wd hi ld dry c o j
def besV (wd hi ld : Int) (dry : Bool) : Nat → Int
  | 0 => 0
  | k + 1 => bif isB wd hi k && (dryB ld k == dry) then besUp wd hi ld dry k (besV wd hi ld dry k) 4 else besV wd hi ld dry k

theorem goesV_le {wd hi c y : Int} (hB : 1 ≤ wd ∧ wd ≤ 6 ∧ 1 ≤ hi ∧ hi ≤ 6) (h : 0 ≤ goesV wd hi c y) : goesV wd hi c y ≤ 35 := by
  unfold goesV at h ⊢
  cases e : plB wd hi (mvx y c) (mvy y c)
  · simp [cond_false]
  · have := of_decide_eq_true e
    simp only [cond_true]
    omega

set_option maxHeartbeats 2000000 in
theorem spec_l01Beside (g : Nat) (t : TypeId) (fr : Nat × Nat) (wd hi ld : Int) (T : Array Value) (dry : Bool) (w : World) (q0 : w.heap[g]? = some (.cells (sea wd hi ld T) t fr)) (hBd : 1 ≤ wd ∧ wd ≤ 6 ∧ 1 ≤ hi ∧ hi ≤ 6) (hl : 0 ≤ ld) :
    Calls Try.prog 43 #[.pointer (some ⟨g, 0, none⟩), .bool dry] w fun e w' => e = .returned (.int .u64 (besV wd hi ld dry 36)) ∧ w = w' := by
  cases dry
  · have hIs := fun c => spec_l01Is g t fr wd hi ld T c w q0 (by omega) (by omega)
    have hDr := fun c hc => spec_l01Dry g t fr wd hi ld T c w q0 hc hl
    have hGo := fun c y hc hy => spec_l01Goes g t fr wd hi ld T c y w q0 (by omega) (by omega) hc hy
    clear q0 hl
    go_enter Try.func43, Try.ntmps43
    go_wp2
    go_loop [5, 6] (fun o i => ∃ k : Nat, k ≤ 36 ∧ i = .int .i64 k ∧ o = .int .u64 (besV wd hi ld false k)) (fun _ i => 36 - (intOf i).toNat)
    case atStart => exact ⟨0, Nat.zero_le _, rfl, rfl⟩
    case round =>
      obtain ⟨k, hk, rfl, rfl⟩ := hrel
      by_cases hlt : k < 36
      · have h := hIs k
        cases hb : isB wd hi k
        · rw [hb] at h
          have HS := mkHid (show besV wd hi ld false (k + 1) = besV wd hi ld false k by rw [besV, hb]; rfl)
          clear hb hIs hDr hGo
          go_wp2_with (go_at_call 59; refine (h).mono ?_; rintro e w1 ⟨rfl, rfl⟩)
          go_round
          case rel => exact ⟨k + 1, by omega, by go_num, by rw [HS.out]⟩
          case measure => simp [intOf]; omega
        · rw [hb] at h
          have hd := hDr k (by omega)
          cases hdd : dryB ld k == false
          · have hdv : dryB ld k = true := by revert hdd; cases dryB ld k <;> simp
            rw [hdv] at hd
            have HS := mkHid (show besV wd hi ld false (k + 1) = besV wd hi ld false k by rw [besV, hb, hdd]; rfl)
            clear hb hIs hDr hGo hdd hdv
            go_wp2_with (first | (go_at_call 59; refine (h).mono ?_; rintro e w1 ⟨rfl, rfl⟩) | (go_at_call 60; refine (hd).mono ?_; rintro e w1 ⟨rfl, rfl⟩))
            go_round
            case rel => exact ⟨k + 1, by omega, by go_num, by rw [HS.out]⟩
            case measure => simp [intOf]; omega
          · have hdv : dryB ld k = false := by revert hdd; cases dryB ld k <;> simp
            rw [hdv] at hd
            have HS := mkHid (show besV wd hi ld false (k + 1) = besUp wd hi ld false k (besV wd hi ld false k) 4 by rw [besV, hb, hdd]; rfl)
            have hGk := fun y hy => hGo k y (by omega) hy
            clear hb hIs hGo hdd hdv
            go_wp2_with (first | (go_at_call 59; refine (h).mono ?_; rintro e w1 ⟨rfl, rfl⟩) | (go_at_call 60; refine (hd).mono ?_; rintro e w1 ⟨rfl, rfl⟩))
            clear h hd
            go_loop [5, 7] (fun o y => ∃ j : Nat, j ≤ 4 ∧ y = .int .i64 (j + 1 : Nat) ∧ o = .int .u64 (besUp wd hi ld false k (besV wd hi ld false k) j)) (fun _ y => 5 - (intOf y).toNat)
            case atStart => exact ⟨0, Nat.zero_le _, rfl, rfl⟩
            case round =>
              obtain ⟨j, hj, rfl, rfl⟩ := hrel
              by_cases hjl : j < 4
              · have hg := hGk (j + 1 : Nat) (by omega)
                by_cases hv : 0 ≤ goesV wd hi k (j + 1 : Nat)
                · have hd2 := hDr _ ⟨hv, goesV_le hBd hv⟩
                  cases hx : dryB ld (goesV wd hi k (j + 1 : Nat))
                  · have HU := mkHid (show besUp wd hi ld false k (besV wd hi ld false k) (j + 1) = besUp wd hi ld false k (besV wd hi ld false k) j by rw [besUp, hitB, decide_eq_true hv, hx]; rfl)
                    rw [hx] at hd2
                    clear HS hGk hDr hx hBd
                    generalize goesV wd hi k (j + 1 : Nat) = v at hg hd2 hv
                    go_wp2_with (first | (go_at_call 79; refine (hg).mono ?_; rintro e w1 ⟨rfl, rfl⟩) | (go_at_call 60; refine (hd2).mono ?_; rintro e w1 ⟨rfl, rfl⟩))
                    go_round
                    case rel => exact ⟨j + 1, by omega, by go_num, by rw [HU.out]⟩
                    case measure => simp [intOf]; omega
                  · have HU := mkHid (show besUp wd hi ld false k (besV wd hi ld false k) (j + 1) = bits .or .u64 (besUp wd hi ld false k (besV wd hi ld false k) j) (IntKind.u64.wrap (2 ^ k)) by rw [besUp, hitB, decide_eq_true hv, hx]; rfl)
                    rw [hx] at hd2
                    clear HS hGk hDr hx hBd
                    generalize goesV wd hi k (j + 1 : Nat) = v at hg hd2 hv
                    go_wp2_with (first | (go_at_call 79; refine (hg).mono ?_; rintro e w1 ⟨rfl, rfl⟩) | (go_at_call 60; refine (hd2).mono ?_; rintro e w1 ⟨rfl, rfl⟩))
                    go_round
                    case rel => exact ⟨j + 1, by omega, by go_num, by rw [HU.out]⟩
                    case measure => simp [intOf]; omega
                · have HU := mkHid (show besUp wd hi ld false k (besV wd hi ld false k) (j + 1) = besUp wd hi ld false k (besV wd hi ld false k) j by rw [besUp, hitB, decide_eq_false hv]; rfl)
                  clear HS hGk hDr hBd
                  generalize goesV wd hi k (j + 1 : Nat) = v at hg hv
                  go_wp2_with (go_at_call 79; refine (hg).mono ?_; rintro e w1 ⟨rfl, rfl⟩)
                  go_round
                  case rel => exact ⟨j + 1, by omega, by go_num, by rw [HU.out]⟩
                  case measure => simp [intOf]; omega
              · obtain rfl : j = 4 := by omega
                clear hGk hDr
                go_wp2
                go_round
                case rel => exact ⟨k + 1, by omega, by go_num, by rw [HS.out]⟩
                case measure => simp [intOf]; omega
      · obtain rfl : k = 36 := by omega
        clear hIs hDr hGo
        go_wp2
        go_ret
        exact ⟨rfl, rfl⟩
  · have hIs := fun c => spec_l01Is g t fr wd hi ld T c w q0 (by omega) (by omega)
    have hDr := fun c hc => spec_l01Dry g t fr wd hi ld T c w q0 hc hl
    have hGo := fun c y hc hy => spec_l01Goes g t fr wd hi ld T c y w q0 (by omega) (by omega) hc hy
    clear q0 hl
    go_enter Try.func43, Try.ntmps43
    go_wp2
    go_loop [5, 6] (fun o i => ∃ k : Nat, k ≤ 36 ∧ i = .int .i64 k ∧ o = .int .u64 (besV wd hi ld true k)) (fun _ i => 36 - (intOf i).toNat)
    case atStart => exact ⟨0, Nat.zero_le _, rfl, rfl⟩
    case round =>
      obtain ⟨k, hk, rfl, rfl⟩ := hrel
      by_cases hlt : k < 36
      · have h := hIs k
        cases hb : isB wd hi k
        · rw [hb] at h
          have HS := mkHid (show besV wd hi ld true (k + 1) = besV wd hi ld true k by rw [besV, hb]; rfl)
          clear hb hIs hDr hGo
          go_wp2_with (go_at_call 59; refine (h).mono ?_; rintro e w1 ⟨rfl, rfl⟩)
          go_round
          case rel => exact ⟨k + 1, by omega, by go_num, by rw [HS.out]⟩
          case measure => simp [intOf]; omega
        · rw [hb] at h
          have hd := hDr k (by omega)
          cases hdd : dryB ld k == true
          · have hdv : dryB ld k = false := by revert hdd; cases dryB ld k <;> simp
            rw [hdv] at hd
            have HS := mkHid (show besV wd hi ld true (k + 1) = besV wd hi ld true k by rw [besV, hb, hdd]; rfl)
            clear hb hIs hDr hGo hdd hdv
            go_wp2_with (first | (go_at_call 59; refine (h).mono ?_; rintro e w1 ⟨rfl, rfl⟩) | (go_at_call 60; refine (hd).mono ?_; rintro e w1 ⟨rfl, rfl⟩))
            go_round
            case rel => exact ⟨k + 1, by omega, by go_num, by rw [HS.out]⟩
            case measure => simp [intOf]; omega
          · have hdv : dryB ld k = true := by revert hdd; cases dryB ld k <;> simp
            rw [hdv] at hd
            have HS := mkHid (show besV wd hi ld true (k + 1) = besUp wd hi ld true k (besV wd hi ld true k) 4 by rw [besV, hb, hdd]; rfl)
            have hGk := fun y hy => hGo k y (by omega) hy
            clear hb hIs hGo hdd hdv
            go_wp2_with (first | (go_at_call 59; refine (h).mono ?_; rintro e w1 ⟨rfl, rfl⟩) | (go_at_call 60; refine (hd).mono ?_; rintro e w1 ⟨rfl, rfl⟩))
            clear h hd
            go_loop [5, 7] (fun o y => ∃ j : Nat, j ≤ 4 ∧ y = .int .i64 (j + 1 : Nat) ∧ o = .int .u64 (besUp wd hi ld true k (besV wd hi ld true k) j)) (fun _ y => 5 - (intOf y).toNat)
            case atStart => exact ⟨0, Nat.zero_le _, rfl, rfl⟩
            case round =>
              obtain ⟨j, hj, rfl, rfl⟩ := hrel
              by_cases hjl : j < 4
              · have hg := hGk (j + 1 : Nat) (by omega)
                by_cases hv : 0 ≤ goesV wd hi k (j + 1 : Nat)
                · have hd2 := hDr _ ⟨hv, goesV_le hBd hv⟩
                  cases hx : dryB ld (goesV wd hi k (j + 1 : Nat))
                  · have HU := mkHid (show besUp wd hi ld true k (besV wd hi ld true k) (j + 1) = bits .or .u64 (besUp wd hi ld true k (besV wd hi ld true k) j) (IntKind.u64.wrap (2 ^ k)) by rw [besUp, hitB, decide_eq_true hv, hx]; rfl)
                    rw [hx] at hd2
                    clear HS hGk hDr hx hBd
                    generalize goesV wd hi k (j + 1 : Nat) = v at hg hd2 hv
                    go_wp2_with (first | (go_at_call 79; refine (hg).mono ?_; rintro e w1 ⟨rfl, rfl⟩) | (go_at_call 60; refine (hd2).mono ?_; rintro e w1 ⟨rfl, rfl⟩))
                    go_round
                    case rel => exact ⟨j + 1, by omega, by go_num, by rw [HU.out]⟩
                    case measure => simp [intOf]; omega
                  · have HU := mkHid (show besUp wd hi ld true k (besV wd hi ld true k) (j + 1) = besUp wd hi ld true k (besV wd hi ld true k) j by rw [besUp, hitB, decide_eq_true hv, hx]; rfl)
                    rw [hx] at hd2
                    clear HS hGk hDr hx hBd
                    generalize goesV wd hi k (j + 1 : Nat) = v at hg hd2 hv
                    go_wp2_with (first | (go_at_call 79; refine (hg).mono ?_; rintro e w1 ⟨rfl, rfl⟩) | (go_at_call 60; refine (hd2).mono ?_; rintro e w1 ⟨rfl, rfl⟩))
                    go_round
                    case rel => exact ⟨j + 1, by omega, by go_num, by rw [HU.out]⟩
                    case measure => simp [intOf]; omega
                · have HU := mkHid (show besUp wd hi ld true k (besV wd hi ld true k) (j + 1) = besUp wd hi ld true k (besV wd hi ld true k) j by rw [besUp, hitB, decide_eq_false hv]; rfl)
                  clear HS hGk hDr hBd
                  generalize goesV wd hi k (j + 1 : Nat) = v at hg hv
                  go_wp2_with (go_at_call 79; refine (hg).mono ?_; rintro e w1 ⟨rfl, rfl⟩)
                  go_round
                  case rel => exact ⟨j + 1, by omega, by go_num, by rw [HU.out]⟩
                  case measure => simp [intOf]; omega
              · obtain rfl : j = 4 := by omega
                clear hGk hDr
                go_wp2
                go_round
                case rel => exact ⟨k + 1, by omega, by go_num, by rw [HS.out]⟩
                case measure => simp [intOf]; omega
      · obtain rfl : k = 36 := by omega
        clear hIs hDr hGo
        go_wp2
        go_ret
        exact ⟨rfl, rfl⟩
end Go.Proofs.Ytbgkcfgdedhclaa
