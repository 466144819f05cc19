/- The model's l01Ok. -/
import Derived.Test.YthpcidnfbceliaaDoorValidSea
namespace Go.Proofs.YthpcidnfbceliaaDoor
open Go.ChangeShapes Go.WideShapes Go.ChangeAt Go.RowKit
set_option linter.unusedVariables false

theorem splice_all {C : Array Value} {D : Array Value} (h : D.size = C.size) : splice C 0 D.toList = D := by
  refine Array.ext_getElem? fun i => ?_
  rw [splice_get _ _ _ (by simp; omega)]
  by_cases hi : i < D.size
  · rw [if_pos (by simp; omega)]; simp
  · rw [if_neg (by simp; omega), Array.getElem?_eq_none (by omega), Array.getElem?_eq_none (by omega)]

/-- Has a number in a tide chances that it may have? -/
def fitAt (wd hi ld : Int) (T : Array Value) (t k : Nat) : Bool := fitB (wetB wd hi ld k) (chAt T t k)
theorem okB_bad' {wd hi ld : Int} {T : Array Value} {t k : Nat} (ht : t < 2) (hk : k < 36) (h : fitAt wd hi ld T t k = false) : okB wd hi ld T = false := by
  refine okB_bad hk ?_
  unfold bothB
  unfold fitAt at h
  obtain rfl | rfl : t = 0 ∨ t = 1 := by omega
  · rw [h]; rfl
  · rw [h]; simp
theorem okB_yes' {wd hi ld : Int} {T : Array Value} (h1 : (inB wd 1 6 && inB hi 1 6) = true) (h2 : landB wd hi ld = true) (h3 : ∀ t, t < 2 → ∀ k, k < 36 → fitAt wd hi ld T t k = true) : okB wd hi ld T = true := by
  refine okB_yes h1 h2 fun k hk => ?_
  have a := h3 0 (by omega) k hk
  have b := h3 1 (by omega) k hk
  unfold fitAt at a b
  unfold bothB
  rw [a, b]; rfl

set_option maxRecDepth 100000 in
set_option maxHeartbeats 2000000 in
theorem spec_l01Ok (g : Nat) (t0 : TypeId) (fr : Nat × Nat) (wd hi ld : Int) (T : Array Value) (hS : SeaIn wd hi ld T) (w : World) (q0 : w.heap[g]? = some (.cells (sea wd hi ld T) t0 fr)) :
    Calls Tryd.prog 52 #[.pointer (some ⟨g, 0, none⟩)] w fun e w' => e = .returned (.bool (okB wd hi ld T)) ∧ Below w.heap.size w w' := by
  have c0 : w.cell? ⟨g, 0, none⟩ = some (.int .i8 wd) := cellAt q0 (sea_0 _ _ _ _)
  have c1 : w.cell? ⟨g, 1, none⟩ = some (.int .i8 hi) := cellAt q0 (sea_1 _ _ _ _)
  have c2 : w.cell? ⟨g, 2, none⟩ = some (.int .u64 ld) := cellAt q0 (sea_2 _ _ _ _)
  obtain ⟨wa, wb⟩ := hS.wide
  obtain ⟨ha, hb⟩ := hS.high
  have hl0 := (bounds_u64 hS.land).1
  have hCells := fun (W : World) (h : W.heap[g]? = some (.cells (sea wd hi ld T) t0 fr)) => spec_l01Cells g t0 fr wd hi ld T W h ⟨wa, wb⟩ ⟨ha, hb⟩
  cases h1 : inB wd 1 6
  · have hR := mkHid (okB_size (wd := wd) (hi := hi) (ld := ld) (T := T) (by rw [h1]; rfl))
    clear hCells hS
    go_enter Tryd.func52, Tryd.ntmps52
    go_wp2_with fail
    go_quiet ((first | (go_at_call 27; exact Calls.quiet_of_same ((spec_l00In _ _ _ _).mono fun _ _ h => ⟨h.1, h.2.symm⟩)) | (go_at_call 59; exact Calls.quiet_of_same ((hCells _ (by exact q0)).mono fun _ _ h => ⟨h.1, h.2.symm⟩))))
    go_wp2_with fail
    go_ret
    exact ⟨ret_bool hR.out.symm, chainDraws (Below.refl _ _) _⟩
  · cases h2 : inB hi 1 6
    · have hR := mkHid (okB_size (wd := wd) (hi := hi) (ld := ld) (T := T) (by rw [h1, h2]; rfl))
      clear hCells hS
      go_enter Tryd.func52, Tryd.ntmps52
      go_wp2_with fail
      go_quiet ((first | (go_at_call 27; exact Calls.quiet_of_same ((spec_l00In _ _ _ _).mono fun _ _ h => ⟨h.1, h.2.symm⟩)) | (go_at_call 59; exact Calls.quiet_of_same ((hCells _ (by exact q0)).mono fun _ _ h => ⟨h.1, h.2.symm⟩))))
      go_wp2_with fail
      go_ret
      exact ⟨ret_bool hR.out.symm, chainDraws (Below.refl _ _) _⟩
    · cases hL : landB wd hi ld
      · have hR := mkHid (okB_land (wd := wd) (hi := hi) (ld := ld) (T := T) hL)
        have hN : (bits .andNot .u64 ld (cellsUp wd hi 36) != 0) = true := by
          unfold landB at hL
          exact bne_iff_ne.2 (fun e => by rw [e] at hL; cases hL)
        clear hL hS
        go_enter Tryd.func52, Tryd.ntmps52
        go_wp2_with fail
        go_quiet ((first | (go_at_call 27; exact Calls.quiet_of_same ((spec_l00In _ _ _ _).mono fun _ _ h => ⟨h.1, h.2.symm⟩)) | (go_at_call 59; exact Calls.quiet_of_same ((hCells _ (by exact q0)).mono fun _ _ h => ⟨h.1, h.2.symm⟩))))
        go_wp2_with fail
        go_ret
        exact ⟨ret_bool hR.out.symm, chainDraws (Below.refl _ _) _⟩
      · have hN : (bits .andNot .u64 ld (cellsUp wd hi 36) != 0) = false := by
          unfold landB at hL
          rw [eq_of_beq hL]; rfl
        have hyes := fun h3 => okB_yes' (wd := wd) (hi := hi) (ld := ld) (T := T) (by rw [h1, h2]; rfl) hL h3
        have hbad := fun (t k : Nat) (ht : t < 2) (hk : k < 36) h => okB_bad' (wd := wd) (hi := hi) (ld := ld) (T := T) (t := t) (k := k) ht hk h
        have hsz : (sea wd hi ld T).size = 363 := by rw [sea_size, hS.size]
        clear hL
        go_enter Tryd.func52, Tryd.ntmps52
        go_wp2_with fail
        go_quiet ((first | (go_at_call 27; exact Calls.quiet_of_same ((spec_l00In _ _ _ _).mono fun _ _ h => ⟨h.1, h.2.symm⟩)) | (go_at_call 59; exact Calls.quiet_of_same ((hCells _ (by exact q0)).mono fun _ _ h => ⟨h.1, h.2.symm⟩))))
        go_wp2_with fail
        clear hN c0 c1 c2 h1 h2 hCells
        go_loopw [3] (fun tv wr => ∃ t : Nat, t ≤ 2 ∧ tv = .int .i64 t ∧ wr.heap[g]? = some (.cells (sea wd hi ld T) t0 fr) ∧ Below w.heap.size w wr ∧ Hid (∀ t', t' < t → ∀ k, k < 36 → fitAt wd hi ld T t' k = true)) (fun tv _ => 2 - (intOf tv).toNat)
        case atStart => exact ⟨0, Nat.zero_le _, rfl, q0, chainDraws (Below.refl _ _) _, mkHid fun j hj => absurd hj (Nat.not_lt_zero _)⟩
        case round =>
          obtain ⟨t, ht, rfl, r0, rB, hall⟩ := hrel
          clear q0
          by_cases htl : t < 2
          · have htb : decide ((t : Int) < 2) = true := decide_eq_true (by omega)
            go_wp2_with fail
            clear htb
            go_loopw [4] (fun iv wq => ∃ i : Nat, i ≤ 36 ∧ iv = .int .i64 i ∧ wq.heap[g]? = some (.cells (sea wd hi ld T) t0 fr) ∧ Below w.heap.size w wq ∧ Hid (∀ k, k < i → fitAt wd hi ld T t k = true)) (fun iv _ => 36 - (intOf iv).toNat)
            case atStart => exact ⟨0, Nat.zero_le _, rfl, r0, rB, mkHid fun j hj => absurd hj (Nat.not_lt_zero _)⟩
            case round =>
              obtain ⟨i, hi', rfl, p0, pB, hin⟩ := hrel
              clear r0 rB
              by_cases hil : i < 36
              · have hn : 3 + t * 180 + i * 5 + 5 ≤ (sea wd hi ld T).size := by rw [hsz]; omega
                have hD := mkHid (sea_chAt wd hi ld T hS.size htl hil)
                have hd5 := chAt_size hS.size htl hil
                have hu5 := chAt_u8 hS.bytes t i
                have hz : (Tryd.prog.info? 34).map (·.zero) = some (some (.agg (zeros 5))) := by kernel_rfl
                have hi5 : (Tryd.prog.info? 34).map (·.size) = some (chAt T t i).size := by rw [hd5]; kernel_rfl
                have hall5 := mkHid (show (chAt T t i).extract 0 (0 + 5) = chAt T t i by rw [Nat.zero_add, ← hd5, Array.extract_size])
                have hE := mkHid (show splice (zeros 5) 0 (chAt T t i).toList = chAt T t i from splice_all (by rw [zeros_size, hd5]))
                have hg : g < wr.heap.size := (Array.getElem?_eq_some_iff.1 p0).1
                have hlt0 : w.heap.size ≤ wr.heap.size := pB.size
                have hm : Tryd.prog.eqGuardType Tryd.prog.depth 34 = false := by kernel_rfl
                have hWet := fun (W : World) (h : W.heap[g]? = some (.cells (sea wd hi ld T) t0 fr)) => spec_l01Wet g t0 fr wd hi ld T i W h ⟨wa, wb⟩ ⟨ha, hb⟩ hl0
                have hCh := spec_l01Chances' (chAt T t i) hd5 hu5
                have hEq := eq_none (chAt T t i) hd5 hu5
                have hfit := mkHid (show fitAt wd hi ld T t i = fitB (wetB wd hi ld i) (chAt T t i) from rfl)
                have hbk := mkHid (hbad t i htl hil)
                clear hbad hyes
                cases hw : wetB wd hi ld i
                · simp only [hw] at hWet
                  cases he : eqB (chAt T t i) (zeros 5) 5
                  · simp only [he] at hEq
                    have hR := mkHid (hbk.out (by rw [hfit.out, hw]; exact he))
                    clear hw he hfit hbk hCh
                    go_wp2_with (first | (refine at_load 34 rfl ?_; first | refine op_load2 (chAt T t i) rfl 34 _ rfl _ _ rfl _ _ _ p0 _ Tryd.underlying34 rfl 5 (by kernel_rfl) hn hD.out ?_ | refine op_load_w (chAt T t i) rfl 34 _ rfl _ _ rfl _ _ _ pc _ Tryd.underlying34 rfl 5 (by kernel_rfl) (by rw [hd5]; omega) hall5.out ?_) | (refine op_alloc rfl 34 rfl (zeros 5) hz ?_) | (refine at_store 34 rfl ?_; refine op_store2 (chAt T t i) rfl 34 _ _ rfl _ _ rfl _ rfl _ _ (newBlock _ _) hi5 (by rw [zeros_size, hd5]; omega) (allU8_one hu5) hE.out ?_; intro w1 pc so sB; replace p0 := (so _ (by omega)).trans (keepAlloc _ p0); replace pB := chainStore (chainAlloc pB _) sB hlt0; clear so sB) | (go_at_call 35; refine (hWet _ (by exact p0)).mono ?_; rintro e w2 ⟨rfl, rfl⟩) | (go_at_call 81; refine (hCh _).mono ?_; rintro e w1 ⟨rfl, hb1⟩; replace p0 := keep hb1 p0; replace pc := keep hb1 pc; replace pB := chain pB hb1; clear hb1) | (refine at_neq 34 rfl ?_; refine op_neq false rfl 34 _ _ _ rfl _ _ rfl rfl hm (hEq _) ?_))
                    go_ret
                    exact ⟨ret_bool hR.out.symm, pB⟩
                  · simp only [he] at hEq
                    have hgood := mkHid (show fitAt wd hi ld T t i = true by rw [hfit.out, hw]; exact he)
                    have hnext := mkHid (fun (k : Nat) (hk : k < i + 1) => show fitAt wd hi ld T t k = true by
                      by_cases e : k = i
                      · rw [e]; exact hgood.out
                      · exact hin.out k (by omega))
                    clear hw he hfit hbk hCh hgood
                    go_wp2_with (first | (refine at_load 34 rfl ?_; first | refine op_load2 (chAt T t i) rfl 34 _ rfl _ _ rfl _ _ _ p0 _ Tryd.underlying34 rfl 5 (by kernel_rfl) hn hD.out ?_ | refine op_load_w (chAt T t i) rfl 34 _ rfl _ _ rfl _ _ _ pc _ Tryd.underlying34 rfl 5 (by kernel_rfl) (by rw [hd5]; omega) hall5.out ?_) | (refine op_alloc rfl 34 rfl (zeros 5) hz ?_) | (refine at_store 34 rfl ?_; refine op_store2 (chAt T t i) rfl 34 _ _ rfl _ _ rfl _ rfl _ _ (newBlock _ _) hi5 (by rw [zeros_size, hd5]; omega) (allU8_one hu5) hE.out ?_; intro w1 pc so sB; replace p0 := (so _ (by omega)).trans (keepAlloc _ p0); replace pB := chainStore (chainAlloc pB _) sB hlt0; clear so sB) | (go_at_call 35; refine (hWet _ (by exact p0)).mono ?_; rintro e w2 ⟨rfl, rfl⟩) | (go_at_call 81; refine (hCh _).mono ?_; rintro e w1 ⟨rfl, hb1⟩; replace p0 := keep hb1 p0; replace pc := keep hb1 pc; replace pB := chain pB hb1; clear hb1) | (refine at_neq 34 rfl ?_; refine op_neq true rfl 34 _ _ _ rfl _ _ rfl rfl hm (hEq _) ?_))
                    go_roundw
                    case rel => exact ⟨i + 1, by omega, by go_num, p0, pB, hnext⟩
                    case measure => simp [intOf]; omega
                · simp only [hw] at hWet
                  by_cases he : sum5 (chAt T t i) = 12
                  · simp only [he, decide_true] at hCh
                    have hgood := mkHid (show fitAt wd hi ld T t i = true by rw [hfit.out, hw]; exact decide_eq_true he)
                    have hnext := mkHid (fun (k : Nat) (hk : k < i + 1) => show fitAt wd hi ld T t k = true by
                      by_cases e : k = i
                      · rw [e]; exact hgood.out
                      · exact hin.out k (by omega))
                    clear hw he hfit hbk hEq hgood
                    go_wp2_with (first | (refine at_load 34 rfl ?_; first | refine op_load2 (chAt T t i) rfl 34 _ rfl _ _ rfl _ _ _ p0 _ Tryd.underlying34 rfl 5 (by kernel_rfl) hn hD.out ?_ | refine op_load_w (chAt T t i) rfl 34 _ rfl _ _ rfl _ _ _ pc _ Tryd.underlying34 rfl 5 (by kernel_rfl) (by rw [hd5]; omega) hall5.out ?_) | (refine op_alloc rfl 34 rfl (zeros 5) hz ?_) | (refine at_store 34 rfl ?_; refine op_store2 (chAt T t i) rfl 34 _ _ rfl _ _ rfl _ rfl _ _ (newBlock _ _) hi5 (by rw [zeros_size, hd5]; omega) (allU8_one hu5) hE.out ?_; intro w1 pc so sB; replace p0 := (so _ (by omega)).trans (keepAlloc _ p0); replace pB := chainStore (chainAlloc pB _) sB hlt0; clear so sB) | (go_at_call 35; refine (hWet _ (by exact p0)).mono ?_; rintro e w2 ⟨rfl, rfl⟩) | (go_at_call 81; refine (hCh _).mono ?_; rintro e w1 ⟨rfl, hb1⟩; replace p0 := keep hb1 p0; replace pc := keep hb1 pc; replace pB := chain pB hb1; clear hb1) | (refine at_neq 34 rfl ?_; refine op_neq true rfl 34 _ _ _ rfl _ _ rfl rfl hm (hEq _) ?_))
                    go_roundw
                    case rel => exact ⟨i + 1, by omega, by go_num, p0, pB, hnext⟩
                    case measure => simp [intOf]; omega
                  · simp only [he, decide_false] at hCh
                    have hR := mkHid (hbk.out (by rw [hfit.out, hw]; exact decide_eq_false he))
                    clear hw he hfit hbk hEq
                    go_wp2_with (first | (refine at_load 34 rfl ?_; first | refine op_load2 (chAt T t i) rfl 34 _ rfl _ _ rfl _ _ _ p0 _ Tryd.underlying34 rfl 5 (by kernel_rfl) hn hD.out ?_ | refine op_load_w (chAt T t i) rfl 34 _ rfl _ _ rfl _ _ _ pc _ Tryd.underlying34 rfl 5 (by kernel_rfl) (by rw [hd5]; omega) hall5.out ?_) | (refine op_alloc rfl 34 rfl (zeros 5) hz ?_) | (refine at_store 34 rfl ?_; refine op_store2 (chAt T t i) rfl 34 _ _ rfl _ _ rfl _ rfl _ _ (newBlock _ _) hi5 (by rw [zeros_size, hd5]; omega) (allU8_one hu5) hE.out ?_; intro w1 pc so sB; replace p0 := (so _ (by omega)).trans (keepAlloc _ p0); replace pB := chainStore (chainAlloc pB _) sB hlt0; clear so sB) | (go_at_call 35; refine (hWet _ (by exact p0)).mono ?_; rintro e w2 ⟨rfl, rfl⟩) | (go_at_call 81; refine (hCh _).mono ?_; rintro e w1 ⟨rfl, hb1⟩; replace p0 := keep hb1 p0; replace pc := keep hb1 pc; replace pB := chain pB hb1; clear hb1) | (refine at_neq 34 rfl ?_; refine op_neq false rfl 34 _ _ _ rfl _ _ rfl rfl hm (hEq _) ?_))
                    go_ret
                    exact ⟨ret_bool hR.out.symm, pB⟩
              · obtain rfl : i = 36 := by omega
                have hnext := mkHid (fun (t' : Nat) (h : t' < t + 1) => show ∀ k, k < 36 → fitAt wd hi ld T t' k = true by
                  by_cases e : t' = t
                  · rw [e]; exact hin.out
                  · exact hall.out t' (by omega))
                clear hyes hbad
                go_wp2_with fail
                go_roundw
                case rel => exact ⟨t + 1, by omega, by go_num, p0, pB, hnext⟩
                case measure => simp [intOf]; omega
          · obtain rfl : t = 2 := by omega
            have hy := mkHid (hyes hall.out)
            clear hyes hbad
            go_wp2_with fail
            go_ret
            exact ⟨ret_bool hy.out.symm, rB⟩
end Go.Proofs.YthpcidnfbceliaaDoor
