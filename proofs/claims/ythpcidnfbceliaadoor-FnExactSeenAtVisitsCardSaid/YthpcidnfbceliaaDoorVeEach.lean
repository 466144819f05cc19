/- The program's iterators over cells have their contracts for the symbolic run. -/
import Derived.RangeFuncNested
import Derived.RangeFuncBound
import Derived.RangeFuncCalls
import Derived.RangeFuncLeaves
import Derived.Shelf.Abstract
import Derived.Shelf.RegionOpen
import Derived.WalkKit
import Derived.OwnWalkIn
import Derived.TacticsInMore
import Derived.LoopNIn
import Derived.LoopIn
import Derived.RegionTactic
import Derived.RangeFuncFrom
import Derived.RangeFuncBox
import Derived.ChangeAlike
import Derived.Test.YthpcidnfbceliaaDoorWorld
import Derived.Test.YthpcidnfbceliaaDoorProg
import Derived.Test.YthpcidnfbceliaaDoorVeD
namespace Go.Proofs.YthpcidnfbceliaaDoor
open Go.ChangeShapes Go.WideShapes Go.ChangeAt Go.RowKit Go.Shelf Ve
set_option linter.unusedVariables false
attribute [local go_sem] Oper.semAt_some

theorem hideV {p : Prop} (h : p) : Hid p := h
theorem keepV {W : World} {g : Nat} {o : Obj} (o' : Obj) (h : W.heap[g]? = some o) : (W.alloc o').heap[g]? = some o :=
  (Below.heap_alloc W o' g (Array.getElem?_eq_some_iff.1 h).1).trans h

set_option maxHeartbeats 400000 in
theorem cellOf_v (x y : Int) (hx : 0 ≤ x ∧ x ≤ 100) (hy : 0 ≤ y ∧ y ≤ 100) (w : World) : Calls Tryd.prog 124 #[.agg #[.int .i64 x, .int .i64 y]] w fun e w' => e = .returned (.int .i64 (x + 6 * y)) ∧ w.alloc (.cells #[.int .i64 x, .int .i64 y] 174) = w' := by
  obtain ⟨xa, xb⟩ := hx
  obtain ⟨ya, yb⟩ := hy
  go_enter Tryd.func124, Tryd.ntmps124
  go_wp2
  go_ret
  exact ⟨rfl, rfl⟩

set_option maxRecDepth 100000 in
set_option maxHeartbeats 1000000 in
theorem eachCell_seq (n : Nat) (hn : 3 ≤ n) (bh bw wd hi : Nat) (hw6 : wd ≤ 6) (hh6 : hi ≤ 6) (w : World) (hbh : w.heap[bh]? = some (.cells #[.int .i64 hi] 2 (0, 0))) (hbw : w.heap[bw]? = some (.cells #[.int .i64 wd] 2 (0, 0))) :
    SeqStopsV Fence.wide n Tryd.prog 123 #[.pointer (some ⟨bh, 0, none⟩), .pointer (some ⟨bw, 0, none⟩)] (fun x : Int => #[.int .i64 x]) (KeepL [bh, bw]) (· = cellsL wd hi 36) (· <+: cellsL wd hi 36) (fun pre x => pre ++ [x] <+: cellsL wd hi 36) w := by
  intro l J Jx W hbel hJ hJx hY h0
  have hbh : W.heap[bh]? = some (.cells #[.int .i64 hi] 2 (0, 0)) := (hbel.block bh (Array.getElem?_eq_some_iff.1 hbh).1).trans hbh
  have hbw : W.heap[bw]? = some (.cells #[.int .i64 wd] 2 (0, 0)) := (hbel.block bw (Array.getElem?_eq_some_iff.1 hbw).1).trans hbw
  show CallsIn Fence.wide n Tryd.prog 123 #[.func (.yield l) #[] #[], .pointer (some ⟨bh, 0, none⟩), .pointer (some ⟨bw, 0, none⟩)] W _
  refine callsIn_of_wp Tryd.func123 rfl trivial ?_ rfl
  simp only [Tryd.ntmps123, List.size_toArray, List.length_cons, List.length_nil, Nat.reduceAdd, Nat.reduceSub, Array.replicate_succ, Array.replicate_zero, List.push_toArray, List.append_toArray, List.nil_append, List.cons_append]
  have hz : W.heap.size ≤ W.heap.size := Nat.le_refl _
  have hn1 : 1 ≤ n := by omega
  clear hn
  have HJ := hideV hJ
  have HY := hideV hY
  clear hJ hJx hY hbel
  have ch : W.cell? ⟨bh, 0, none⟩ = some (.int .i64 hi) := by rw [cell_of_row W bh 0 _ _ _ hbh]; rfl
  gi_wp2
  gi_loopw [7] (fun yv wr => ∃ y : Nat, y ≤ hi ∧ yv = .int .i64 y ∧ J (cellsL wd hi (6 * y)) wr ∧ W.heap.size ≤ wr.heap.size ∧ wr.heap[bh]? = some (.cells #[.int .i64 hi] 2 (0, 0)) ∧ wr.heap[bw]? = some (.cells #[.int .i64 wd] 2 (0, 0))) (fun yv _ => hi - (intOf yv).toNat)
  case atStart => exact ⟨0, Nat.zero_le _, rfl, h0, hz, hbh, hbw⟩
  case round =>
    obtain ⟨y, hy, rfl, hJ0, hz0, hbh0, hbw0⟩ := hrel
    clear ch hbh hbw h0 hz
    by_cases hlt : y < hi
    · have cw : wr.cell? ⟨bw, 0, none⟩ = some (.int .i64 wd) := by rw [cell_of_row wr bw 0 _ _ _ hbw0]; rfl
      gi_wp2
      clear cw
      gi_loopw [5, 11] (fun _ xv wq => ∃ x : Nat, x ≤ wd ∧ xv = .int .i64 x ∧ J (cellsL wd hi (6 * y + x)) wq ∧ W.heap.size ≤ wq.heap.size ∧ wq.heap[bh]? = some (.cells #[.int .i64 hi] 2 (0, 0)) ∧ wq.heap[bw]? = some (.cells #[.int .i64 wd] 2 (0, 0))) (fun _ xv _ => wd - (intOf xv).toNat)
      case atStart => exact ⟨0, Nat.zero_le _, rfl, hJ0, hz0, hbh0, hbw0⟩
      case round =>
        obtain ⟨x, hx, rfl, hJ1, hz1, hbh1, hbw1⟩ := hrel
        clear hbh0 hbw0 hJ0 hz0
        by_cases hxl : x < wd
        · have hB := inC_at hw6 hh6 hxl hlt
          have hJ' : J (cellsL wd hi (6 * y + x)) (wr.alloc (.cells #[.int .i64 x, .int .i64 y] 174)) := HJ.out _ _ _ none hJ1 (World.grownBy_alloc _ _ _) (fun r e => by cases e)
          obtain ⟨fn, tmps, assign, body, hy', hR⟩ := HY.out (cellsL wd hi (6 * y + x)) ((6 * y + x : Nat) : Int) _ hJ' (by rw [← cellsL_yes hB]; exact cellsL_prefix (by omega)) (by simp; omega)
          try dsimp only at hy'
          rw [show ((6 * y + x : Nat) : Int) = (x : Int) + 6 * (y : Int) by omega] at hy'
          rw [← cellsL_yes hB] at hR
          have HB := hideV hB
          clear hB hJ'
          gi_wp2_with (refine ⟨trivial, ?_⟩; gi_at_call 124; refine (callsIn_wide.2 (cellOf_v x y ⟨by omega, by omega⟩ ⟨by omega, by omega⟩ _)).mono ?_; rintro e w1 ⟨rfl, rfl⟩)
          refine hR.mono ?_
          rintro e W2 (⟨rfl, hJ2, hk, hkf⟩ | ⟨rfl, hJx2, hkf⟩)
          · have hbh2 := hk bh (by simp) _ _ _ (keepV (.cells #[.int .i64 x, .int .i64 y] 174) hbh1)
            have hbw2 := hk bw (by simp) _ _ _ (keepV (.cells #[.int .i64 x, .int .i64 y] 174) hbw1)
            have hz2 : W.heap.size ≤ W2.heap.size := by have := hkf.size; simp at this; omega
            clear hk hkf hbh1 hbw1 hJ1 hy' hR hz1
            gi_wp2
            go_roundw
            case rel => exact ⟨x + 1, by omega, by go_num, by rw [show 6 * y + (x + 1) = 6 * y + x + 1 by omega]; exact hJ2, hz2, hbh2, hbw2⟩
            case measure => simp [intOf]; omega
          · clear hkf
            gi_wp2
            refine bodyPost_ret (results_none rfl _ _ _) rfl ?_
            exact ⟨⟨_, rfl⟩, .inr ⟨_, cellsL_prefix (by omega), hJx2⟩⟩
        · obtain rfl : x = wd := by omega
          have hJ2 := hJ1
          rw [← cellsL_row hw6] at hJ2
          clear hJ1
          gi_wp2
          go_roundw
          case rel => exact ⟨y + 1, by omega, by go_num, hJ2, hz1, hbh1, hbw1⟩
          case measure => simp [intOf]; omega
    · obtain rfl : y = hi := by omega
      rw [← cellsL_end hh6] at hJ0
      gi_wp2
      go_end0
      exact ⟨⟨_, rfl⟩, .inl ⟨_, rfl, hJ0⟩⟩

def impl_eachCell_1_ic : ICon := fun bs => match bs with
  | [.row H 2, .row V 2] => some ⟨Int, fun n => [.i .i64 n], cellsL (num V 0) (num H 0) 36, decide (0 ≤ num V 0) && decide (num V 0 ≤ 6) && (decide (0 ≤ num H 0) && decide (num H 0 ≤ 6))⟩
  | _ => none
theorem impl_eachCell_1_iok : IConOk Tryd.prog 123 impl_eachCell_1_ic := by
  intro ρ h w ns Y hY hok hH hr
  match ns, hY, hr with
  | [n1, n2], hY, hr =>
    simp only [getH] at hY
    unfold impl_eachCell_1_ic at hY
    split at hY
    · rename_i H V heq
      have e0 := (List.cons.inj heq).1
      have e1 := (List.cons.inj (List.cons.inj heq).2).1
      cases hY
      have g : ∀ {m : Nat} {C : Array Value} {t : TypeId}, h.getD m .no = .row C t → h[m]? = some (.row C t) := fun {m C t} e => by
        rw [List.getD_eq_getElem?_getD] at e
        cases hm : h[m]? with
        | none => rw [hm] at e; cases e
        | some b => rw [hm] at e; exact congrArg some e
      obtain ⟨h1, w1⟩ := hH.is n1 _ (g e0)
      obtain ⟨h2, w2⟩ := hH.is n2 _ (g e1)
      have one : ∀ {C : Array Value}, WT Tryd.prog 2 C → C = #[.int .i64 (num C 0)] := fun {C} hC => by
        have hl : lay Tryd.prog 2 = [3] := by kernel_rfl
        have hz := hC.layLen
        rw [hl] at hz
        have := hC.int (o := 0) (k := .i64) (by rw [hl]; rfl)
        refine Array.ext_getElem? fun i => ?_
        by_cases hi : i = 0
        · subst hi; rw [this.1]; rfl
        · rw [Array.getElem?_eq_none (by simp at hz; omega), Array.getElem?_eq_none (by simp; omega)]
      dsimp only at hok
      simp only [Bool.and_eq_true, decide_eq_true_eq] at hok
      obtain ⟨⟨a1, a2⟩, a3, a4⟩ := hok
      obtain ⟨vn, hv⟩ : ∃ vn : Nat, num V 0 = vn := ⟨(num V 0).toNat, by omega⟩
      obtain ⟨hn, hh⟩ : ∃ hn : Nat, num H 0 = hn := ⟨(num H 0).toNat, by omega⟩
      rw [one w1, hh] at h1
      rw [one w2, hv] at h2
      rw [hv, hh]
      refine ⟨fun pre x hpre y hy => ?_, fun n hn' => ?_⟩
      · simp only [List.mem_singleton] at hy
        subst hy
        refine ⟨rfl, rfl, ?_⟩
        have := cellsL_mem (x := x) (hpre.subset (by simp))
        have e1 : IntKind.i64.min = -9223372036854775808 := rfl
        have e2 : IntKind.i64.max = 9223372036854775807 := rfl
        omega
      · exact eachCell_seq n hn' (ρ n1) (ρ n2) vn hn (by omega) (by omega) w h1 h2
    · cases hY
  | [], hY, _ => cases hY
  | [_], hY, _ =>
    simp only [getH] at hY
    unfold impl_eachCell_1_ic at hY
    split at hY
    · rename_i heq; simp at heq
    · cases hY
  | _ :: _ :: _ :: _, hY, _ =>
    simp only [getH] at hY
    unfold impl_eachCell_1_ic at hY
    split at hY
    · rename_i heq; simp at heq
    · cases hY
theorem impl_eachCell_1_enter : Enters Tryd.prog 123 := enter_ok (fn := Tryd.f123) (by kernel_rfl) (by kernel_rfl) (by kernel_rfl)

/-- What eachCell hands back. -/
def EachPostV (wd hi : Int) (w : World) (e : Ending) (w' : World) : Prop := ∃ bh bw : Nat, e = .returned (.func (.func 123) #[] #[.pointer (some ⟨bh, 0, none⟩), .pointer (some ⟨bw, 0, none⟩)]) ∧
  w'.heap[bh]? = some (.cells #[.int .i64 hi] 2 (0, 0)) ∧ w'.heap[bw]? = some (.cells #[.int .i64 wd] 2 (0, 0)) ∧ w.heap.size ≤ bh ∧ w.heap.size ≤ bw ∧ bh ≠ bw ∧ Below w.heap.size w w'
theorem newAtV (W : World) (o : Obj) {n : Nat} (h : n = W.heap.size) : (W.alloc o).heap[n]? = some o := by subst h; exact newBlock W o

set_option maxHeartbeats 1000000 in
theorem impl_eachCell_v (S : Array Value) (wd hi : Int) (s0 : S[0]? = some (.int .i8 wd)) (s1 : S[1]? = some (.int .i8 hi)) (hw1 : -128 ≤ wd ∧ wd ≤ 127) (hh1 : -128 ≤ hi ∧ hi ≤ 127) (w : World) :
    Calls Tryd.prog 112 #[.agg S] w (EachPostV wd hi w) := by
  obtain ⟨wa, wb⟩ := hw1
  obtain ⟨ha, hb⟩ := hh1
  go_enter Tryd.func112, Tryd.ntmps112
  go_wp2_with fail
  go_region
  all_goals go_wp2_with fail
  all_goals go_ret
  · exact ⟨_, _, rfl, newAtV ((w.alloc (.cells S 38)).alloc (.cells #[.int .i64 wd] 2)) (.cells #[.int .i64 hi] 2) (by simp), keepAlloc (.cells #[.int .i64 hi] 2) (newAtV (w.alloc (.cells S 38)) (.cells #[.int .i64 wd] 2) (by simp)), by omega, by omega, by omega, (chainAlloc (chainAlloc (chainAlloc (Below.refl w.heap.size w) _) _) _).drew⟩
  · exact ⟨_, _, rfl, keepAlloc (.cells #[.int .i64 wd] 2) (newAtV (w.alloc (.cells S 38)) (.cells #[.int .i64 hi] 2) (by simp)), newAtV ((w.alloc (.cells S 38)).alloc (.cells #[.int .i64 hi] 2)) (.cells #[.int .i64 wd] 2) (by simp), by omega, by omega, by omega, (chainAlloc (chainAlloc (chainAlloc (Below.refl w.heap.size w) _) _) _).drew⟩

def impl_eachCell_nc : NCon := fun args => match args with
  | [.g S 38] => some ⟨123, [(#[.int .i64 (num S 1)], 2), (#[.int .i64 (num S 0)], 2)]⟩
  | _ => none
theorem impl_eachCell_nok : NConOk Tryd.prog 112 impl_eachCell_nc := by
  intro ρ h w args vals c hr hA hH
  unfold impl_eachCell_nc at hr
  split at hr
  · rename_i S
    cases hr
    match vals, hA with
    | [v], hA =>
      obtain ⟨rfl, hW⟩ := hA.2 0 _ v rfl rfl
      obtain ⟨s0, a0, b0⟩ := hW.int (o := 0) (k := .i8) (by kernel_rfl)
      obtain ⟨s1, a1, b1⟩ := hW.int (o := 1) (k := .i8) (by kernel_rfl)
      have e1 : IntKind.i8.min = -128 := rfl
      have e2 : IntKind.i8.max = 127 := rfl
      rw [e1] at a0 a1
      rw [e2] at b0 b1
      have hl : lay Tryd.prog 2 = [3] := by kernel_rfl
      have wt : ∀ x : Int, -128 ≤ x → x ≤ 127 → WT Tryd.prog 2 #[.int .i64 x] := fun x h1 h2 => okScalar (by rw [hl]; rfl) (by
        have e1 : IntKind.i64.min = -9223372036854775808 := rfl
        have e2 : IntKind.i64.max = 9223372036854775807 := rfl
        constructor <;> omega)
      refine (impl_eachCell_v S (num S 0) (num S 1) s0 s1 ⟨a0, b0⟩ ⟨a1, b1⟩ w).mono ?_
      rintro e w' ⟨bh, bw, rfl, g1, g2, g3, g4, g5, g6⟩
      refine ⟨[bh, bw], rfl, rfl, by simp [g5], fun j g r hj hr => ?_, ⟨g6.os, g6.tape, g6.output, g6.size, fun k hk _ => g6.block k hk⟩⟩
      match j with
      | 0 =>
        cases hj; cases hr
        exact ⟨g3, g1, wt _ a1 b1⟩
      | 1 =>
        cases hj; cases hr
        exact ⟨g4, g2, wt _ a0 b0⟩
      | _ + 2 => simp at hj
  · cases hr
theorem impl_eachCell_enter : Enters Tryd.prog 112 := enter_ok (fn := Tryd.f112) (by kernel_rfl) (by kernel_rfl) (by kernel_rfl)
end Go.Proofs.YthpcidnfbceliaaDoor
