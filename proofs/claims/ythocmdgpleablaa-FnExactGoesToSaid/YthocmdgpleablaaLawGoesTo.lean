/- GoesTo answers as its model: at all seas, cells and ways. No conditions. -/
import Derived.Test.YthocmdgpleablaaRows
import Derived.Test.YthocmdgpleablaaAsk
import Derived.Test.YthocmdgpleablaaLeads0
import Derived.Test.YthocmdgpleablaaLeads1
import Derived.Test.YthocmdgpleablaaLeads2
import Derived.Test.YthocmdgpleablaaLeads3
import Derived.Test.YthocmdgpleablaaLeads4
namespace Go.Proofs.Ythocmdgpleablaa
open Go.ChangeShapes Go.WideShapes Go.ChangeAt Go.RowKit
set_option linter.unusedVariables false

theorem impl_leadsTo (wd hi ld : Int) (T : Array Value) (hS : SeaIn wd hi ld T) (hBd : 1 ≤ wd ∧ wd ≤ 6 ∧ 1 ≤ hi ∧ hi ≤ 6) (c : Int) (hc : 0 ≤ c ∧ c ≤ 35) (y : Int) (hy : 0 ≤ y ∧ y ≤ 4) (w : World) :
    Calls Try.prog 30 #[.agg (sea wd hi ld T), .int .i64 c, .int .i64 y] w fun e w' => e = .returned (.int .i64 (goesV wd hi c y)) ∧ Below w.heap.size w w' := by
  obtain rfl | rfl | rfl | rfl | rfl : y = 0 ∨ y = 1 ∨ y = 2 ∨ y = 3 ∨ y = 4 := by omega
  · have := leadsTo_here wd hi ld T hS hBd c hc _ rfl w
    simpa only [goesV, mvx, mvy, Int.reduceEq, reduceIte] using this
  · have := leadsTo_north wd hi ld T hS hBd c hc _ rfl w
    simpa only [goesV, mvx, mvy, Int.reduceEq, reduceIte] using this
  · have := leadsTo_east wd hi ld T hS hBd c hc _ rfl w
    simpa only [goesV, mvx, mvy, Int.reduceEq, reduceIte] using this
  · have := leadsTo_south wd hi ld T hS hBd c hc _ rfl w
    simpa only [goesV, mvx, mvy, Int.reduceEq, reduceIte] using this
  · have := leadsTo_west wd hi ld T hS hBd c hc _ rfl w
    simpa only [goesV, mvx, mvy, Int.reduceEq, reduceIte] using this

/-- What GoesTo answers. -/
def goesToV (ok is way : Bool) (to : Int) : Value := bif ok then (bif is then (bif way then .tuple #[.int .i64 to, .int .i64 0] else .tuple #[.int .i64 0, .int .i64 2]) else .tuple #[.int .i64 0, .int .i64 2]) else .tuple #[.int .i64 0, .int .i64 1]

theorem inB_way {y : Int} (h : inB y 0 4 = true) : 0 ≤ y ∧ y ≤ 4 := by
  unfold inB at h
  simp only [Bool.and_eq_true, decide_eq_true_eq] at h
  exact h
theorem isB_cell {wd hi c : Int} (h : isB wd hi c = true) : 0 ≤ c ∧ c ≤ 35 := by
  have := of_decide_eq_true h
  exact ⟨this.1, this.2.1⟩

set_option maxHeartbeats 1000000 in
theorem spec_GoesTo (wd hi ld : Int) (T : Array Value) (hS : SeaIn wd hi ld T) (c y : Int) (w : World) :
    Calls Try.prog 9 #[.agg (sea wd hi ld T), .int .i64 c, .int .i64 y] w fun e w' => e = .returned (goesToV (okB wd hi ld T) (isB wd hi c) (inB y 0 4) (goesV wd hi c y)) ∧ Below w.heap.size w w' := by
  have q0 := newBlock w (.cells (sea wd hi ld T) 35)
  have qB := chainAlloc (Below.refl w.heap.size w) (.cells (sea wd hi ld T) 35)
  have hA := fun (W : World) (q : W.heap[w.heap.size]? = some (.cells (sea wd hi ld T) 35 (0, 0))) => spec_l01Asked w.heap.size 35 (0, 0) wd hi ld T hS c W q
  have hW := spec_l01Way y
  unfold goesToV
  cases h : okB wd hi ld T
  · simp only [h, askV, cond_false] at hA
    clear h hS hW
    go_enter Try.func9, Try.ntmps9
    go_wp2_with (go_at_call 24; refine (hA _ q0).mono ?_; rintro e w1 ⟨rfl, hb1⟩; replace q0 := keep hb1 q0; replace qB := chain qB hb1; clear hb1)
    go_ret2
    exact ⟨rfl, qB⟩
  · simp only [h, askV, cond_true] at hA
    cases h2 : isB wd hi c
    · simp only [h2, cond_false] at hA
      clear h h2 hS hW
      go_enter Try.func9, Try.ntmps9
      go_wp2_with (go_at_call 24; refine (hA _ q0).mono ?_; rintro e w1 ⟨rfl, hb1⟩; replace q0 := keep hb1 q0; replace qB := chain qB hb1; clear hb1)
      go_ret2
      exact ⟨rfl, qB⟩
    · simp only [h2, cond_true] at hA
      have hc := isB_cell h2
      clear h h2
      cases h3 : inB y 0 4
      · simp only [h3] at hW
        clear h3 hS hc
        go_enter Try.func9, Try.ntmps9
        go_wp2_with (first | (go_at_call 24; refine (hA _ q0).mono ?_; rintro e w1 ⟨rfl, hb1⟩; replace q0 := keep hb1 q0; replace qB := chain qB hb1; clear hb1) | (go_at_call 25; refine (hW _).mono ?_; rintro e w1 ⟨rfl, rfl⟩))
        go_ret2
        exact ⟨rfl, qB⟩
      · simp only [h3] at hW
        have hG := fun (W : World) (q : W.heap[w.heap.size]? = some (.cells (sea wd hi ld T) 35 (0, 0))) => spec_l01Goes w.heap.size 35 (0, 0) wd hi ld T c y W q hS.wide hS.high hc (inB_way h3)
        clear h3 hS hc
        generalize goesV wd hi c y = to at hG ⊢
        go_enter Try.func9, Try.ntmps9
        go_wp2_with (first | (go_at_call 24; refine (hA _ q0).mono ?_; rintro e w1 ⟨rfl, hb1⟩; replace q0 := keep hb1 q0; replace qB := chain qB hb1; clear hb1) | (go_at_call 25; refine (hW _).mono ?_; rintro e w1 ⟨rfl, rfl⟩) | (go_at_call 26; refine (hG _ q0).mono ?_; rintro e w1 ⟨rfl, rfl⟩))
        go_ret2
        exact ⟨rfl, qB⟩

set_option maxHeartbeats 1000000 in
theorem impl_GoesTo (wd hi ld : Int) (T : Array Value) (hS : SeaIn wd hi ld T) (c y : Int) (w : World) :
    Calls Try.prog 11 #[.agg (sea wd hi ld T), .int .i64 c, .int .i64 y] w fun e w' => e = .returned (goesToV (okB wd hi ld T) (isB wd hi c) (inB y 0 4) (goesV wd hi c y)) ∧ Below w.heap.size w w' := by
  have q0 := newBlock w (.cells (sea wd hi ld T) 35)
  have qB := chainAlloc (Below.refl w.heap.size w) (.cells (sea wd hi ld T) 35)
  have hi0 : (Try.prog.info? 35).map (·.size) = some (sea wd hi ld T).size := by rw [sea_size, hS.size]; kernel_rfl
  have hA := impl_cellCode wd hi ld T hS c
  have hW := impl_hasWay y
  unfold goesToV
  cases h : okB wd hi ld T
  · simp only [h, askV, cond_false] at hA
    clear h hS hW
    go_enter Try.func11, Try.ntmps11
    go_wp2_with (first | (refine at_load 35 rfl ?_; refine wpList_load_row rfl 35 _ rfl _ rfl _ _ _ _ q0 Try.underlying35 rfl hi0 ?_) | (go_at_call 28; refine (hA _).mono ?_; rintro e w1 ⟨rfl, hb1⟩; replace q0 := keep hb1 q0; replace qB := chain qB hb1; clear hb1))
    go_ret2
    exact ⟨rfl, qB⟩
  · have hBd := okB_bounds h
    simp only [h, askV, cond_true] at hA
    cases h2 : isB wd hi c
    · simp only [h2, cond_false] at hA
      clear h h2 hS hW hBd
      go_enter Try.func11, Try.ntmps11
      go_wp2_with (first | (refine at_load 35 rfl ?_; refine wpList_load_row rfl 35 _ rfl _ rfl _ _ _ _ q0 Try.underlying35 rfl hi0 ?_) | (go_at_call 28; refine (hA _).mono ?_; rintro e w1 ⟨rfl, hb1⟩; replace q0 := keep hb1 q0; replace qB := chain qB hb1; clear hb1))
      go_ret2
      exact ⟨rfl, qB⟩
    · simp only [h2, cond_true] at hA
      have hc := isB_cell h2
      clear h h2
      cases h3 : inB y 0 4
      · simp only [h3] at hW
        clear h3 hS hc hBd
        go_enter Try.func11, Try.ntmps11
        go_wp2_with (first | (refine at_load 35 rfl ?_; refine wpList_load_row rfl 35 _ rfl _ rfl _ _ _ _ q0 Try.underlying35 rfl hi0 ?_) | (go_at_call 28; refine (hA _).mono ?_; rintro e w1 ⟨rfl, hb1⟩; replace q0 := keep hb1 q0; replace qB := chain qB hb1; clear hb1) | (go_at_call 29; refine (hW _).mono ?_; rintro e w1 ⟨rfl, rfl⟩))
        go_ret2
        exact ⟨rfl, qB⟩
      · simp only [h3] at hW
        have hG := impl_leadsTo wd hi ld T hS hBd c hc y (inB_way h3)
        clear h3 hS hc hBd
        generalize goesV wd hi c y = to at hG ⊢
        go_enter Try.func11, Try.ntmps11
        go_wp2_with (first | (refine at_load 35 rfl ?_; refine wpList_load_row rfl 35 _ rfl _ rfl _ _ _ _ q0 Try.underlying35 rfl hi0 ?_) | (go_at_call 28; refine (hA _).mono ?_; rintro e w1 ⟨rfl, hb1⟩; replace q0 := keep hb1 q0; replace qB := chain qB hb1; clear hb1) | (go_at_call 29; refine (hW _).mono ?_; rintro e w1 ⟨rfl, rfl⟩) | (go_at_call 30; refine (hG _).mono ?_; rintro e w1 ⟨rfl, hb1⟩; replace q0 := keep hb1 q0; replace qB := chain qB hb1; clear hb1))
        go_ret2
        exact ⟨rfl, qB⟩

set_option maxHeartbeats 1000000 in
theorem law_GoesTo (wd hi ld : Int) (T : Array Value) (hS : SeaIn wd hi ld T) (c y : Int) (w : World) :
    Calls Try.prog 3 #[.agg (sea wd hi ld T), .int .i64 c, .int .i64 y] w fun e w' => e = .returned (.bool true) ∧ Below w.heap.size w w' := by
  have q0 := newBlock w (.cells (sea wd hi ld T) 28)
  have qB := chainAlloc (Below.refl w.heap.size w) (.cells (sea wd hi ld T) 28)
  have hi0 : (Try.prog.info? 28).map (·.size) = some (sea wd hi ld T).size := by rw [sea_size, hS.size]; kernel_rfl
  have hT := laws_toSea wd hi ld T hS.size hS.bytes
  have hG := spec_GoesTo wd hi ld T hS c y
  have hI := impl_GoesTo wd hi ld T hS c y
  obtain ⟨a, b, hv⟩ : ∃ a b : Int, goesToV (okB wd hi ld T) (isB wd hi c) (inB y 0 4) (goesV wd hi c y) = .tuple #[.int .i64 a, .int .i64 b] := by
    unfold goesToV
    cases okB wd hi ld T
    · exact ⟨_, _, rfl⟩
    · cases isB wd hi c
      · exact ⟨_, _, rfl⟩
      · cases inB y 0 4
        · exact ⟨_, _, rfl⟩
        · exact ⟨_, _, rfl⟩
  rw [hv] at hG hI
  clear hS hv
  go_enter Try.func3, Try.ntmps3
  go_wp2_with (first | (refine at_load 28 rfl ?_; refine wpList_load_row rfl 28 _ rfl _ rfl _ _ _ _ q0 Try.underlying28 rfl hi0 ?_) | (go_at_call 10; refine (hT _).mono ?_; rintro e w1 ⟨rfl, hb1⟩; replace q0 := keep hb1 q0; replace qB := chain qB hb1; clear hb1) | (go_at_call 9; refine (hG _).mono ?_; rintro e w1 ⟨rfl, hb1⟩; replace q0 := keep hb1 q0; replace qB := chain qB hb1; clear hb1) | (go_at_call 11; refine (hI _).mono ?_; rintro e w1 ⟨rfl, hb1⟩; replace q0 := keep hb1 q0; replace qB := chain qB hb1; clear hb1))
  go_ret
  exact ⟨rfl, qB⟩

namespace lawGoesTo
theorem lifted (os : Os) (started : os.Started) (H : Type) (enc : TypeId × Value → H) :
    ReturnsInHanded {} Try.checked os 3 .any (Rows.fnExactGoesToSpec.pre6 enc Try.prog Try.f3 Rows.fnExactGoesToRow.domain false) (Rows.fnExactGoesToSpec.post enc Try.prog Try.f3 false true false false) := by
  refine law_lifted (C := Try.checked) (tb := 4) (by kernel_rfl) (by kernel_rfl) (by kernel_rfl) Try.func3 (by kernel_rfl) Try.underlying4 (of_decide_eq_true (by kernel_rfl)) rfl ?_ os started H enc
    (ChangeSpec.witness6 (enc := enc) (C := Try.checked) false ⟨#[], #[.agg (sea 0 0 0 (zeros 360)), .int .i64 0, .int .i64 0], []⟩ 8 (by kernel_rfl) (by kernel_rfl) (by kernel_rfl) (by kernel_rfl)) ?_
  · intro H ds hds
    rw [show Try.f3.params.toList.length = 3 by kernel_rfl] at hds
    match ds, hds with
    | [_, _, _], _ => rfl
  · intro W base args ds ps hval hA
    rw [Try.params3] at hA hval
    obtain ⟨v0, v1, v2, d0, d1, d2, p0, p1, p2, hargs, rfl, rfl, h0, h1, h2⟩ := trodAll_three hA
    obtain ⟨wda, hia, lda, Ta, e0, sa⟩ := open_sea (hval 0 28 v0 rfl (by rw [hargs]; rfl)) h0
    obtain ⟨x, e1, _, _, wx⟩ := open_int Try.underlying2 (hval 1 2 v1 rfl (by rw [hargs]; rfl)) h1
    obtain ⟨y, e2, _, _, wy⟩ := open_int Try.underlying2 (hval 2 2 v2 rfl (by rw [hargs]; rfl)) h2
    obtain rfl : args = #[.agg (sea wda hia lda Ta), .int .i64 x, .int .i64 y] := by rw [hargs, e0, e1, e2]
    exact law_GoesTo wda hia lda Ta sa x y W

theorem over : Rows.fnExactGoesToRow.holds Try.pinned (OpenSpec.ofChange Rows.fnExactGoesToSpec) :=
  OpenClaim.holds_of_wide 3 Try.f3 rfl rfl rfl rfl rfl rfl rfl ⟨rfl, rfl, rfl, rfl, rfl⟩ rfl rfl rfl rfl rfl (by kernel_rfl) Try.func3 (by kernel_rfl)
    (of_decide_eq_true (by kernel_rfl)) (by unfold Func.isWrapper; first | (rw [if_pos (by decide +kernel)]; kernel_rfl) | (rw [if_neg (by decide +kernel)]; exact ⟨rfl, rfl⟩))
    (fun os started H enc _ => lifted os started H enc)

theorem proved : Rows.FnExactGoesToSaid := over
#print axioms proved
end lawGoesTo
end Go.Proofs.Ythocmdgpleablaa
