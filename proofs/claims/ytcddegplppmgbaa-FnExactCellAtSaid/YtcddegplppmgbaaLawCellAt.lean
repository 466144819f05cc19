/- CellAt answers as its model: at all seas and places. No conditions. -/
import Derived.Test.YtcddegplppmgbaaRows
import Derived.Test.YtcddegplppmgbaaLawValidSea
namespace Go.Proofs.Ytcddegplppmgbaa
open Go.ChangeShapes Go.WideShapes Go.ChangeAt Go.RowKit
set_option linter.unusedVariables false

theorem okB_bounds {wd hi ld : Int} {T : Array Value} (h : okB wd hi ld T = true) : 1 ≤ wd ∧ wd ≤ 6 ∧ 1 ≤ hi ∧ hi ≤ 6 := by
  unfold okB inB at h
  simp only [Bool.and_eq_true, decide_eq_true_eq] at h
  exact ⟨h.1.1.1, h.1.1.2, h.1.2.1, h.1.2.2⟩

set_option maxHeartbeats 400000 in
theorem impl_seaCode (wd hi ld : Int) (T : Array Value) (hS : SeaIn wd hi ld T) (w : World) :
    Calls Try.prog 38 #[.agg (sea wd hi ld T)] w fun e w' => e = .returned (.int .i64 (bif okB wd hi ld T then 0 else 1)) ∧ Below w.heap.size w w' := by
  have q0 := newBlock w (.cells (sea wd hi ld T) 39)
  have qB := chainAlloc (Below.refl w.heap.size w) (.cells (sea wd hi ld T) 39)
  have hi0 : (Try.prog.info? 39).map (·.size) = some (sea wd hi ld T).size := by rw [sea_size, hS.size]; kernel_rfl
  have hC := impl_ValidSea wd hi ld T hS
  clear hS
  cases h : okB wd hi ld T
  · simp only [h] at hC
    clear h
    go_enter Try.func38, Try.ntmps38
    go_wp2_with (first | (refine at_load 39 rfl ?_; refine wpList_load_row rfl 39 _ rfl _ rfl _ _ _ _ q0 Try.underlying39 rfl hi0 ?_) | (go_at_call 21; refine (hC _).mono ?_; rintro e w1 ⟨rfl, hb1⟩; replace qB := chain qB hb1; clear hb1))
    go_ret
    exact ⟨rfl, qB⟩
  · simp only [h] at hC
    clear h
    go_enter Try.func38, Try.ntmps38
    go_wp2_with (first | (refine at_load 39 rfl ?_; refine wpList_load_row rfl 39 _ rfl _ rfl _ _ _ _ q0 Try.underlying39 rfl hi0 ?_) | (go_at_call 21; refine (hC _).mono ?_; rintro e w1 ⟨rfl, hb1⟩; replace qB := chain qB hb1; clear hb1))
    go_ret
    exact ⟨rfl, qB⟩

/-- What CellAt answers. -/
def cellAtV (ok : Bool) (wd hi x y : Int) : Value := bif ok then (bif plB wd hi x y then .tuple #[.int .i64 (x + 6 * y), .int .i64 0] else .tuple #[.int .i64 0, .int .i64 2]) else .tuple #[.int .i64 0, .int .i64 1]

set_option maxHeartbeats 1000000 in
theorem spec_CellAt (wd hi ld : Int) (T : Array Value) (hS : SeaIn wd hi ld T) (x y : Int) (w : World) :
    Calls Try.prog 22 #[.agg (sea wd hi ld T), .int .i64 x, .int .i64 y] w fun e w' => e = .returned (cellAtV (okB wd hi ld T) wd hi x y) ∧ Below w.heap.size w w' := by
  have q0 := newBlock w (.cells (sea wd hi ld T) 39)
  have qB := chainAlloc (Below.refl w.heap.size w) (.cells (sea wd hi ld T) 39)
  have hC := spec_l01Ok w.heap.size 39 (0, 0) wd hi ld T hS _ q0
  unfold cellAtV
  cases h : okB wd hi ld T
  · simp only [h] at hC
    clear h hS q0
    go_enter Try.func22, Try.ntmps22
    go_wp2_with ((go_at_call 36; refine (hC).mono ?_; rintro e w1 ⟨rfl, hb1⟩; replace qB := chain qB hb1; clear hb1))
    go_ret2
    exact ⟨rfl, qB⟩
  · obtain ⟨b1, b2, b3, b4⟩ := okB_bounds h
    simp only [h] at hC
    clear h hS
    have hCC : Calls Try.prog 36 #[.pointer (some ⟨w.heap.size, 0, none⟩)] (w.alloc (.cells (sea wd hi ld T) 39)) fun e w' => e = .returned (.bool true) ∧ Below (w.alloc (.cells (sea wd hi ld T) 39)).heap.size (w.alloc (.cells (sea wd hi ld T) 39)) w' ∧ w'.cell? ⟨w.heap.size, 0, none⟩ = some (.int .i8 wd) ∧ w'.cell? ⟨w.heap.size, 1, none⟩ = some (.int .i8 hi) :=
      hC.mono fun e w' hh => ⟨hh.1, hh.2, cellAt (keep hh.2 q0) (sea_0 _ _ _ _), cellAt (keep hh.2 q0) (sea_1 _ _ _ _)⟩
    clear hC q0
    by_cases h1 : 0 ≤ x ∧ x < wd
    · obtain ⟨h1a, h1b⟩ := h1
      have e1 : inB x 0 (wd - 1) = true := by unfold inB; rw [decide_eq_true h1a, decide_eq_true (by omega)]; rfl
      by_cases h2 : 0 ≤ y ∧ y < hi
      · obtain ⟨h2a, h2b⟩ := h2
        have e2 : inB y 0 (hi - 1) = true := by unfold inB; rw [decide_eq_true h2a, decide_eq_true (by omega)]; rfl
        have hR : plB wd hi x y = true := decide_eq_true ⟨h1a, h1b, h2a, h2b⟩
        rw [hR]
        clear hR
        go_enter Try.func22, Try.ntmps22
        go_wp2_with (first | (go_at_call 36; refine hCC.mono ?_; rintro e w1 ⟨rfl, hb1, c0, c1⟩; replace qB := chain qB hb1; clear hb1) | (go_at_call 24; refine (spec_l00In _ _ _ _).mono ?_; rintro e w1 ⟨rfl, rfl⟩))
        go_ret2
        exact ⟨rfl, qB⟩
      · have e2 : inB y 0 (hi - 1) = false := by
          unfold inB
          rw [← Bool.not_eq_true]
          intro e
          simp only [Bool.and_eq_true, decide_eq_true_eq] at e
          omega
        have hR : plB wd hi x y = false := decide_eq_false fun h => h2 ⟨h.2.2.1, h.2.2.2⟩
        rw [hR]
        clear hR
        go_enter Try.func22, Try.ntmps22
        go_wp2_with (first | (go_at_call 36; refine hCC.mono ?_; rintro e w1 ⟨rfl, hb1, c0, c1⟩; replace qB := chain qB hb1; clear hb1) | (go_at_call 24; refine (spec_l00In _ _ _ _).mono ?_; rintro e w1 ⟨rfl, rfl⟩))
        go_ret2
        exact ⟨rfl, qB⟩
    · have e1 : inB x 0 (wd - 1) = false := by
        unfold inB
        rw [← Bool.not_eq_true]
        intro e
        simp only [Bool.and_eq_true, decide_eq_true_eq] at e
        omega
      have hR : plB wd hi x y = false := decide_eq_false fun h => h1 ⟨h.1, h.2.1⟩
      rw [hR]
      clear hR
      go_enter Try.func22, Try.ntmps22
      go_wp2_with (first | (go_at_call 36; refine hCC.mono ?_; rintro e w1 ⟨rfl, hb1, c0, c1⟩; replace qB := chain qB hb1; clear hb1) | (go_at_call 24; refine (spec_l00In _ _ _ _).mono ?_; rintro e w1 ⟨rfl, rfl⟩))
      go_ret2
      exact ⟨rfl, qB⟩

set_option maxHeartbeats 1000000 in
theorem impl_CellAt (wd hi ld : Int) (T : Array Value) (hS : SeaIn wd hi ld T) (x y : Int) (w : World) :
    Calls Try.prog 23 #[.agg (sea wd hi ld T), .int .i64 x, .int .i64 y] w fun e w' => e = .returned (cellAtV (okB wd hi ld T) wd hi x y) ∧ Below w.heap.size w w' := by
  have q0 := newBlock w (.cells (sea wd hi ld T) 39)
  have qB := chainAlloc (Below.refl w.heap.size w) (.cells (sea wd hi ld T) 39)
  have hi0 : (Try.prog.info? 39).map (·.size) = some (sea wd hi ld T).size := by rw [sea_size, hS.size]; kernel_rfl
  have hC := impl_seaCode wd hi ld T hS
  unfold cellAtV
  cases h : okB wd hi ld T
  · simp only [h, cond_false] at hC
    clear h hS
    go_enter Try.func23, Try.ntmps23
    go_wp2_with (first | (refine at_load 39 rfl ?_; refine wpList_load_row rfl 39 _ rfl _ rfl _ _ _ _ q0 Try.underlying39 rfl hi0 ?_) | (go_at_call 38; refine (hC _).mono ?_; rintro e w1 ⟨rfl, hb1⟩; replace q0 := keep hb1 q0; replace qB := chain qB hb1; clear hb1))
    go_ret2
    exact ⟨rfl, qB⟩
  · obtain ⟨b1, b2, b3, b4⟩ := okB_bounds h
    simp only [h, cond_true] at hC
    have hP := impl_hasPlace wd hi ld T hS.wide hS.high x y
    clear h hS
    cases hp : plB wd hi x y
    · simp only [hp] at hP
      clear hp
      go_enter Try.func23, Try.ntmps23
      go_wp2_with (first | (refine at_load 39 rfl ?_; first | refine wpList_load_row rfl 39 _ rfl _ rfl _ _ _ _ q0 Try.underlying39 rfl hi0 ?_ | refine wpList_load_row rfl 39 _ rfl _ rfl _ _ _ _ (keepAlloc _ q0) Try.underlying39 rfl hi0 ?_) | (go_at_call 38; refine (hC _).mono ?_; rintro e w1 ⟨rfl, hb1⟩; replace q0 := keep hb1 q0; replace qB := chain qB hb1; clear hb1) | (go_at_call 39; refine (hP _).mono ?_; rintro e w2 ⟨rfl, hb2⟩; have pb := keep hb2 (newBlock _ (.cells #[.int .i64 x, .int .i64 y] 68)); have pc0 := cellAt (o := 0) pb rfl; have pc1 := cellAt (o := 1) pb rfl; replace qB := chain (chainAlloc qB _) hb2; clear hb2 pb) | (go_at_call 40; refine (hO _).mono ?_; rintro e w3 ⟨rfl, hb3⟩; replace qB := chain qB hb3; clear hb3))
      go_ret2
      exact ⟨rfl, qB⟩
    · simp only [hp] at hP
      obtain ⟨x1, x2, y1, y2⟩ := of_decide_eq_true hp
      have hO := impl_cellOf x y ⟨x1, by omega⟩ ⟨y1, by omega⟩
      clear hp
      go_enter Try.func23, Try.ntmps23
      go_wp2_with (first | (refine at_load 39 rfl ?_; first | refine wpList_load_row rfl 39 _ rfl _ rfl _ _ _ _ q0 Try.underlying39 rfl hi0 ?_ | refine wpList_load_row rfl 39 _ rfl _ rfl _ _ _ _ (keepAlloc _ q0) Try.underlying39 rfl hi0 ?_) | (go_at_call 38; refine (hC _).mono ?_; rintro e w1 ⟨rfl, hb1⟩; replace q0 := keep hb1 q0; replace qB := chain qB hb1; clear hb1) | (go_at_call 39; refine (hP _).mono ?_; rintro e w2 ⟨rfl, hb2⟩; have pb := keep hb2 (newBlock _ (.cells #[.int .i64 x, .int .i64 y] 68)); have pc0 := cellAt (o := 0) pb rfl; have pc1 := cellAt (o := 1) pb rfl; replace qB := chain (chainAlloc qB _) hb2; clear hb2 pb) | (go_at_call 40; refine (hO _).mono ?_; rintro e w3 ⟨rfl, hb3⟩; replace qB := chain qB hb3; clear hb3))
      go_ret2
      exact ⟨rfl, qB⟩

set_option maxHeartbeats 1000000 in
theorem law_CellAt (wd hi ld : Int) (T : Array Value) (hS : SeaIn wd hi ld T) (x y : Int) (w : World) :
    Calls Try.prog 8 #[.agg (sea wd hi ld T), .int .i64 x, .int .i64 y] w fun e w' => e = .returned (.bool true) ∧ Below w.heap.size w w' := by
  have q0 := newBlock w (.cells (sea wd hi ld T) 34)
  have qB := chainAlloc (Below.refl w.heap.size w) (.cells (sea wd hi ld T) 34)
  have hi0 : (Try.prog.info? 34).map (·.size) = some (sea wd hi ld T).size := by rw [sea_size, hS.size]; kernel_rfl
  have hT := laws_toSea wd hi ld T hS.size hS.bytes
  have hG := spec_CellAt wd hi ld T hS x y
  have hI := impl_CellAt wd hi ld T hS x y
  obtain ⟨a, b, hv⟩ : ∃ a b : Int, cellAtV (okB wd hi ld T) wd hi x y = .tuple #[.int .i64 a, .int .i64 b] := by
    unfold cellAtV
    cases okB wd hi ld T
    · exact ⟨_, _, rfl⟩
    · cases plB wd hi x y
      · exact ⟨_, _, rfl⟩
      · exact ⟨_, _, rfl⟩
  rw [hv] at hG hI
  clear hS hv
  go_enter Try.func8, Try.ntmps8
  go_wp2_with (first | (refine at_load 34 rfl ?_; refine wpList_load_row rfl 34 _ rfl _ rfl _ _ _ _ q0 Try.underlying34 rfl hi0 ?_) | (go_at_call 15; refine (hT _).mono ?_; rintro e w1 ⟨rfl, hb1⟩; replace q0 := keep hb1 q0; replace qB := chain qB hb1; clear hb1) | (go_at_call 22; refine (hG _).mono ?_; rintro e w1 ⟨rfl, hb1⟩; replace q0 := keep hb1 q0; replace qB := chain qB hb1; clear hb1) | (go_at_call 23; refine (hI _).mono ?_; rintro e w1 ⟨rfl, hb1⟩; replace q0 := keep hb1 q0; replace qB := chain qB hb1; clear hb1))
  go_ret
  exact ⟨rfl, qB⟩

namespace lawCellAt
theorem lifted (os : Os) (started : os.Started) (H : Type) (enc : TypeId × Value → H) :
    ReturnsInHanded {} Try.checked os 8 .any (Rows.fnExactCellAtSpec.pre6 enc Try.prog Try.f8 Rows.fnExactCellAtRow.domain false) (Rows.fnExactCellAtSpec.post enc Try.prog Try.f8 false true false false) := by
  refine law_lifted (C := Try.checked) (tb := 4) (by kernel_rfl) (by kernel_rfl) (by kernel_rfl) Try.func8 (by kernel_rfl) Try.underlying4 (of_decide_eq_true (by kernel_rfl)) rfl ?_ os started H enc
    (ChangeSpec.witness6 (enc := enc) (C := Try.checked) false ⟨#[], #[.agg (sea 0 0 0 (zeros 360)), .int .i64 0, .int .i64 0], []⟩ 8 (by kernel_rfl) (by kernel_rfl) (by kernel_rfl) (by kernel_rfl)) ?_
  · intro H ds hds
    rw [show Try.f8.params.toList.length = 3 by kernel_rfl] at hds
    match ds, hds with
    | [_, _, _], _ => rfl
  · intro W base args ds ps hval hA
    rw [Try.params8] at hA hval
    obtain ⟨v0, v1, v2, d0, d1, d2, p0, p1, p2, hargs, rfl, rfl, h0, h1, h2⟩ := trodAll_three hA
    obtain ⟨wda, hia, lda, Ta, e0, sa⟩ := open_sea (hval 0 34 v0 rfl (by rw [hargs]; rfl)) h0
    obtain ⟨x, e1, _, _, wx⟩ := open_int Try.underlying2 (hval 1 2 v1 rfl (by rw [hargs]; rfl)) h1
    obtain ⟨y, e2, _, _, wy⟩ := open_int Try.underlying2 (hval 2 2 v2 rfl (by rw [hargs]; rfl)) h2
    obtain rfl : args = #[.agg (sea wda hia lda Ta), .int .i64 x, .int .i64 y] := by rw [hargs, e0, e1, e2]
    exact law_CellAt wda hia lda Ta sa x y W

theorem over : Rows.fnExactCellAtRow.holds Try.pinned (OpenSpec.ofChange Rows.fnExactCellAtSpec) :=
  OpenClaim.holds_of_wide 8 Try.f8 rfl rfl rfl rfl rfl rfl rfl ⟨rfl, rfl, rfl, rfl, rfl⟩ rfl rfl rfl rfl rfl (by kernel_rfl) Try.func8 (by kernel_rfl)
    (of_decide_eq_true (by kernel_rfl)) (by unfold Func.isWrapper; first | (rw [if_pos (by decide +kernel)]; kernel_rfl) | (rw [if_neg (by decide +kernel)]; exact ⟨rfl, rfl⟩))
    (fun os started H enc _ => lifted os started H enc)

theorem proved : Rows.FnExactCellAtSaid := over
#print axioms proved
end lawCellAt
end Go.Proofs.Ytcddegplppmgbaa
