/- The program's eachCell, and the bits of all cells. -/
import Derived.Test.YthpcidnfbceliaaDoorIter
import Derived.Test.YthpcidnfbceliaaDoorImplB
import Derived.RegionTactic
import Derived.RangeFuncFrom
import Derived.RangeFuncBox
import Derived.ChangeAlike
namespace Go.Proofs.YthpcidnfbceliaaDoor
open Go.ChangeShapes Go.WideShapes Go.ChangeAt Go.RowKit Go.Shelf
set_option linter.unusedVariables false

attribute [local go_sem] Oper.semAt_some

/-- What eachCell hands back. -/
def EachPost (wd hi : Int) (w : World) (e : Ending) (w' : World) : Prop := ∃ bh bw : Nat, e = .returned (.func (.func 123) #[] #[.pointer (some ⟨bh, 0, none⟩), .pointer (some ⟨bw, 0, none⟩)]) ∧
  w'.heap[bh]? = some (.cells #[.int .i64 hi] 2 (0, 0)) ∧ w'.heap[bw]? = some (.cells #[.int .i64 wd] 2 (0, 0)) ∧ w.heap.size ≤ bh ∧ w.heap.size ≤ bw ∧ Below w.heap.size w w'

set_option maxHeartbeats 1000000 in
theorem impl_eachCell (wd hi ld : Int) (T : Array Value) (hw1 : -128 ≤ wd ∧ wd ≤ 127) (hh1 : -128 ≤ hi ∧ hi ≤ 127) (w : World) :
    Calls Tryd.prog 112 #[.agg (sea wd hi ld T)] w (EachPost wd hi w) := by
  have s0 := sea_0 wd hi ld T
  have s1 := sea_1 wd hi ld T
  obtain ⟨wa, wb⟩ := hw1
  obtain ⟨ha, hb⟩ := hh1
  go_enter Tryd.func112, Tryd.ntmps112
  go_wp2_with fail
  go_region
  all_goals go_wp2_with fail
  all_goals go_ret
  · exact ⟨_, _, rfl, newAt ((w.alloc (.cells (sea wd hi ld T) 38)).alloc (.cells #[.int .i64 wd] 2)) (.cells #[.int .i64 hi] 2) (by simp), keepAlloc (.cells #[.int .i64 hi] 2) (newAt (w.alloc (.cells (sea wd hi ld T) 38)) (.cells #[.int .i64 wd] 2) (by simp)), by omega, by omega, (chainAlloc (chainAlloc (chainAlloc (Below.refl w.heap.size w) _) _) _).drew⟩
  · exact ⟨_, _, rfl, keepAlloc (.cells #[.int .i64 wd] 2) (newAt (w.alloc (.cells (sea wd hi ld T) 38)) (.cells #[.int .i64 hi] 2) (by simp)), newAt ((w.alloc (.cells (sea wd hi ld T) 38)).alloc (.cells #[.int .i64 hi] 2)) (.cells #[.int .i64 wd] 2) (by simp), by omega, by omega, (chainAlloc (chainAlloc (chainAlloc (Below.refl w.heap.size w) _) _) _).drew⟩

/-- The bits of some cells. -/
def foldBits {wd hi : Int} (pre : List (CellOf wd hi)) : Int := pre.foldl (fun b c => bits .or .u64 b (IntKind.u64.wrap (2 ^ c.1.toNat))) 0
theorem foldBits_snoc {wd hi : Int} (pre : List (CellOf wd hi)) (x : CellOf wd hi) : foldBits (pre ++ [x]) = bits .or .u64 (foldBits pre) (IntKind.u64.wrap (2 ^ x.1.toNat)) := by simp [foldBits]
theorem foldBits_upto (wd hi : Int) : ∀ k, foldBits (uptoL wd hi k) = cellsUp wd hi k
  | 0 => rfl
  | k + 1 => by
    rw [cellsUp]
    by_cases h : isB wd hi k = true
    · rw [uptoL_yes h, if_pos h, ← foldBits_upto wd hi k]; exact foldBits_snoc _ _
    · rw [uptoL_no (by simpa using h), foldBits_upto wd hi k, if_neg h]

/-- The iterator's contract, as a caller takes it. -/
theorem eachCell_stops (n : Nat) (hn : 1 ≤ n) (bh bw wd hi : Nat) (hw6 : wd ≤ 6) (hh6 : hi ≤ 6) (w : World)
    (hbh : w.heap[bh]? = some (.cells #[.int .i64 hi] 2 (0, 0))) (hbw : w.heap[bw]? = some (.cells #[.int .i64 wd] 2 (0, 0))) :
    SeqStopsK Fence.wide n Tryd.prog 123 #[.pointer (some ⟨bh, 0, none⟩), .pointer (some ⟨bw, 0, none⟩)] (fun x : CellOf wd hi => #[Value.int .i64 x.1]) (KeepBoxes bh bw)
      (fun ys => ys = uptoL wd hi 36) (fun pre => pre <+: uptoL wd hi 36) 36 w := fun l J Jx W hW hJ _ hY h0 =>
  eachCell_in n hn l bh bw wd hi hw6 hh6 J Jx W.heap.size hJ hY W (keep hW hbh) (keep hW hbw) h0

theorem keepBoxes_t {bh bw : Nat} {A B C : World} (h : KeepBoxes bh bw A B) (h' : KeepBoxes bh bw B C) : KeepBoxes bh bw A C := ⟨fun o ho => h'.1 o (h.1 o ho), fun o ho => h'.2 o (h.2 o ho)⟩
theorem keepBoxes_set {bh bw g : Nat} {W : World} (h1 : bh ≠ g) (h2 : bw ≠ g) (v : Value) : KeepBoxes bh bw W (W.setCell ⟨g, 0, none⟩ v).drew :=
  ⟨fun o ho => (Go.heap_setCell_other W ⟨g, 0, none⟩ bh v h1).trans ho, fun o ho => (Go.heap_setCell_other W ⟨g, 0, none⟩ bw v h2).trans ho⟩
theorem keepBoxes_b {bh bw : Nat} {w : World} (h1 : bh < w.heap.size) (h2 : bw < w.heap.size) (W : World) (l : Nat) (o o' : Obj) (hl : w.heap.size ≤ l) (_ : W.heap[l]? = some o) (_ : o.isCells = false) (_ : o.isWalk = false) : KeepBoxes bh bw W (W.putObj l o') :=
  ⟨fun x hx => (World.putObj_heap_other (by omega)).trans hx, fun x hx => (World.putObj_heap_other (by omega)).trans hx⟩

section
variable {F : Fence} {n : Nat} {P : Program} {ops : Array Oper} {rest : List Oper} {op : Oper} {a : Act} {w : World} {Q : Exit → Act → World → Prop}
theorem opIn_load (D : Array Value) (hro : F.round = none) (hF : ∀ f, F.fn f) (hg : op.guard = none) (T : TypeId) (x : Operand) (ho : op.op = .load T x) (g : Nat) (hx : a.eval x = .pointer (some ⟨g, 0, none⟩))
    (t : TypeId) (fr : Nat × Nat) (hb : w.heap[g]? = some (.cells D t fr)) (d : TypeDesc) (hu : P.underlying T = some d)
    (hd : (match d with | .struct _ | .array _ _ => true | _ => false) = true) (hi : (P.info? T).map (·.size) = some D.size)
    (h : wpListIn F n P ops Q rest (a.put op.dst (.agg D)) w) : wpListIn F n P ops Q (op :: rest) a w := by
  refine wpListIn_plain hg fun K hK => ⟨fun f _ => hF f, ?_⟩
  rw [hro]
  have hrun : (op.semAt none a.eval).run P w = .ok (.value (.agg D)) w := by
    show (execOp a.eval op).run P w = _
    unfold execOp
    simp only [ho, hx, Instr.loadAt, Instr.sureAddr, Sem.run_bind, Sem.run_pure, Result.andThen_ok, run_loadVar_row w g t T D fr d hb hu hd hi]
  rw [hrun]
  exact hK _ _ h
theorem at_loadIn (T : TypeId) {x : Operand} (ho : op.op = .load T x) (h : wpListIn F n P ops Q (op :: rest) a w) : wpListIn F n P ops Q (op :: rest) a w := h
end

set_option maxRecDepth 100000 in
set_option maxHeartbeats 2000000 in
theorem impl_cellBits (wd hi : Nat) (ld : Int) (T : Array Value) (hT : T.size = 360) (hw6 : wd ≤ 6) (hh6 : hi ≤ 6) (w : World) :
    Calls Tryd.prog 90 #[.agg (sea wd hi ld T)] w fun e w' => e = .returned (.int .u64 (cellsUp wd hi 36)) ∧ Below w.heap.size w w' := by
  have q0 := keepAlloc (.cells #[.int .u64 0] 23) (newBlock w (.cells (sea wd hi ld T) 38))
  have q1 := newAt (w.alloc (.cells (sea wd hi ld T) 38)) (.cells #[.int .u64 0] 23) (n := w.heap.size + 1) (by simp)
  have qB := chainAlloc (chainAlloc (Below.refl w.heap.size w) (.cells (sea wd hi ld T) 38)) (.cells #[.int .u64 0] 23)
  have hi0 : (Tryd.prog.info? 38).map (·.size) = some (sea wd hi ld T).size := by rw [sea_size, hT]; kernel_rfl
  refine (callsIn_wide (n := 5)).1 ?_
  refine callsIn_of_wp_marks Tryd.func90 rfl trivial ?_ rfl
  simp only [Tryd.ntmps90, List.size_toArray, List.length_cons, List.length_nil, Nat.reduceAdd, Nat.reduceSub, Array.replicate_succ, Array.replicate_zero, List.push_toArray, List.append_toArray, List.nil_append, List.cons_append]
  gi_wp2_with (first | (refine at_loadIn 38 rfl ?_; refine opIn_load _ rfl (fun _ => trivial) rfl 38 _ rfl _ rfl _ _ q0 _ Tryd.underlying38 rfl hi0 ?_) | (refine ⟨trivial, ?_⟩; gi_at_call 112; refine (callsIn_wide.2 (impl_eachCell wd hi ld T ⟨by omega, by omega⟩ ⟨by omega, by omega⟩ _)).mono ?_; rintro e w1 ⟨bh, bw, rfl, hbh, hbw, hlh, hlw, hb⟩))
  have r1 := keep hb q1
  have rB := chain qB hb
  have hs1 : w1.cell? ⟨w.heap.size + 1, 0, none⟩ = some (.int .u64 0) := by rw [cell_of_row w1 (w.heap.size + 1) 0 _ _ _ r1]; rfl
  have hf1 : w1.frozen? ⟨w.heap.size + 1, 0, none⟩ = false := by simp [World.frozen?, r1]
  have hbhlt : bh < w1.heap.size := (Array.getElem?_eq_some_iff.1 hbh).1
  have hbwlt : bw < w1.heap.size := (Array.getElem?_eq_some_iff.1 hbw).1
  have hlh' : w.heap.size + 2 ≤ bh := by simpa using hlh
  have hlw' : w.heap.size + 2 ≤ bw := by simpa using hlw
  have hsz := rB.size
  clear q0 q1 qB r1 hb
  refine wpIn_rangeFunc_ownF rfl (by omega) (gf := 123) (lb := #[.pointer (some ⟨bh, 0, none⟩), .pointer (some ⟨bw, 0, none⟩)]) rfl trivial (enters_of Tryd.func123 (by kernel_rfl) rfl)
    (eachCell_stops 4 (by omega) bh bw wd hi hw6 hh6 w1 hbh hbw) keepBoxes_t (keepBoxes_b hbhlt hbwlt) (Below.refl _ _) (fun _ => rfl)
    (fun pre W => (W.cell? ⟨w.heap.size + 1, 0, none⟩ = some (.int .u64 (foldBits pre)) ∧ W.frozen? ⟨w.heap.size + 1, 0, none⟩ = false) ∧ Below w.heap.size w W)
    (fun _ _ _ => False)
    (OwnFrom.and (Own.from (fun s A B row hs hg hr => ⟨cell_kept hs.1 hg hr, (frozen_kept hs.1 hg hr).trans hs.2⟩) _) (ownFrom_below (Nat.le_refl _) (by omega)))
    (fun _ _ _ _ _ hs _ _ => hs)
    ⟨⟨hs1, hf1⟩, rB⟩
    (fun x => { tmps := #[.agg (sea wd hi ld T), .pointer (some ⟨w.heap.size, 0, none⟩), .int .u64 0, .pointer (some ⟨w.heap.size + 1, 0, none⟩), .int .i64 x.1, .agg (sea wd hi ld T), .func (.func 123) #[] #[.pointer (some ⟨bh, 0, none⟩), .pointer (some ⟨bw, 0, none⟩)], .int .i64 x.1, undef, undef, undef, undef, undef], defers := [] }) ?assign ?body ?done ?stop
  case assign =>
    intro l x W K hK
    gi_wp2
    exact hK
  case body =>
    rintro l pre x W ⟨⟨hc, hf⟩, hB⟩ _
    have hbx := isB_range x.2
    have hmx : Tryd.prog.follows .mixedOrders = true := by kernel_rfl
    have hd : 1 ≤ 5 - 1 - 1 := by omega
    gi_wp2
    gi_region_with_o (refine ⟨trivial, ?_⟩; gi_at_call 72; refine (CallsIn.inRound l (callsIn_wide.2 (impl_bitOf x.1 hbx _))).mono ?_; rintro e w2 ⟨rfl, rfl⟩)
    all_goals gi_wp2
    all_goals (try go_bits)
    all_goals exact ⟨(KeepsOthers.setCell _ _ _).trans (KeepsOthers.drew _), keepBoxes_set (by omega) (by omega) _, ⟨by rw [foldBits_snoc]; exact World.cell?_setCell_same' _ _ _ (by rw [hc]; rfl), by rw [frozen_drew_own, World.frozen?_setCell]; exact hf⟩, (hB.setCell (p := ⟨w.heap.size + 1, 0, none⟩) (by simp) _).drew⟩
  case done =>
    rintro D ys W hD rfl ⟨⟨hc, _⟩, hB⟩ hK
    rw [foldBits_upto] at hc
    gi_wp2
    refine ⟨by simp, .inl ⟨_, _, rfl, run_takeDeferred hK, ?_⟩⟩
    exact ⟨_, results_tmp rfl _ _ _, rfl, hB.trans (belowK_b (w := w) (Nat.le_refl _) W D _ _ (by omega) hK rfl rfl)⟩
  case stop =>
    rintro D c pre W _ _ h _
    exact h.elim
end Go.Proofs.YthpcidnfbceliaaDoor
