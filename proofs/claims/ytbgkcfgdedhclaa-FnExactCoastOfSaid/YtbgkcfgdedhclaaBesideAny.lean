/- The program's bits of cells beside others: the model's fold. -/
import Derived.Test.YtbgkcfgdedhclaaBesideEq
import Derived.Test.YtbgkcfgdedhclaaBits
import Derived.Test.YtbgkcfgdedhclaaPlainIn
namespace Go.Proofs.Ytbgkcfgdedhclaa
open Go.ChangeShapes Go.WideShapes Go.ChangeAt Go.RowKit Go.Shelf
set_option linter.unusedVariables false
attribute [local go_sem] Oper.semAt_some

/-- The bits of some cells that have others beside them. -/
def foldAny {wd hi : Int} (so ot : Int) (pre : List (CellOf wd hi)) : Int := pre.foldl (fun b c => bif dryB so c.1 && besideO wd hi ot c.1 then bits .or .u64 b (IntKind.u64.wrap (2 ^ c.1.toNat)) else b) 0
theorem foldAny_snoc {wd hi : Int} (so ot : Int) (pre : List (CellOf wd hi)) (x : CellOf wd hi) : foldAny so ot (pre ++ [x]) = bif dryB so x.1 && besideO wd hi ot x.1 then bits .or .u64 (foldAny so ot pre) (IntKind.u64.wrap (2 ^ x.1.toNat)) else foldAny so ot pre := by simp [foldAny]
theorem foldAny_upto (wd hi so ot : Int) : ∀ k, foldAny so ot (uptoL wd hi k) = anyV wd hi so ot k
  | 0 => rfl
  | k + 1 => by
    rw [anyV]
    cases h : isB wd hi k
    · rw [uptoL_no h, foldAny_upto wd hi so ot k]; rfl
    · rw [uptoL_yes h, Bool.true_and, ← foldAny_upto wd hi so ot k]
      exact foldAny_snoc so ot (uptoL wd hi k) ⟨k, h⟩

/-- A row of cells lies as it lay, whatever else turns. -/
theorem row_own {β : Type} (g : Nat) (C : Array Value) (t : TypeId) (fr : Nat × Nat) : Own (fun (_ : β) W => W.heap[g]? = some (.cells C t fr)) := fun s A B row hs hg hr =>
  (hg.block g (Array.getElem?_eq_some_iff.1 hs).1 (fun e => by obtain ⟨o, ho, hc⟩ := hr g e.symm; rw [hs] at ho; cases ho; cases hc)).trans hs
theorem keepsOthers_below {W W' : World} (h : Below W.heap.size W W') : KeepsOthers W W' := ⟨h.size, fun k o hk _ => (h.block k (Array.getElem?_eq_some_iff.1 hk).1).trans hk⟩
theorem keepBoxes_below {bh bw : Nat} {W W' : World} (h : Below W.heap.size W W') : KeepBoxes bh bw W W' := ⟨fun o ho => keep h ho, fun o ho => keep h ho⟩
theorem keepBoxes_drew {bh bw : Nat} (W : World) : KeepBoxes bh bw W W.drew := ⟨fun _ h => h, fun _ h => h⟩

theorem lt_cell {W : World} {b o : Nat} {v : Value} (h : W.cell? ⟨b, o, none⟩ = some v) : b < W.heap.size := World.block_lt_of_cell? W ⟨b, o, none⟩ h

/-- What the loop keeps of its variables. -/
def AnyI (wd hi : Int) (b0 : Nat) (S : Array Value) (so ot : Int) (pre : List (CellOf wd hi)) (W : World) : Prop :=
  W.heap[b0]? = some (.cells S 35 (0, 0)) ∧ W.heap[b0 + 1]? = some (.cells #[.int .u64 so] 23 (0, 0)) ∧ W.heap[b0 + 2]? = some (.cells #[.int .u64 ot] 23 (0, 0)) ∧ W.heap[b0 + 3]? = some (.cells #[.int .u64 (foldAny so ot pre)] 23 (0, 0))
theorem anyI_own {wd hi : Int} {b0 : Nat} {S : Array Value} {so ot : Int} : Own (AnyI wd hi b0 S so ot) := fun s A B row hs hg hr =>
  ⟨row_own (β := Unit) _ _ _ _ () A B row hs.1 hg hr, row_own (β := Unit) _ _ _ _ () A B row hs.2.1 hg hr, row_own (β := Unit) _ _ _ _ () A B row hs.2.2.1 hg hr, row_own (β := Unit) _ _ _ _ () A B row hs.2.2.2 hg hr⟩

set_option maxRecDepth 100000 in
set_option maxHeartbeats 2000000 in
theorem impl_besideAny (wd hi : Nat) (ld : Int) (T : Array Value) (hS : SeaIn wd hi ld T) (hBd : 1 ≤ (wd : Int) ∧ (wd : Int) ≤ 6 ∧ 1 ≤ (hi : Int) ∧ (hi : Int) ≤ 6) (so ot : Int) (hso : (Lit.int .u64 so).wf = true) (hot : (Lit.int .u64 ot).wf = true) (w : World) :
    Calls Try.prog 46 #[.agg (sea wd hi ld T), .int .u64 so, .int .u64 ot] w fun e w' => e = .returned (.int .u64 (anyV wd hi so ot 36)) ∧ Below w.heap.size w w' := by
  have q0 := keepAlloc (.cells #[.int .u64 0] 23) (keepAlloc (.cells #[.int .u64 ot] 23) (keepAlloc (.cells #[.int .u64 so] 23) (newBlock w (.cells (sea wd hi ld T) 35))))
  have q1 := keepAlloc (.cells #[.int .u64 0] 23) (keepAlloc (.cells #[.int .u64 ot] 23) (newAt (w.alloc (.cells (sea wd hi ld T) 35)) (.cells #[.int .u64 so] 23) (n := w.heap.size + 1) (by simp)))
  have q2 := keepAlloc (.cells #[.int .u64 0] 23) (newAt ((w.alloc (.cells (sea wd hi ld T) 35)).alloc (.cells #[.int .u64 so] 23)) (.cells #[.int .u64 ot] 23) (n := w.heap.size + 2) (by simp))
  have q3 := newAt (((w.alloc (.cells (sea wd hi ld T) 35)).alloc (.cells #[.int .u64 so] 23)).alloc (.cells #[.int .u64 ot] 23)) (.cells #[.int .u64 0] 23) (n := w.heap.size + 3) (by simp)
  have qB := chainAlloc (chainAlloc (chainAlloc (chainAlloc (Below.refl w.heap.size w) (.cells (sea wd hi ld T) 35)) (.cells #[.int .u64 so] 23)) (.cells #[.int .u64 ot] 23)) (.cells #[.int .u64 0] 23)
  have hi0 : (Try.prog.info? 35).map (·.size) = some (sea wd hi ld T).size := by rw [sea_size, hS.size]; kernel_rfl
  have hLd := fun (W : World) (h : W.heap[w.heap.size]? = some (.cells (sea wd hi ld T) 35 (0, 0))) => run_loadVar_row (P := Try.prog) W w.heap.size 35 35 (sea wd hi ld T) (0, 0) _ h Try.underlying35 rfl hi0
  refine (callsIn_wide (n := 5)).1 ?_
  refine callsIn_of_wp_marks Try.func46 rfl trivial ?_ rfl
  simp only [Try.ntmps46, List.size_toArray, List.length_cons, List.length_nil, Nat.reduceAdd, Nat.reduceSub, Array.replicate_succ, Array.replicate_zero, List.push_toArray, List.append_toArray, List.nil_append, List.cons_append]
  gi_wp2_with (first | (refine at_loadIn 35 rfl ?_; refine opIn_load _ rfl (fun _ => trivial) rfl 35 _ rfl _ rfl _ _ q0 _ Try.underlying35 rfl hi0 ?_) | (refine ⟨trivial, ?_⟩; gi_at_call 72; refine (callsIn_wide.2 (impl_eachCell wd hi ld T ⟨by omega, by omega⟩ ⟨by omega, by omega⟩ _)).mono ?_; rintro e w1 ⟨bh, bw, rfl, hbh, hbw, hlh, hlw, hb⟩))
  have r0 := keep hb q0
  have r1 := keep hb q1
  have r2 := keep hb q2
  have r3 := keep hb q3
  have rB := chain qB hb
  have hbhlt : bh < w1.heap.size := (Array.getElem?_eq_some_iff.1 hbh).1
  have hbwlt : bw < w1.heap.size := (Array.getElem?_eq_some_iff.1 hbw).1
  have hlh' : w.heap.size + 4 ≤ bh := by simpa using hlh
  have hlw' : w.heap.size + 4 ≤ bw := by simpa using hlw
  have hsz := rB.size
  clear q0 q1 q2 q3 qB hb
  refine wpIn_rangeFunc_ownF rfl (by omega) (gf := 85) (lb := #[.pointer (some ⟨bh, 0, none⟩), .pointer (some ⟨bw, 0, none⟩)]) rfl trivial (enters_of Try.func85 (by kernel_rfl) rfl)
    (eachCell_stops 4 (by omega) bh bw wd hi (by omega) (by omega) w1 hbh hbw) keepBoxes_t (keepBoxes_b hbhlt hbwlt) (Below.refl _ _) (fun _ => rfl)
    (fun pre W => AnyI wd hi w.heap.size (sea wd hi ld T) so ot pre W ∧ Below w.heap.size w W)
    (fun _ _ _ => False)
    (OwnFrom.and (anyI_own.from _) (ownFrom_below (Nat.le_refl _) (by omega)))
    (fun _ _ _ _ _ hs _ _ => hs)
    ⟨⟨r0, r1, r2, r3⟩, rB⟩
    (fun x => { tmps := #[.agg (sea wd hi ld T), .int .u64 so, .int .u64 ot, .pointer (some ⟨w.heap.size, 0, none⟩), .pointer (some ⟨w.heap.size + 1, 0, none⟩), .pointer (some ⟨w.heap.size + 2, 0, none⟩), .int .u64 0, .pointer (some ⟨w.heap.size + 3, 0, none⟩), .int .i64 x.1, .agg (sea wd hi ld T), .func (.func 85) #[] #[.pointer (some ⟨bh, 0, none⟩), .pointer (some ⟨bw, 0, none⟩)], .int .i64 x.1, undef, undef, undef, undef, undef, undef, undef, undef, undef, undef, undef, undef, undef, undef, undef, undef], defers := [] }) ?assign ?body ?done ?stop
  case assign =>
    intro l x W K hK
    gi_wp2
    exact hK
  case body =>
    rintro l pre x W ⟨⟨r0, r1, r2, r3⟩, hB⟩ _
    have hbx := isB_range x.2
    have hmx : Try.prog.follows .mixedOrders = true := by kernel_rfl
    have hd : 1 ≤ 5 - 1 - 1 := by omega
    have c1 : W.cell? ⟨w.heap.size + 1, 0, none⟩ = some (.int .u64 so) := by rw [cell_of_row W (w.heap.size + 1) 0 _ _ _ r1]; rfl
    have hbit := land_bit hso hbx
    cases hx : dryB so x.1
    · rw [hx] at hbit
      have hlast := mkHid (show foldAny so ot (pre ++ [x]) = foldAny so ot pre by rw [foldAny_snoc, hx]; rfl)
      clear hLd
      gi_wp2
      gi_region_with_o (first | (refine ⟨trivial, ?_⟩; gi_at_call 70; refine (CallsIn.inRound l (callsIn_wide.2 (impl_bitOf x.1 hbx _))).mono ?_; rintro e w2 ⟨rfl, rfl⟩) | (refine ⟨trivial, ?_⟩))
      all_goals gi_wp2
      all_goals exact ⟨KeepsOthers.drew _, keepBoxes_drew _, ⟨⟨r0, r1, r2, by rw [hlast.out]; exact r3⟩, hB.drew⟩⟩
    · rw [hx] at hbit
      have c2 : W.cell? ⟨w.heap.size + 2, 0, none⟩ = some (.int .u64 ot) := by rw [cell_of_row W (w.heap.size + 2) 0 _ _ _ r2]; rfl
      have hHB := impl_hasBeside wd hi ld T hS hBd x.1 hbx ot hot
      have hBt := impl_bitOf x.1 hbx
      clear hLd
      cases hy : besideO wd hi ot x.1
      · simp only [hy] at hHB
        have hlast := mkHid (show foldAny so ot (pre ++ [x]) = foldAny so ot pre by rw [foldAny_snoc, hx, hy]; rfl)
        gi_wp2
        refine wpIn_region_held (ro := some l) (fun V => V.heap[w.heap.size]? = some (.cells (sea wd hi ld T) 35 (0, 0)) ∧ V.cell? ⟨w.heap.size + 1, 0, none⟩ = some (.int .u64 so) ∧ V.cell? ⟨w.heap.size + 2, 0, none⟩ = some (.int .u64 ot) ∧ Below W.heap.size W V) (by kernel_rfl) (by kernel_rfl) (fun h => by obtain ⟨_, _, h⟩ := h; exact h) ⟨r0, c1, c2, (Below.refl _ _).drew⟩ (fun hS1 => ?_)
        refine take_first (i := 0) (v := ?_) (some 12) rfl rfl (by kernel_rfl) (by kernel_rfl) (by kernel_rfl) (fun _ _ _ h => h) (Or.inl ⟨by rfl, ?_⟩) hS1 ?_
        rotate_left
        · intro W hW
          (try dsimp only at hW)
          first | (go_simp; done) | (go_simp; with_reducible rfl)
        simp only [Act.put, List.setIfInBounds_toArray]; try simp only [List.set_cons_succ, List.set_cons_zero]
        refine take_first (i := 1) (v := ?_) (some 13) rfl rfl (by kernel_rfl) (by kernel_rfl) (by kernel_rfl) (fun _ _ _ h => h) (Or.inl ⟨by rfl, ?_⟩) hS1 ?_
        rotate_left
        · intro W hW
          (try dsimp only at hW)
          first | (go_simp; done) | (go_simp; with_reducible rfl)
        simp only [Act.put, List.setIfInBounds_toArray]; try simp only [List.set_cons_succ, List.set_cons_zero]
        refine wpAnyH_ready (rs := [2]) (by kernel_rfl) (by simp) (AllReadyH.cons rfl (fun K hK => ?_) AllReadyH.nil)
        go_simp
        refine (hBt _).mono ?_
        rintro e v2 ⟨rfl, rfl⟩
        refine hK.out _ _ hS1 (fun hS2 => ?_)
        clear hK K hS1
        refine take_first (i := 3) (v := ?_) (some 15) rfl rfl (by kernel_rfl) (by kernel_rfl) (by kernel_rfl) (fun _ _ _ h => h) (Or.inl ⟨by rfl, ?_⟩) hS2 ?_
        rotate_left
        · intro W hW
          (try dsimp only at hW)
          first | (go_simp; done) | (go_simp; with_reducible rfl)
        simp only [Act.put, List.setIfInBounds_toArray]; try simp only [List.set_cons_succ, List.set_cons_zero]
        refine take_first (i := 4) (v := ?_) (some 16) rfl rfl (by kernel_rfl) (by kernel_rfl) (by kernel_rfl) (fun _ _ _ h => h) (Or.inl ⟨by rfl, ?_⟩) hS2 ?_
        rotate_left
        · intro W hW
          (try dsimp only at hW)
          first | (go_simp; done) | (go_simp; with_reducible rfl)
        simp only [Act.put, List.setIfInBounds_toArray]; try simp only [List.set_cons_succ, List.set_cons_zero]
        refine take_first (i := 5) (v := ?_) (some 17) rfl rfl (by kernel_rfl) (by kernel_rfl) (by kernel_rfl) (fun _ _ _ h => h) (Or.inl ⟨by rfl, ?_⟩) hS2 ?_
        rotate_left
        · intro W hW
          (try dsimp only at hW)
          first | (go_simp; done) | (go_simp; with_reducible rfl)
        simp only [Act.put, List.setIfInBounds_toArray]; try simp only [List.set_cons_succ, List.set_cons_zero]
        refine take_first (i := 6) (some 18) rfl rfl (by kernel_rfl) (by kernel_rfl) (by kernel_rfl) (fun _ _ _ h => h) (yields_row (by rfl) 35 _ rfl _ rfl _ _ _ (fun W h => h.1) _ Try.underlying35 rfl hi0) hS2 ?_
        simp only [Act.put, List.setIfInBounds_toArray]; try simp only [List.set_cons_succ, List.set_cons_zero]
        refine take_first (i := 7) (v := ?_) (some 19) rfl rfl (by kernel_rfl) (by kernel_rfl) (by kernel_rfl) (fun _ _ _ h => h) (Or.inl ⟨by rfl, ?_⟩) hS2 ?_
        rotate_left
        · intro W hW
          (try dsimp only at hW)
          first | (go_simp; done) | (go_simp; with_reducible rfl)
        simp only [Act.put, List.setIfInBounds_toArray]; try simp only [List.set_cons_succ, List.set_cons_zero]
        refine take_first (i := 8) (v := ?_) (some 20) rfl rfl (by kernel_rfl) (by kernel_rfl) (by kernel_rfl) (fun _ _ _ h => h) (Or.inl ⟨by rfl, ?_⟩) hS2 ?_
        rotate_left
        · intro W hW
          (try dsimp only at hW)
          first | (go_simp; done) | (go_simp; with_reducible rfl)
        simp only [Act.put, List.setIfInBounds_toArray]; try simp only [List.set_cons_succ, List.set_cons_zero]
        refine wpAnyH_ready (rs := [9]) (by kernel_rfl) (by simp) (AllReadyH.cons rfl (fun K hK => ?_) AllReadyH.nil)
        go_simp
        refine (hHB _).mono ?_
        rintro e v3 ⟨rfl, hb⟩
        refine hK.out _ _ ⟨keep hb hS2.1, (hb.cell (p := ⟨w.heap.size + 1, 0, none⟩) (lt_cell hS2.2.1)).trans hS2.2.1, (hb.cell (p := ⟨w.heap.size + 2, 0, none⟩) (lt_cell hS2.2.2.1)).trans hS2.2.2.1, chain hS2.2.2.2 hb⟩ (fun hS3 => ?_)
        clear hK K hS2 hb
        refine take_first (i := 10) (v := ?_) (some 22) rfl rfl (by kernel_rfl) (by kernel_rfl) (by kernel_rfl) (fun _ _ _ h => h) (Or.inl ⟨by rfl, ?_⟩) hS3 ?_
        rotate_left
        · intro W hW
          (try dsimp only at hW)
          first | (go_simp; done) | (go_simp; with_reducible rfl)
        simp only [Act.put, List.setIfInBounds_toArray]; try simp only [List.set_cons_succ, List.set_cons_zero]
        refine wpAnyH_done (by kernel_rfl) ?_ _
        gi_wp2
        have hbv := hS3.2.2.2
        exact ⟨keepsOthers_below hbv, keepBoxes_below hbv, ⟨keep hbv r0, keep hbv r1, keep hbv r2, by rw [hlast.out]; exact keep hbv r3⟩, chain hB hbv⟩
      · simp only [hy] at hHB
        have hlast := mkHid (show foldAny so ot (pre ++ [x]) = bits .or .u64 (foldAny so ot pre) (IntKind.u64.wrap (2 ^ x.1.toNat)) by rw [foldAny_snoc, hx, hy]; rfl)
        gi_wp2
        refine wpIn_region_held (ro := some l) (fun V => V.heap[w.heap.size]? = some (.cells (sea wd hi ld T) 35 (0, 0)) ∧ V.cell? ⟨w.heap.size + 1, 0, none⟩ = some (.int .u64 so) ∧ V.cell? ⟨w.heap.size + 2, 0, none⟩ = some (.int .u64 ot) ∧ Below W.heap.size W V) (by kernel_rfl) (by kernel_rfl) (fun h => by obtain ⟨_, _, h⟩ := h; exact h) ⟨r0, c1, c2, (Below.refl _ _).drew⟩ (fun hS1 => ?_)
        refine take_first (i := 0) (v := ?_) (some 12) rfl rfl (by kernel_rfl) (by kernel_rfl) (by kernel_rfl) (fun _ _ _ h => h) (Or.inl ⟨by rfl, ?_⟩) hS1 ?_
        rotate_left
        · intro W hW
          (try dsimp only at hW)
          first | (go_simp; done) | (go_simp; with_reducible rfl)
        simp only [Act.put, List.setIfInBounds_toArray]; try simp only [List.set_cons_succ, List.set_cons_zero]
        refine take_first (i := 1) (v := ?_) (some 13) rfl rfl (by kernel_rfl) (by kernel_rfl) (by kernel_rfl) (fun _ _ _ h => h) (Or.inl ⟨by rfl, ?_⟩) hS1 ?_
        rotate_left
        · intro W hW
          (try dsimp only at hW)
          first | (go_simp; done) | (go_simp; with_reducible rfl)
        simp only [Act.put, List.setIfInBounds_toArray]; try simp only [List.set_cons_succ, List.set_cons_zero]
        refine wpAnyH_ready (rs := [2]) (by kernel_rfl) (by simp) (AllReadyH.cons rfl (fun K hK => ?_) AllReadyH.nil)
        go_simp
        refine (hBt _).mono ?_
        rintro e v2 ⟨rfl, rfl⟩
        refine hK.out _ _ hS1 (fun hS2 => ?_)
        clear hK K hS1
        refine take_first (i := 3) (v := ?_) (some 15) rfl rfl (by kernel_rfl) (by kernel_rfl) (by kernel_rfl) (fun _ _ _ h => h) (Or.inl ⟨by rfl, ?_⟩) hS2 ?_
        rotate_left
        · intro W hW
          (try dsimp only at hW)
          first | (go_simp; done) | (go_simp; with_reducible rfl)
        simp only [Act.put, List.setIfInBounds_toArray]; try simp only [List.set_cons_succ, List.set_cons_zero]
        refine take_first (i := 4) (v := ?_) (some 16) rfl rfl (by kernel_rfl) (by kernel_rfl) (by kernel_rfl) (fun _ _ _ h => h) (Or.inl ⟨by rfl, ?_⟩) hS2 ?_
        rotate_left
        · intro W hW
          (try dsimp only at hW)
          first | (go_simp; done) | (go_simp; with_reducible rfl)
        simp only [Act.put, List.setIfInBounds_toArray]; try simp only [List.set_cons_succ, List.set_cons_zero]
        refine take_first (i := 5) (v := ?_) (some 17) rfl rfl (by kernel_rfl) (by kernel_rfl) (by kernel_rfl) (fun _ _ _ h => h) (Or.inl ⟨by rfl, ?_⟩) hS2 ?_
        rotate_left
        · intro W hW
          (try dsimp only at hW)
          first | (go_simp; done) | (go_simp; with_reducible rfl)
        simp only [Act.put, List.setIfInBounds_toArray]; try simp only [List.set_cons_succ, List.set_cons_zero]
        refine take_first (i := 6) (some 18) rfl rfl (by kernel_rfl) (by kernel_rfl) (by kernel_rfl) (fun _ _ _ h => h) (yields_row (by rfl) 35 _ rfl _ rfl _ _ _ (fun W h => h.1) _ Try.underlying35 rfl hi0) hS2 ?_
        simp only [Act.put, List.setIfInBounds_toArray]; try simp only [List.set_cons_succ, List.set_cons_zero]
        refine take_first (i := 7) (v := ?_) (some 19) rfl rfl (by kernel_rfl) (by kernel_rfl) (by kernel_rfl) (fun _ _ _ h => h) (Or.inl ⟨by rfl, ?_⟩) hS2 ?_
        rotate_left
        · intro W hW
          (try dsimp only at hW)
          first | (go_simp; done) | (go_simp; with_reducible rfl)
        simp only [Act.put, List.setIfInBounds_toArray]; try simp only [List.set_cons_succ, List.set_cons_zero]
        refine take_first (i := 8) (v := ?_) (some 20) rfl rfl (by kernel_rfl) (by kernel_rfl) (by kernel_rfl) (fun _ _ _ h => h) (Or.inl ⟨by rfl, ?_⟩) hS2 ?_
        rotate_left
        · intro W hW
          (try dsimp only at hW)
          first | (go_simp; done) | (go_simp; with_reducible rfl)
        simp only [Act.put, List.setIfInBounds_toArray]; try simp only [List.set_cons_succ, List.set_cons_zero]
        refine wpAnyH_ready (rs := [9]) (by kernel_rfl) (by simp) (AllReadyH.cons rfl (fun K hK => ?_) AllReadyH.nil)
        go_simp
        refine (hHB _).mono ?_
        rintro e v3 ⟨rfl, hb⟩
        refine hK.out _ _ ⟨keep hb hS2.1, (hb.cell (p := ⟨w.heap.size + 1, 0, none⟩) (lt_cell hS2.2.1)).trans hS2.2.1, (hb.cell (p := ⟨w.heap.size + 2, 0, none⟩) (lt_cell hS2.2.2.1)).trans hS2.2.2.1, chain hS2.2.2.2 hb⟩ (fun hS3 => ?_)
        clear hK K hS2 hb
        refine take_first (i := 10) (v := ?_) (some 22) rfl rfl (by kernel_rfl) (by kernel_rfl) (by kernel_rfl) (fun _ _ _ h => h) (Or.inl ⟨by rfl, ?_⟩) hS3 ?_
        rotate_left
        · intro W hW
          (try dsimp only at hW)
          first | (go_simp; done) | (go_simp; with_reducible rfl)
        simp only [Act.put, List.setIfInBounds_toArray]; try simp only [List.set_cons_succ, List.set_cons_zero]
        refine wpAnyH_done (by kernel_rfl) ?_ _
        have hbv := hS3.2.2.2
        have c3 := cellAt (o := 0) (v := .int .u64 (foldAny so ot pre)) (keep hbv r3) rfl
        have f3 : World.frozen? v3 ⟨w.heap.size + 3, 0, none⟩ = false := by simp [World.frozen?, keep hbv r3]
        have k0 := keep hbv r0
        have k1 := keep hbv r1
        have k2 := keep hbv r2
        have k3 := keep hbv r3
        have kB := chain hB hbv
        clear hS3
        gi_wp2
        gi_region_with_o (refine ⟨trivial, ?_⟩; gi_at_call 70; refine (CallsIn.inRound l (callsIn_wide.2 (impl_bitOf x.1 hbx _))).mono ?_; rintro e w2 ⟨rfl, rfl⟩)
        all_goals gi_wp2
        all_goals (try go_bits)
        all_goals exact ⟨(keepsOthers_below hbv).trans ((KeepsOthers.setCell _ _ _).trans (KeepsOthers.drew _)), keepBoxes_t (keepBoxes_below hbv) (keepBoxes_set (by omega) (by omega) _), ⟨(Go.heap_setCell_other _ ⟨w.heap.size + 3, 0, none⟩ _ _ (by simp)).trans k0, (Go.heap_setCell_other _ ⟨w.heap.size + 3, 0, none⟩ _ _ (by simp)).trans k1, (Go.heap_setCell_other _ ⟨w.heap.size + 3, 0, none⟩ _ _ (by simp)).trans k2, by rw [hlast.out]; exact (Boxed.set _ k3)⟩, (kB.setCell (p := ⟨w.heap.size + 3, 0, none⟩) (by simp) _).drew⟩
  case done =>
    rintro D ys W hD rfl ⟨⟨_, _, _, r3⟩, hB⟩ hK
    rw [foldAny_upto] at r3
    have hc : W.cell? ⟨w.heap.size + 3, 0, none⟩ = some (.int .u64 (anyV wd hi so ot 36)) := by rw [cell_of_row W (w.heap.size + 3) 0 _ _ _ r3]; rfl
    gi_wp2
    refine ⟨by simp, .inl ⟨_, _, rfl, run_takeDeferred hK, ?_⟩⟩
    exact ⟨_, results_tmp rfl _ _ _, rfl, hB.trans (belowK_b (w := w) (Nat.le_refl _) W D _ _ (by omega) hK rfl rfl)⟩
  case stop =>
    rintro D c pre W _ _ h _
    exact h.elim
end Go.Proofs.Ytbgkcfgdedhclaa
