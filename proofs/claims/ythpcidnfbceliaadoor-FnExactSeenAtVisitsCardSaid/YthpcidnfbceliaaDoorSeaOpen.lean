/- A sea that comes in, opened. -/
import Derived.Test.YthpcidnfbceliaaDoorSea
namespace Go.Proofs.YthpcidnfbceliaaDoor
open Go.ChangeShapes Go.WideShapes Go.ChangeAt Go.RowKit
set_option linter.unusedVariables false
set_option maxRecDepth 20000

/-- What is known of a sea that comes in. -/
structure SeaIn (wd hi ld : Int) (T : Array Value) : Prop where
  size : T.size = 360
  bytes : ∀ v ∈ T, IsU8 v
  wide : -128 ≤ wd ∧ wd ≤ 127
  high : -128 ≤ hi ∧ hi ≤ 127
  land : (Lit.int .u64 ld).wf = true

theorem trod_tides {H : Type} {enc : TypeId × Value → H} {w : World} {base : Nat} {sp : Nat → Bool} {hd : Bool} {fuel : Nat} {cs : List Value} {x : DataW H × List MemPlace}
    (h : DataW.trod enc Tryd.prog w base sp hd fuel 26 cs = some x) : cs.length = 360 ∧ ∀ v ∈ cs, IsU8 v :=
  trod_array_all (n := 2) (m := 180) Tryd.underlying26 (by kernel_rfl) (by omega) (by kernel_rfl)
    (fun _ _ _ h2 => (trod_array_all (n := 36) (m := 5) Tryd.underlying25 (by kernel_rfl) (by omega) (by kernel_rfl)
      (fun _ _ _ h3 => (trod_array_all (n := 5) (m := 1) Tryd.underlying24 (by kernel_rfl) (by omega) (by kernel_rfl) (trod_u8 Tryd.underlying5) h3).2) h2).2) h

theorem open_sea {H : Type} {enc : TypeId × Value → H} {W : World} {r : Reach} {base b0 : Nat} {sp : Nat → Bool} {hd : Bool} {v : Value} {d : DataW H} {ps : List MemPlace}
    (hv : Value.okWide Tryd.prog W r base 28 v) (h : DataW.Trod enc Tryd.prog W b0 sp hd 28 v d ps) :
    ∃ (wd hi ld : Int) (T : Array Value), v = .agg (sea wd hi ld T) ∧ SeaIn wd hi ld T := by
  obtain ⟨cs, rfl⟩ := agg_of_okWide Tryd.underlying28 rfl hv
  obtain ⟨fuel, hf⟩ := h
  obtain ⟨xs, n, _, _, hl, hxs, hp⟩ := DataW.trod_struct Tryd.underlying28 hf
  have hc : Tryd.prog.cellsOf 28 = 363 := by kernel_rfl
  have c29 : Tryd.prog.cellsOf 22 = 1 := by kernel_rfl
  have c30 : Tryd.prog.cellsOf 23 = 1 := by kernel_rfl
  have c32 : Tryd.prog.cellsOf 26 = 360 := by kernel_rfl
  have hlen : (Value.agg cs).cells.toList.length = 363 := by rw [hl, hc]
  have hxl : xs.length = 4 := by rw [hxs]; rfl
  obtain ⟨x0, x1, x2, x3, rfl⟩ : ∃ x0 x1 x2 x3, xs = [x0, x1, x2, x3] := by
    match xs, hxl with
    | [x0, x1, x2, x3], _ => exact ⟨x0, x1, x2, x3, rfl⟩
  have p0 : DataW.trod enc Tryd.prog W b0 sp hd n 22 ((cs.toList.drop 0).take (Tryd.prog.cellsOf 22)) = some x0 := hp 0 _ rfl
  rw [c29] at p0
  have p1 : DataW.trod enc Tryd.prog W b0 sp hd n 22 ((cs.toList.drop 1).take (Tryd.prog.cellsOf 22)) = some x1 := hp 1 _ rfl
  rw [c29] at p1
  have p2 : DataW.trod enc Tryd.prog W b0 sp hd n 23 ((cs.toList.drop 2).take (Tryd.prog.cellsOf 23)) = some x2 := hp 2 _ rfl
  rw [c30] at p2
  have p3 : DataW.trod enc Tryd.prog W b0 sp hd n 26 ((cs.toList.drop 3).take (Tryd.prog.cellsOf 26)) = some x3 := hp 3 _ rfl
  rw [c32] at p3
  obtain ⟨a, ea, _, wa⟩ := DataW.trod_int Tryd.underlying22 p0
  obtain ⟨b, eb, _, wb⟩ := DataW.trod_int Tryd.underlying22 p1
  obtain ⟨c, ec, _, wc⟩ := DataW.trod_int Tryd.underlying23 p2
  obtain ⟨ht, hu⟩ := trod_tides p3
  have hlen' : cs.toList.length = 363 := hlen
  have ea' : cs.toList.take 1 = [.int .i8 a] := ea
  have eb' : (cs.toList.drop 1).take 1 = [.int .i8 b] := eb
  have ec' : (cs.toList.drop 2).take 1 = [.int .u64 c] := ec
  have hsplit : cs.toList = cs.toList.take 1 ++ ((cs.toList.drop 1).take 1 ++ ((cs.toList.drop 2).take 1 ++ (cs.toList.drop 3).take 360)) := by
    have e3 : (cs.toList.drop 3).take 360 = cs.toList.drop 3 := List.take_of_length_le (by rw [List.length_drop, hlen']; omega)
    have e2 : (cs.toList.drop 2).take 1 ++ cs.toList.drop 3 = cs.toList.drop 2 := by
      have := List.take_append_drop 1 (cs.toList.drop 2)
      rwa [List.drop_drop] at this
    have e1 : (cs.toList.drop 1).take 1 ++ cs.toList.drop 2 = cs.toList.drop 1 := by
      have := List.take_append_drop 1 (cs.toList.drop 1)
      rwa [List.drop_drop] at this
    rw [e3, e2, e1, List.take_append_drop]
  rw [ea', eb', ec'] at hsplit
  revert ht hu hsplit
  generalize (cs.toList.drop 3).take 360 = R
  intro ht hu hsplit
  refine ⟨a, b, c, R.toArray, ?_, ?_, ?_, bounds_i8 wa, bounds_i8 wb, wc⟩
  · congr 1
    refine Array.toList_inj.1 ?_
    rw [hsplit]
    simp [sea]
  · simpa using ht
  · intro v hv
    exact hu v (by simpa using hv)
end Go.Proofs.YthpcidnfbceliaaDoor
