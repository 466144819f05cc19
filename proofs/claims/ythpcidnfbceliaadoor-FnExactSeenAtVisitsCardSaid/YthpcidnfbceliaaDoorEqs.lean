/- Chances, tides and seas compared. -/
import Derived.Test.YthpcidnfbceliaaDoorSea
import Derived.Test.YthpcidnfbceliaaDoorOps
namespace Go.Proofs.YthpcidnfbceliaaDoor
open Go.ChangeShapes Go.WideShapes Go.ChangeAt Go.RowKit
set_option linter.unusedVariables false

theorem eq_chances (d : Nat) (xs ys : Array Value) (hx : xs.size = 5) (hy : ys.size = 5) (hxu : ∀ v ∈ xs, IsU8 v) (hyu : ∀ v ∈ ys, IsU8 v) (w : World) :
    (Op.equalIn (d + 2) 34 (.agg xs) (.agg ys)).run Tryd.prog w = .ok (eqB xs ys 5) w :=
  run_equalIn_bytes Tryd.underlying34 Tryd.underlying5 (by kernel_rfl) xs ys hx hy hxu hyu
theorem eq_tide (d : Nat) (xs ys : Array Value) (hx : xs.size = 180) (hy : ys.size = 180) (hxu : ∀ v ∈ xs, IsU8 v) (hyu : ∀ v ∈ ys, IsU8 v) (w : World) :
    (Op.equalIn (d + 3) 35 (.agg xs) (.agg ys)).run Tryd.prog w = .ok (eqB xs ys 180) w :=
  run_equalIn_nest (n := 36) (m := 5) (by omega) Tryd.underlying35 Tryd.underlying34 rfl (by kernel_rfl)
    (fun xs ys h1 h2 h3 h4 => eq_chances d xs ys h1 h2 h3 h4 w) xs ys hx hy hxu hyu
theorem eq_tides (d : Nat) (xs ys : Array Value) (hx : xs.size = 360) (hy : ys.size = 360) (hxu : ∀ v ∈ xs, IsU8 v) (hyu : ∀ v ∈ ys, IsU8 v) (w : World) :
    (Op.equalIn (d + 4) 36 (.agg xs) (.agg ys)).run Tryd.prog w = .ok (eqB xs ys 360) w :=
  run_equalIn_nest (n := 2) (m := 180) (by omega) Tryd.underlying36 Tryd.underlying35 rfl (by kernel_rfl)
    (fun xs ys h1 h2 h3 h4 => eq_tide d xs ys h1 h2 h3 h4 w) xs ys hx hy hxu hyu

/-- Are two seas the same? -/
def seaB (wd hi ld : Int) (T : Array Value) (wd' hi' ld' : Int) (T' : Array Value) : Bool := (wd == wd' && (hi == hi' && ld == ld')) && eqB T T' 360

theorem eq_sea (wd hi ld : Int) (T : Array Value) (wd' hi' ld' : Int) (T' : Array Value) (hT : T.size = 360) (hT' : T'.size = 360) (hu : ∀ v ∈ T, IsU8 v) (hu' : ∀ v ∈ T', IsU8 v) (w : World) :
    (Op.equalIn 10000 38 (.agg (sea wd hi ld T)) (.agg (sea wd' hi' ld' T'))).run Tryd.prog w = .ok (seaB wd hi ld T wd' hi' ld' T') w := by
  rw [run_equalIn_agg w 9999 38 _ _ (by kernel_rfl) (by kernel_rfl)]
  have p0 := run_part_leaf (P := Tryd.prog) (w := w) Tryd.underlying22 rfl (sea wd hi ld T) 0 _ (sea_0 wd hi ld T)
  have p1 := run_part_leaf (P := Tryd.prog) (w := w) Tryd.underlying22 rfl (sea wd hi ld T) 1 _ (sea_1 wd hi ld T)
  have p2 := run_part_leaf (P := Tryd.prog) (w := w) Tryd.underlying23 rfl (sea wd hi ld T) 2 _ (sea_2 wd hi ld T)
  have p3 := run_part_agg (P := Tryd.prog) (w := w) (m := 360) Tryd.underlying36 rfl (by kernel_rfl) (sea wd hi ld T) 3
  rw [sea_tides wd hi ld T hT] at p3
  have r0 := run_part_leaf (P := Tryd.prog) (w := w) Tryd.underlying22 rfl (sea wd' hi' ld' T') 0 _ (sea_0 wd' hi' ld' T')
  have r1 := run_part_leaf (P := Tryd.prog) (w := w) Tryd.underlying22 rfl (sea wd' hi' ld' T') 1 _ (sea_1 wd' hi' ld' T')
  have r2 := run_part_leaf (P := Tryd.prog) (w := w) Tryd.underlying23 rfl (sea wd' hi' ld' T') 2 _ (sea_2 wd' hi' ld' T')
  have r3 := run_part_agg (P := Tryd.prog) (w := w) (m := 360) Tryd.underlying36 rfl (by kernel_rfl) (sea wd' hi' ld' T') 3
  rw [sea_tides wd' hi' ld' T' hT'] at r3
  have e0 := run_equalIn_int (P := Tryd.prog) w 9998 22 .i8 .i8 wd wd' Tryd.underlying22
  have e1 := run_equalIn_int (P := Tryd.prog) w 9998 22 .i8 .i8 hi hi' Tryd.underlying22
  have e2 := run_equalIn_int (P := Tryd.prog) w 9998 23 .u64 .u64 ld ld' Tryd.underlying23
  have e3 := eq_tides 9995 T T' hT hT' hu hu' w
  simp only [Nat.reduceAdd] at e0 e1 e2 e3
  have nW : ("Wide" = "_") = False := eq_false (by decide)
  have nH : ("High" = "_") = False := eq_false (by decide)
  have nL : ("Land" = "_") = False := eq_false (by decide)
  have nT : ("Tides" = "_") = False := eq_false (by decide)
  unfold seaB
  simp only [Program.fieldsOf, Tryd.underlying38, Op.eqFields, Sem.run_bind, Sem.run_ite, ne_eq, nW, nH, nL, nT, not_false_eq_true, if_true]
  rw [p0, Result.andThen_ok, r0, Result.andThen_ok, e0, Result.andThen_ok]
  cases h0 : (wd == wd')
  · simp
  · simp only [Bool.not_true, Bool.false_eq_true, if_false, Bool.true_and]
    rw [p1, Result.andThen_ok, r1, Result.andThen_ok, e1, Result.andThen_ok]
    cases h1 : (hi == hi')
    · simp
    · simp only [Bool.not_true, Bool.false_eq_true, if_false, Bool.true_and]
      rw [p2, Result.andThen_ok, r2, Result.andThen_ok, e2, Result.andThen_ok]
      cases h2 : (ld == ld')
      · simp
      · simp only [Bool.not_true, Bool.false_eq_true, if_false, Bool.true_and]
        rw [p3, Result.andThen_ok, r3, Result.andThen_ok, e3, Result.andThen_ok]
        cases h3 : eqB T T' 360
        · simp
        · simp

end Go.Proofs.YthpcidnfbceliaaDoor
