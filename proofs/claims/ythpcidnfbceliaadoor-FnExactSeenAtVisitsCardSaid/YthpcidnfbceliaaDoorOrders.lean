/- Regions whose order Go leaves open: loads of whole rows beside calls that make memory. No program is named. -/
import Derived.Test.YthpcidnfbceliaaDoorOps
import Derived.Deep.RegionHeld3
namespace Go.Proofs.YthpcidnfbceliaaDoor
open Go.ChangeShapes Go.WideShapes Go.ChangeAt Go.RowKit
set_option linter.unusedVariables false

section
variable {P : Program} {ops : Array Oper} {op : Oper} {a : Act} {S : World → Prop}

/-- An operation is taken first; the slot that it writes is said. -/
theorem take_first {md : Region.Mode} {Q : Exit → Act → World → Prop} {i : Nat} {oi : Oper} {v : Value} {fuel : Nat} {listed : Array Bool} {w : World} (d : Option Tmp) (hi : ops[i]? = some oi) (hd : oi.dst = d)
    (hs : Region.noSelect ops = true) (hf : Region.free md ops listed i = true) (hr : (Region.ready md ops listed).contains i = true)
    (hQ : ∀ c a w, Q (.panic c) (a.put oi.dst v) w → Q (.panic c) a w) (hy : YieldsIf P ops S oi v a) (hS : S w)
    (h : wpAnyH P md ops Q S fuel (listed.setIfInBounds i true) (a.put d v) w) : wpAnyH P md ops Q S (fuel + 1) listed a w := by
  subst hd
  exact wpAnyH_take hi hs hf hr hQ hy hS h

/-- A load of a row that lies in every world that meets S. -/
theorem yields_row (hg : Region.wanted op (yielded ops a.tmps) = true) (T : TypeId) (x : Operand) (ho : op.op = .load T x) (g : Nat) (hx : a.eval x = .pointer (some ⟨g, 0, none⟩))
    (C : Array Value) (t : TypeId) (fr : Nat × Nat) (hS : ∀ W, S W → W.heap[g]? = some (.cells C t fr)) (d : TypeDesc) (hu : P.underlying T = some d)
    (hd : (match d with | .struct _ | .array _ _ => true | _ => false) = true) (hi : (P.info? T).map (·.size) = some C.size) : YieldsIf P ops S op (.agg C) a :=
  .inl ⟨hg, fun w hw => by
    unfold execOp
    simp only [ho, hx, Instr.loadAt, Instr.sureAddr, Sem.run_bind, Sem.run_pure, Result.andThen_ok, run_loadVar_row w g t T C fr d (hS w hw) hu hd hi]⟩

/-- A load of a part of a row that lies in every world that meets S. -/
theorem yields_mid (D : Array Value) (hg : Region.wanted op (yielded ops a.tmps) = true) (T : TypeId) (x : Operand) (ho : op.op = .load T x) (g o : Nat) (hx : a.eval x = .pointer (some ⟨g, o, none⟩))
    (C : Array Value) (t : TypeId) (fr : Nat × Nat) (hS : ∀ W, S W → W.heap[g]? = some (.cells C t fr)) (d : TypeDesc) (hu : P.underlying T = some d)
    (hd : d.isRow = true) (n : Nat) (hi : (P.info? T).map (·.size) = some n) (hn : o + n ≤ C.size) (hD : C.extract o (o + n) = D) : YieldsIf P ops S op (.agg D) a := by
  subst hD
  refine .inl ⟨hg, fun w hw => ?_⟩
  have hl : (C.extract o (o + n)).toList.length = n := by simp; omega
  have := run_loadVar_mid (P := P) w g o T (C.extract o (o + n)).toList d (World.rangeAt_of_block (hS w hw) o n) hu hd (by rw [hl]; exact hi)
  unfold execOp
  simp only [ho, hx, Instr.loadAt, Instr.sureAddr, Sem.run_bind, Sem.run_pure, Result.andThen_ok, this, Array.toArray_toList]

/-- A move yields what is moved. -/
theorem yields_move (hg : Region.wanted op (yielded ops a.tmps) = true) (x : Operand) (ho : op.op = .move x) (v : Value) (hx : a.eval x = v) : YieldsIf P ops S op v a :=
  .inl ⟨hg, fun w hw => by
    unfold execOp
    simp only [ho, hx, Sem.run_pure]⟩
end
end Go.Proofs.YthpcidnfbceliaaDoor
