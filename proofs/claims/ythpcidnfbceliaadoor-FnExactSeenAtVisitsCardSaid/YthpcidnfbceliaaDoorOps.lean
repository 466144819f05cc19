/- Operations under a guard that is met; comparisons of aggregates. No program is named. -/
import Derived.Test.YthpcidnfbceliaaDoorEq
namespace Go.Proofs.YthpcidnfbceliaaDoor
open Go.ChangeShapes Go.WideShapes Go.ChangeAt Go.RowKit
set_option linter.unusedVariables false

section
variable {P : Program} {ops : Array Oper} {rest : List Oper} {op : Oper} {a : Act} {w : World} {Q : Exit → Act → World → Prop}

/-- An operation whose guard is met and whose run is known. -/
theorem op_run_w (hg : Region.wanted op (yielded ops a.tmps) = true) (v : Value) (w' : World) (hrun : (execOp a.eval op).run P w = .ok (.value v) w')
    (h : wpList P ops Q rest (a.put op.dst v) w') : wpList P ops Q (op :: rest) a w :=
  wpList_step fun K hK => by
    rw [if_pos hg]
    show Oper.upon P op a K Q ((execOp a.eval op).run P w)
    rw [hrun]
    exact hK _ _ h

theorem op_load_w (D : Array Value) (hg : Region.wanted op (yielded ops a.tmps) = true) (T : TypeId) (x : Operand) (ho : op.op = .load T x) (g o : Nat) (hx : a.eval x = .pointer (some ⟨g, o, none⟩))
    (C : Array Value) (t : TypeId) (fr : Nat × Nat) (hb : w.heap[g]? = some (.cells C t fr)) (d : TypeDesc) (hu : P.underlying T = some d) (hd : d.isRow = true)
    (n : Nat) (hi : (P.info? T).map (·.size) = some n) (hn : o + n ≤ C.size) (hD : C.extract o (o + n) = D)
    (h : wpList P ops Q rest (a.put op.dst (.agg D)) w) : wpList P ops Q (op :: rest) a w := by
  subst hD
  refine op_run_w hg _ w ?_ h
  have hl : (C.extract o (o + n)).toList.length = n := by simp; omega
  have := run_loadVar_mid (P := P) w g o T (C.extract o (o + n)).toList d (World.rangeAt_of_block hb o n) hu hd (by rw [hl]; exact hi)
  unfold execOp
  simp only [ho, hx, Instr.loadAt, Instr.sureAddr, Sem.run_bind, Sem.run_pure, Result.andThen_ok, this, Array.toArray_toList]

theorem op_eql (b : Bool) (hg : Region.wanted op (yielded ops a.tmps) = true) (T : TypeId) (x y : Operand) (T' : TypeId) (ho : op.op = .binOp .eql T x y T')
    (xs ys : Array Value) (hx : a.eval x = .agg xs) (hy : a.eval y = .agg ys) (hm : P.eqGuardType P.depth T = false)
    (hb : (Op.equalIn 10000 T (.agg xs) (.agg ys)).run P w = .ok b w)
    (h : wpList P ops Q rest (a.put op.dst (.bool b)) w) : wpList P ops Q (op :: rest) a w := by
  refine op_run_w hg _ w ?_ h
  unfold execOp
  simp only [ho, hx, hy, Sem.run_bind, run_eqGuard_agg w .eql T x y xs ys hm, Result.andThen_ok, run_eql_struct w T xs ys, hb, Sem.run_pure]
theorem op_neq (b : Bool) (hg : Region.wanted op (yielded ops a.tmps) = true) (T : TypeId) (x y : Operand) (T' : TypeId) (ho : op.op = .binOp .neq T x y T')
    (xs ys : Array Value) (hx : a.eval x = .agg xs) (hy : a.eval y = .agg ys) (hm : P.eqGuardType P.depth T = false)
    (hb : (Op.equalIn 10000 T (.agg xs) (.agg ys)).run P w = .ok b w)
    (h : wpList P ops Q rest (a.put op.dst (.bool (!b))) w) : wpList P ops Q (op :: rest) a w := by
  refine op_run_w hg _ w ?_ h
  unfold execOp
  simp only [ho, hx, hy, Sem.run_bind, run_eqGuard_agg w .neq T x y xs ys hm, Result.andThen_ok, run_neq_struct w T xs ys, hb, Sem.run_pure]
theorem at_eql (T : TypeId) {x y : Operand} {T' : TypeId} (ho : op.op = .binOp .eql T x y T') (h : wpList P ops Q (op :: rest) a w) : wpList P ops Q (op :: rest) a w := h
theorem at_neq (T : TypeId) {x y : Operand} {T' : TypeId} (ho : op.op = .binOp .neq T x y T') (h : wpList P ops Q (op :: rest) a w) : wpList P ops Q (op :: rest) a w := h
end
end Go.Proofs.YthpcidnfbceliaaDoor
