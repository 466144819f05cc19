/- Regions whose order Go leaves open: loads of whole rows beside calls that make memory. No program is named. -/
import Derived.Test.YtcddegplppmgbaaOps
import Derived.Deep.RegionHeld3
namespace Go.Proofs.Ytcddegplppmgbaa
open Go.ChangeShapes Go.WideShapes Go.ChangeAt Go.RowKit
set_option linter.unusedVariables false

section
variable {P : Program} {ops : Array Oper} {op : Oper} {a : Act} {S : World → Prop}

/-- A load of a row that lies in every world that meets S. -/
theorem yields_row (hg : Region.wanted op (yielded ops a.tmps) = true) (T : TypeId) (x : Operand) (ho : op.op = .load T x) (g : Nat) (hx : a.eval x = .pointer (some ⟨g, 0, none⟩))
    (C : Array Value) (t : TypeId) (fr : Nat × Nat) (hS : ∀ W, S W → W.heap[g]? = some (.cells C t fr)) (d : TypeDesc) (hu : P.underlying T = some d)
    (hd : (match d with | .struct _ | .array _ _ => true | _ => false) = true) (hi : (P.info? T).map (·.size) = some C.size) : YieldsIf P ops S op (.agg C) a :=
  .inl ⟨hg, fun w hw => by
    unfold execOp
    simp only [ho, hx, Instr.loadAt, Instr.sureAddr, Sem.run_bind, Sem.run_pure, Result.andThen_ok, run_loadVar_row w g t T C fr d (hS w hw) hu hd hi]⟩

/-- A move yields what is moved. -/
theorem yields_move (hg : Region.wanted op (yielded ops a.tmps) = true) (x : Operand) (ho : op.op = .move x) (v : Value) (hx : a.eval x = v) : YieldsIf P ops S op v a :=
  .inl ⟨hg, fun w hw => by
    unfold execOp
    simp only [ho, hx, Sem.run_pure]⟩
end
end Go.Proofs.Ytcddegplppmgbaa
