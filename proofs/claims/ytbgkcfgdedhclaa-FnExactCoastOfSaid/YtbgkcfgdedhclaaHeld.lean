/- Regions whose order is open and that write; results that lie in memory. No program is named. -/
import Derived.Test.YtbgkcfgdedhclaaOrders
import Derived.Laws.ResultCell
namespace Go.Proofs.Ytbgkcfgdedhclaa
open Go.ChangeShapes Go.WideShapes Go.ChangeAt Go.RowKit
set_option linter.unusedVariables false

section
variable {P : Program} {ops : Array Oper} {a : Act} {w : World} {Q : Exit → Act → World → Prop}

/-- What stands behind a piece of code is proved once, whatever the ways through it. -/
theorem meet {c : Code} (R : Act → World → Prop) (h : c.wp P (fun e a w => e = .normal ∧ R a w) a w) (hR : ∀ a w, R a w → Q .normal a w) : c.wp P Q a w :=
  Go.wp_mono h fun e a w ⟨he, hr⟩ => by subst he; exact hR a w hr

theorem run_alloc (op : Oper) (T : TypeId) (ho : op.op = .alloc T) (Z : Array Value) (hz : (P.info? T).map (·.zero) = some (some (.agg Z))) :
    (execOp a.eval op).run P w = .ok (.value (.pointer (some ⟨w.heap.size, 0, none⟩))) (w.alloc (.cells Z T)) := by
  unfold execOp
  cases hi : P.info? T with
  | none => simp [hi] at hz
  | some i =>
    have hzz : i.zero = some (.agg Z) := by simpa [hi] using hz
    simp [ho, Instr.alloc, zeroValue, typeInfo, hi, hzz, newVar, newRow, Value.cells, Sem.run_bind, go_sem]

/-- In a region: a new variable of an aggregate's type. -/
theorem held_alloc {op : Oper} {K : Act → World → Prop} (hg : Region.wanted op (yielded ops a.tmps) = true) (T : TypeId) (ho : op.op = .alloc T) (Z : Array Value) (hz : (P.info? T).map (·.zero) = some (some (.agg Z)))
    (h : K (a.put op.dst (.pointer (some ⟨w.heap.size, 0, none⟩))) (w.alloc (.cells Z T))) : if Region.wanted op (yielded ops a.tmps) = true then Oper.wp P op a w K Q else K (a.put op.dst undef) w := by
  rw [if_pos hg]
  unfold Oper.wp
  rw [run_alloc op T ho Z hz]
  exact h

/-- In a region: a store of a whole row. -/
theorem held_store {op : Oper} {K : Act → World → Prop} (hg : Region.wanted op (yielded ops a.tmps) = true) (T : TypeId) (x y : Operand) (ho : op.op = .store T x y)
    (g : Nat) (cells : Array Value) (hx : a.eval x = .pointer (some ⟨g, 0, none⟩)) (hy : a.eval y = .agg cells)
    (t : TypeId) (old : Array Value) (hb : w.heap[g]? = some (.cells old t (0, 0))) (hi : (P.info? T).map (·.size) = some cells.size)
    (hold : old.size = cells.size) (h1 : cells.all (·.oneCell') = true)
    (h : K (a.put op.dst undef) (w.setRow g cells)) : if Region.wanted op (yielded ops a.tmps) = true then Oper.wp P op a w K Q else K (a.put op.dst undef) w := by
  rw [if_pos hg]
  exact wp_store_row T x y ho g cells hx hy t old hb hi hold h1 h

theorem results_row_tmp {fn : Func} {p u : Tmp} {ty : TypeId} (h : fn.results = #[.cell p ty, .tmp u]) (tmps : Array Value) (w : World) (g : Nat) (t : TypeId) (cs : Array Value) (fr : Nat × Nat) (d : TypeDesc)
    (hp : tmps.getD p undef = .pointer (some ⟨g, 0, none⟩)) (hg : w.heap[g]? = some (.cells cs t fr))
    (hu : P.underlying ty = some d) (hd : (match d with | .struct _ | .array _ _ => true | _ => false) = true) (hi : (P.info? ty).map (·.size) = some cs.size) (v : Value) (hv : tmps.getD u undef = v) :
    (results fn tmps).run P w = .ok (.tuple #[.agg cs, v]) w := by
  subst hv
  rw [results_cell_tmp h, hp]
  simp [asAddr, run_loadVar_row w g t ty cs fr d hg hu hd hi, Result.andThen]
end
end Go.Proofs.Ytbgkcfgdedhclaa
