/- Facts on worlds and on rows of cells; no program is named. -/
import Derived.Test.YthpcidnfbceliaaDoorBase
import Derived.Deep.MidRow
namespace Go.Proofs.YthpcidnfbceliaaDoor
open Go.ChangeShapes Go.WideShapes Go.ChangeAt Go.RowKit
set_option linter.unusedVariables false

/-- A block that was there is there behind a call that writes nothing old. -/
theorem keep {W w1 : World} {g : Nat} {o : Obj} (hb : Below W.heap.size W w1) (h : W.heap[g]? = some o) : w1.heap[g]? = some o := by
  have hlt : g < W.heap.size := (Array.getElem?_eq_some_iff.1 h).1
  exact (hb.block g hlt).trans h
theorem keepAlloc {W : World} {g : Nat} {o : Obj} (o' : Obj) (h : W.heap[g]? = some o) : (W.alloc o').heap[g]? = some o :=
  keep ((Below.refl _ _).alloc (Nat.le_refl _) o') h
theorem chain {w W w1 : World} (h : Below w.heap.size w W) (hb : Below W.heap.size W w1) : Below w.heap.size w w1 := h.trans (hb.mono h.size)
theorem chainAlloc {w W : World} (h : Below w.heap.size w W) (o : Obj) : Below w.heap.size w (W.alloc o) := h.alloc h.size o
theorem newBlock (W : World) (o : Obj) : (W.alloc o).heap[W.heap.size]? = some o := by
  show (W.heap.push o)[W.heap.size]? = some o
  simp
end Go.Proofs.YthpcidnfbceliaaDoor
