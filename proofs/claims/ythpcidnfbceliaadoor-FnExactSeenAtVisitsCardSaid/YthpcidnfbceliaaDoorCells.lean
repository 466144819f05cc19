/- Operations on whole rows of cells: a variable laid, a part of a row read, a part of a row written. No program is named. -/
import Derived.Test.YthpcidnfbceliaaDoorWorld
import Derived.Test.YthpcidnfbceliaaDoorOpen
import Derived.Laws.CopyOwn
namespace Go.Proofs.YthpcidnfbceliaaDoor
open Go.ChangeShapes Go.WideShapes Go.ChangeAt Go.RowKit
set_option linter.unusedVariables false

theorem mkHid {p : Prop} (h : p) : Hid p := h

/-- A row in which a part is written anew. -/
def splice (C : Array Value) (o : Nat) : List Value → Array Value
  | [] => C
  | v :: r => splice (C.setIfInBounds o v) (o + 1) r

theorem splice_size (o : Nat) (D : List Value) : ∀ (C : Array Value), (splice C o D).size = C.size := by
  induction D generalizing o with
  | nil => intro C; rfl
  | cons v r ih => intro C; rw [splice, ih]; simp

theorem splice_get (D : List Value) : ∀ (o : Nat) (C : Array Value), o + D.length ≤ C.size → ∀ i, (splice C o D)[i]? = if o ≤ i ∧ i < o + D.length then D[i - o]? else C[i]? := by
  induction D with
  | nil =>
    intro o C _ i
    rw [splice, if_neg (by rintro ⟨h1, h2⟩; simp at h2; omega)]
  | cons v r ih =>
    intro o C h i
    simp only [List.length_cons] at h
    rw [splice, ih (o + 1) _ (by simp; omega) i]
    by_cases h1 : o + 1 ≤ i ∧ i < o + 1 + r.length
    · rw [if_pos h1, if_pos (by simp; omega)]
      obtain ⟨j, rfl⟩ : ∃ j, i = o + 1 + j := ⟨i - (o + 1), by omega⟩
      rw [show o + 1 + j - o = j + 1 by omega, show o + 1 + j - (o + 1) = j by omega]
      simp
    · rw [if_neg h1]
      by_cases h2 : i = o
      · subst h2
        rw [if_pos (by simp)]
        simp [show i < C.size by omega]
      · rw [if_neg (by simp; omega)]
        rw [Array.getElem?_setIfInBounds, if_neg (fun e => h2 e.symm)]

section
variable {P : Program} {ops : Array Oper} {rest : List Oper} {op : Oper} {a : Act} {w : World} {Q : Exit → Act → World → Prop}

/-- Is the next operation this load, this store? -/
theorem at_load (T : TypeId) {x : Operand} (ho : op.op = .load T x) (h : wpList P ops Q (op :: rest) a w) : wpList P ops Q (op :: rest) a w := h
theorem at_store (T : TypeId) {x y : Operand} (ho : op.op = .store T x y) (h : wpList P ops Q (op :: rest) a w) : wpList P ops Q (op :: rest) a w := h

/-- An operation whose run is known. -/
theorem op_run (hg : op.guard = none) (v : Value) (w' : World) (hrun : (execOp a.eval op).run P w = .ok (.value v) w')
    (h : wpList P ops Q rest (a.put op.dst v) w') : wpList P ops Q (op :: rest) a w :=
  wpList_plain hg fun K hK => by
    show Oper.upon P op a K Q ((execOp a.eval op).run P w)
    rw [hrun]
    exact hK _ _ h

/-- A new variable of an aggregate's type: its zero value lies in a new block. -/
theorem op_alloc (hg : op.guard = none) (T : TypeId) (ho : op.op = .alloc T) (Z : Array Value) (hz : (P.info? T).map (·.zero) = some (some (.agg Z)))
    (h : wpList P ops Q rest (a.put op.dst (.pointer (some ⟨w.heap.size, 0, none⟩))) (w.alloc (.cells Z T))) : wpList P ops Q (op :: rest) a w := by
  refine op_run hg (.pointer (some ⟨w.heap.size, 0, none⟩)) (w.alloc (.cells Z T)) ?_ h
  unfold execOp
  cases hi : P.info? T with
  | none => simp [hi] at hz
  | some i =>
    have hzz : i.zero = some (.agg Z) := by simpa [hi] using hz
    simp [ho, Instr.alloc, zeroValue, typeInfo, hi, hzz, newVar, newRow, Value.cells, Sem.run_bind, go_sem]

theorem setCells_row (g : Nat) (t : TypeId) (D : List Value) : ∀ (o : Nat) (C : Array Value) (w : World), w.heap[g]? = some (.cells C t (0, 0)) →
    w.setCells g o D = w.setRow g (splice C o D) := by
  induction D with
  | nil => intro o C w h; exact (setRow_self w g C t (0, 0) h).symm
  | cons v r ih =>
    intro o C w h
    rw [World.setCells, splice]
    rw [setCell_eq_setRow w g o C t (0, 0) v h]
    rw [ih (o + 1) (C.setIfInBounds o v) _ (setRow_heap w g C _ t (0, 0) h), setRow_setRow]

/-- A part of a row is read. -/
theorem op_load (hg : op.guard = none) (T : TypeId) (x : Operand) (ho : op.op = .load T x) (g o : Nat) (hx : a.eval x = .pointer (some ⟨g, o, none⟩))
    (C : Array Value) (t : TypeId) (fr : Nat × Nat) (hb : w.heap[g]? = some (.cells C t fr)) (d : TypeDesc) (hu : P.underlying T = some d) (hd : d.isRow = true)
    (n : Nat) (hi : (P.info? T).map (·.size) = some n) (hn : o + n ≤ C.size)
    (h : wpList P ops Q rest (a.put op.dst (.agg (C.extract o (o + n)))) w) : wpList P ops Q (op :: rest) a w := by
  have hl : (C.extract o (o + n)).toList.length = n := by simp; omega
  refine wpList_load_mid hg T x ho g o hx (C.extract o (o + n)).toList d (World.rangeAt_of_block hb o n) hu hd (by rw [hl]; exact hi) ?_
  rw [Array.toArray_toList]
  exact h

/-- A part of a row is read, and what it is is said. -/
theorem op_load2 (D : Array Value) (hg : op.guard = none) (T : TypeId) (x : Operand) (ho : op.op = .load T x) (g o : Nat) (hx : a.eval x = .pointer (some ⟨g, o, none⟩))
    (C : Array Value) (t : TypeId) (fr : Nat × Nat) (hb : w.heap[g]? = some (.cells C t fr)) (d : TypeDesc) (hu : P.underlying T = some d) (hd : d.isRow = true)
    (n : Nat) (hi : (P.info? T).map (·.size) = some n) (hn : o + n ≤ C.size) (hD : C.extract o (o + n) = D)
    (h : wpList P ops Q rest (a.put op.dst (.agg D)) w) : wpList P ops Q (op :: rest) a w := by
  subst hD
  exact op_load hg T x ho g o hx C t fr hb d hu hd n hi hn h

/-- A part of a row is written. -/
theorem op_store (hg : op.guard = none) (T : TypeId) (x y : Operand) (ho : op.op = .store T x y) (g o : Nat) (hx : a.eval x = .pointer (some ⟨g, o, none⟩))
    (D : Array Value) (hy : a.eval y = .agg D) (C : Array Value) (t : TypeId) (hb : w.heap[g]? = some (.cells C t (0, 0)))
    (hi : (P.info? T).map (·.size) = some D.size) (hn : o + D.size ≤ C.size) (h1 : D.all (·.oneCell') = true)
    (h : ∀ w1, w1.heap[g]? = some (.cells (splice C o D.toList) t (0, 0)) → (∀ k, k ≠ g → w1.heap[k]? = w.heap[k]?) → Below g w w1 → wpList P ops Q rest (a.put op.dst undef) w1) :
    wpList P ops Q (op :: rest) a w := by
  have ht : w.there g o D.size := fun j hj => by
    refine ⟨?_, ?_⟩
    · rw [cell_of_row w g (o + j) C t (0, 0) hb, Array.getElem?_eq_getElem (by omega)]; rfl
    · simp [World.frozen?, hb]
  refine wpList_store_mid hg T x y ho g o D hx hy ht hi h1 ?_
  rw [setCells_row g t D.toList o C w hb]
  refine h _ (setRow_heap w g C _ t (0, 0) hb) (fun k hk => setRow_other w g k _ hk) (below_setRow (Below.refl _ _) (Nat.le_refl _) _)

/-- A part of a row is written, and what the row is then is said. -/
theorem op_store2 (E : Array Value) (hg : op.guard = none) (T : TypeId) (x y : Operand) (ho : op.op = .store T x y) (g o : Nat) (hx : a.eval x = .pointer (some ⟨g, o, none⟩))
    (D : Array Value) (hy : a.eval y = .agg D) (C : Array Value) (t : TypeId) (hb : w.heap[g]? = some (.cells C t (0, 0)))
    (hi : (P.info? T).map (·.size) = some D.size) (hn : o + D.size ≤ C.size) (h1 : D.all (·.oneCell') = true) (hE : splice C o D.toList = E)
    (h : ∀ w1, w1.heap[g]? = some (.cells E t (0, 0)) → (∀ k, k ≠ g → w1.heap[k]? = w.heap[k]?) → Below g w w1 → wpList P ops Q rest (a.put op.dst undef) w1) :
    wpList P ops Q (op :: rest) a w := by
  subst hE
  exact op_store hg T x y ho g o hx D hy C t hb hi hn h1 h

/-- One cell of a row is read. -/
theorem op_load1 (hg : op.guard = none) (T : TypeId) (x : Operand) (ho : op.op = .load T x) (g o : Nat) (hx : a.eval x = .pointer (some ⟨g, o, none⟩))
    (C : Array Value) (t : TypeId) (fr : Nat × Nat) (hb : w.heap[g]? = some (.cells C t fr)) (d : TypeDesc) (hu : P.underlying T = some d) (hd : d.isRow = false)
    (v : Value) (hv : C[o]? = some v)
    (h : wpList P ops Q rest (a.put op.dst v) w) : wpList P ops Q (op :: rest) a w := by
  refine op_run hg v w ?_ h
  have hagg : (isAgg T).run P w = .ok false w := by
    unfold isAgg
    rw [Sem.run_bind, run_underlying hu w]
    cases d <;> simp_all
  have hc : w.cell? ⟨g, o, none⟩ = some v := by rw [cell_of_row w g o C t fr hb]; exact hv
  unfold execOp
  simp only [ho, hx]
  simp [Instr.loadAt, Instr.sureAddr, loadVar, Sem.run_bind, hagg, load, Sem.run, hc, go_sem]

/-- One cell of a row is written. -/
theorem op_store1 (hg : op.guard = none) (T : TypeId) (x y : Operand) (ho : op.op = .store T x y) (g o : Nat) (hx : a.eval x = .pointer (some ⟨g, o, none⟩))
    (v : Value) (hy : a.eval y = v) (C : Array Value) (t : TypeId) (hb : w.heap[g]? = some (.cells C t (0, 0)))
    (hi : (P.info? T).map (·.size) = some 1) (hn : o < C.size) (h1 : v.oneCell' = true)
    (h : ∀ w1, w1.heap[g]? = some (.cells (C.setIfInBounds o v) t (0, 0)) → (∀ k, k ≠ g → w1.heap[k]? = w.heap[k]?) → Below g w w1 → wpList P ops Q rest (a.put op.dst undef) w1) :
    wpList P ops Q (op :: rest) a w := by
  have hst := run_storeCells_cells (P := P) g o [v] 0 w
    (fun j hj => by
      obtain rfl : j = 0 := by simp at hj; omega
      rw [cell_of_row w g _ C t (0, 0) hb, Array.getElem?_eq_getElem (by omega)]; rfl)
    (fun j hj => by simp [World.frozen?, hb])
    (fun u hu => by obtain rfl : u = v := by simpa using hu
                    exact h1)
  have hcells : v.cells = #[v] := by cases v <;> first | rfl | (simp [Value.oneCell'] at h1)
  have hvar : (storeVar T ⟨g, o, none⟩ v).run P w = .ok () (w.setCells g o [v]) := by
    cases hq : P.info? T with
    | none => simp [hq] at hi
    | some i =>
      have hs : i.size = 1 := by simpa [hq] using hi
      simp only [Nat.add_zero] at hst
      simp [storeVar, sizeOf, typeInfo, hq, hcells, hs, hst]
  refine wpList_plain hg fun K hK => ?_
  show Oper.upon P op a K Q ((execOp a.eval op).run P w)
  have hrun : (execOp a.eval op).run P w = .ok .skip (w.setCells g o [v]) := by
    unfold execOp
    simp only [ho, hx, hy, Instr.storeAt, Instr.sureAddr, Sem.run_bind, Sem.run_pure, Result.andThen_ok, hvar]
  rw [hrun]
  refine hK _ _ ?_
  rw [setCells_row g t [v] o C w hb]
  exact h _ (setRow_heap w g C _ t (0, 0) hb) (fun k hk => setRow_other w g k _ hk) (below_setRow (Below.refl _ _) (Nat.le_refl _) _)

end
theorem IsU8.one {v : Value} (h : IsU8 v) : v.oneCell' = true := by
  obtain ⟨x, rfl, _⟩ := h; rfl
theorem allU8_one {D : Array Value} (h : ∀ v ∈ D, IsU8 v) : D.all (·.oneCell') = true :=
  Array.all_eq_true_iff_forall_mem.2 fun v hv => (h v hv).one
end Go.Proofs.YthpcidnfbceliaaDoor
