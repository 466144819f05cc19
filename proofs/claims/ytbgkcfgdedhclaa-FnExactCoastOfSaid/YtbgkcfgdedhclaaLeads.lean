/- Where a way leads, in the program. -/
import Derived.Test.YtbgkcfgdedhclaaGoes
import Derived.Test.YtbgkcfgdedhclaaImplD
namespace Go.Proofs.Ytbgkcfgdedhclaa
open Go.ChangeShapes Go.WideShapes Go.ChangeAt Go.RowKit
set_option linter.unusedVariables false

@[go_sem] theorem run_storeFn {P : Program} {w : World} {a : Addr} {m : Mode} (fn : Fn) (x y : Array Value) : (store a (.func fn x y) m).run P w = stored P w a (.func fn x y) m := run_store P w a _ m rfl
theorem newOf {w W : World} (_ : Below w.heap.size w W) (o : Obj) : (W.alloc o).heap[W.heap.size]? = some o := newBlock W o
theorem pLt {W : World} {g : Nat} {o : Obj} (h : W.heap[g]? = some o) : g < W.heap.size := (Array.getElem?_eq_some_iff.1 h).1

section
variable {P : Program} {op : Oper} {a : Act} {w : World} {K : Act → World → Prop} {Q : Exit → Act → World → Prop}
theorem wpo_store2 (E : Array Value) (T : TypeId) (x y : Operand) (ho : op.op = .store T x y) (g o : Nat) (hx : a.eval x = .pointer (some ⟨g, o, none⟩))
    (D : Array Value) (hy : a.eval y = .agg D) (C : Array Value) (t : TypeId) (hb : w.heap[g]? = some (.cells C t (0, 0)))
    (hi : (P.info? T).map (·.size) = some D.size) (hn : o + D.size ≤ C.size) (h1 : D.all (·.oneCell') = true) (hE : splice C o D.toList = E)
    (h : ∀ w1, w1.heap[g]? = some (.cells E t (0, 0)) → (∀ k, k ≠ g → w1.heap[k]? = w.heap[k]?) → Below g w w1 → K (a.put op.dst undef) w1) : op.wp P a w K Q := by
  subst hE
  have ht : w.there g o D.size := fun j hj => by
    refine ⟨?_, ?_⟩
    · rw [cell_of_row w g (o + j) C t (0, 0) hb, Array.getElem?_eq_getElem (by omega)]; rfl
    · simp [World.frozen?, hb]
  refine wp_store_mid T x y ho g o D hx hy ht hi h1 ?_
  rw [setCells_row g t D.toList o C w hb]
  exact h _ (setRow_heap w g C _ t (0, 0) hb) (fun k hk => setRow_other w g k _ hk) (below_setRow (Below.refl _ _) (Nat.le_refl _) _)
end

set_option maxHeartbeats 400000 in
theorem impl_allWays (w : World) : Calls Try.prog 90 #[] w fun e w' => e = .returned (.agg #[.func (.func 91) #[] #[], .func (.func 92) #[] #[], .func (.func 93) #[] #[], .func (.func 94) #[] #[], .func (.func 95) #[] #[]]) ∧ Below w.heap.size w w' := by
  go_enter Try.func90, Try.ntmps90
  go_wp2
  exact bodyPost_ret (v := .agg #[.func (.func 91) #[] #[], .func (.func 92) #[] #[], .func (.func 93) #[] #[], .func (.func 94) #[] #[], .func (.func 95) #[] #[]]) (by simp [results, Try.results90, go_sem]) rfl ⟨rfl, chainAlloc (Below.refl w.heap.size w) _⟩
end Go.Proofs.Ytbgkcfgdedhclaa
