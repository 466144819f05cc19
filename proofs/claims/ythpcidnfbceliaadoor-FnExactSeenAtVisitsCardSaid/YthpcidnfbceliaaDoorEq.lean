/- Arrays compared: element by element. No program is named. -/
import Derived.Test.YthpcidnfbceliaaDoorCells
namespace Go.Proofs.YthpcidnfbceliaaDoor
open Go.ChangeShapes Go.WideShapes Go.ChangeAt Go.RowKit
set_option linter.unusedVariables false

section
variable {P : Program} {w : World}

/-- Two arrays are compared element by element. -/
theorem run_equalIn_array {d n m : Nat} {t e : TypeId} {xs ys : Array Value} (ht : P.underlying t = some (.array n e)) (hs : (P.info? e).map (·.size) = some m)
    (X Y : Nat → Value) (hX : ∀ i, i < n → (part e xs (i * m)).run P w = .ok (X i) w) (hY : ∀ i, i < n → (part e ys (i * m)).run P w = .ok (Y i) w)
    (b : Nat → Bool) (hb : ∀ i, i < n → (Op.equalIn d e (X i) (Y i)).run P w = .ok (b i) w) :
    (Op.equalIn (d + 1) t (.agg xs) (.agg ys)).run P w = .ok ((List.range n).all b) w := by
  have hsz : (sizeOf e).run P w = .ok m w := by
    cases hq : P.info? e with
    | none => simp [hq] at hs
    | some i =>
      have : i.size = m := by simpa [hq] using hs
      simp [sizeOf, typeInfo, hq, this]
  simp only [Op.equalIn, Sem.run_bind, run_underlying ht, Result.andThen_ok, hsz]
  simp only [Std.Legacy.Range.forIn_eq_forIn_range', Std.Legacy.Range.size, Nat.sub_zero, Nat.add_sub_cancel, Nat.div_one]
  rw [List.range_eq_range']
  have hall : ∀ i ∈ List.range' 0 n, i < n := fun i hi => by simpa using List.mem_range'_1.1 hi
  revert hall
  generalize List.range' 0 n = l
  intro hall
  have key : (forIn l (none, ()) fun i (__s : Option Bool × Unit) => do
            let x ← part e xs (i * m)
            let y ← part e ys (i * m)
            let r ← Op.equalIn d e x y
            if (!r) = true then pure (ForInStep.done (some false, ())) else pure (ForInStep.yield (none, ()))).run P w =
      .ok (cond (l.all b) (none, ()) (some false, ())) w := by
    induction l with
    | nil => simp
    | cons i l ih =>
      have hi := hall i (List.mem_cons_self ..)
      simp only [List.forIn_cons, Sem.run_bind, hX i hi, hY i hi, hb i hi, Result.andThen_ok, List.all_cons]
      rcases Bool.eq_false_or_eq_true (b i) with h | h
      · rw [h]
        simp only [Bool.not_true, Bool.false_eq_true, if_false, Sem.run_pure, Result.andThen_ok, Bool.true_and]
        exact ih fun j hj => hall j (List.mem_cons_of_mem _ hj)
      · rw [h]
        simp
  rw [key]
  cases h : l.all b <;> simp
end

theorem all_range_iff {n : Nat} {b : Nat → Bool} : (List.range n).all b = true ↔ ∀ i, i < n → b i = true := by
  simp [List.all_eq_true]

/-- The number in a cell. -/
def px (T : Array Value) (i : Nat) : Int := match T[i]? with | some (.int _ n) => n | _ => 0

theorem px_get {T : Array Value} (hu : ∀ v ∈ T, IsU8 v) {i : Nat} (h : i < T.size) : T[i]? = some (.int .u8 (px T i)) := by
  obtain ⟨x, hx, _⟩ := hu T[i] (Array.getElem_mem h)
  have e : T[i]? = some (.int .u8 x) := by rw [Array.getElem?_eq_getElem h, hx]
  have : px T i = x := by unfold px; rw [e]
  rw [this, e]
theorem px_bound {T : Array Value} (hu : ∀ v ∈ T, IsU8 v) {i : Nat} (h : i < T.size) : 0 ≤ px T i ∧ px T i ≤ 255 := by
  obtain ⟨x, hx, hb⟩ := hu T[i] (Array.getElem_mem h)
  have e : T[i]? = some (.int .u8 x) := by rw [Array.getElem?_eq_getElem h, hx]
  have : px T i = x := by unfold px; rw [e]
  rw [this]; exact hb
theorem px_extract {T : Array Value} {o n j : Nat} (hj : j < n) (h : o + n ≤ T.size) : px (T.extract o (o + n)) j = px T (o + j) := by
  unfold px
  rw [Array.getElem?_extract, if_pos (by omega)]

theorem mem_extract' {A : Array Value} {o n : Nat} {v : Value} (h : v ∈ A.extract o n) : v ∈ A := by
  obtain ⟨i, hi, rfl⟩ := Array.mem_iff_getElem.1 h
  simp

/-- Are the first numbers of two rows the same? -/
def eqB (xs ys : Array Value) (n : Nat) : Bool := (List.range n).all fun i => px xs i == px ys i

theorem eqB_iff {xs ys : Array Value} {n : Nat} : eqB xs ys n = true ↔ ∀ i, i < n → px xs i = px ys i := by
  unfold eqB; rw [all_range_iff]; simp

theorem eqB_eq {xs ys : Array Value} {n : Nat} (hx : xs.size = n) (hy : ys.size = n) (hxu : ∀ v ∈ xs, IsU8 v) (hyu : ∀ v ∈ ys, IsU8 v) (h : eqB xs ys n = true) : xs = ys := by
  rw [eqB_iff] at h
  refine Array.ext_getElem? fun i => ?_
  by_cases hi : i < n
  · rw [px_get hxu (by omega), px_get hyu (by omega), h i hi]
  · rw [Array.getElem?_eq_none (by omega), Array.getElem?_eq_none (by omega)]
theorem eqB_self (xs : Array Value) (n : Nat) : eqB xs xs n = true := eqB_iff.2 fun _ _ => rfl

theorem eqB_blocks {xs ys : Array Value} {n m : Nat} (hx : n * m ≤ xs.size) (hy : n * m ≤ ys.size) (hm : 0 < m) :
    (List.range n).all (fun i => eqB (xs.extract (i * m) (i * m + m)) (ys.extract (i * m) (i * m + m)) m) = eqB xs ys (n * m) := by
  rw [Bool.eq_iff_iff, all_range_iff, eqB_iff]
  have hin : ∀ i, i < n → i * m + m ≤ n * m := fun i hi => by
    have := Nat.mul_le_mul_right m (show i + 1 ≤ n by omega)
    rw [Nat.add_mul] at this; omega
  constructor
  · intro h k hk
    have hq : k / m < n := by rw [Nat.div_lt_iff_lt_mul hm]; exact hk
    have hmod : k % m < m := Nat.mod_lt _ hm
    have := eqB_iff.1 (h (k / m) hq) (k % m) hmod
    have hb := hin _ hq
    rw [px_extract hmod (by omega), px_extract hmod (by omega)] at this
    have hsum : k / m * m + k % m = k := by rw [Nat.mul_comm]; exact Nat.div_add_mod k m
    rwa [hsum] at this
  · intro h i hi
    have hb := hin i hi
    refine eqB_iff.2 fun j hj => ?_
    rw [px_extract hj (by omega), px_extract hj (by omega)]
    exact h _ (by omega)

section
variable {P : Program} {w : World}
theorem run_part_leaf {e : TypeId} {d : TypeDesc} (he : P.underlying e = some d) (hd : d.isRow = false) (xs : Array Value) (i : Nat) (v : Value) (h : xs[i]? = some v) :
    (part e xs i).run P w = .ok v w := by
  have hagg : (isAgg e).run P w = .ok false w := by
    unfold isAgg
    rw [Sem.run_bind, run_underlying he w]
    cases d <;> simp_all
  simp [part, Sem.run_bind, hagg, h]
theorem run_part_agg {e : TypeId} {d : TypeDesc} {m : Nat} (he : P.underlying e = some d) (hd : d.isRow = true) (hs : (P.info? e).map (·.size) = some m) (xs : Array Value) (i : Nat) :
    (part e xs i).run P w = .ok (.agg (xs.extract i (i + m))) w := by
  have hagg : (isAgg e).run P w = .ok true w := by
    unfold isAgg
    rw [Sem.run_bind, run_underlying he w]
    cases d <;> simp_all
  cases hq : P.info? e with
  | none => simp [hq] at hs
  | some j =>
    have : j.size = m := by simpa [hq] using hs
    simp [part, Sem.run_bind, hagg, sizeOf, typeInfo, hq, this]

/-- Bytes in an array. -/
theorem run_equalIn_bytes {d n : Nat} {t e : TypeId} (ht : P.underlying t = some (.array n e)) (he : P.underlying e = some (.int .u8)) (hs : (P.info? e).map (·.size) = some 1)
    (xs ys : Array Value) (hx : xs.size = n) (hy : ys.size = n) (hxu : ∀ v ∈ xs, IsU8 v) (hyu : ∀ v ∈ ys, IsU8 v) :
    (Op.equalIn (d + 2) t (.agg xs) (.agg ys)).run P w = .ok (eqB xs ys n) w := by
  refine run_equalIn_array ht hs (fun i => .int .u8 (px xs i)) (fun i => .int .u8 (px ys i)) (fun i hi => ?_) (fun i hi => ?_) (fun i => px xs i == px ys i) (fun i hi => ?_)
  · exact run_part_leaf he rfl xs _ _ (by rw [Nat.mul_one]; exact px_get hxu (by omega))
  · exact run_part_leaf he rfl ys _ _ (by rw [Nat.mul_one]; exact px_get hyu (by omega))
  · exact run_equalIn_int w d e .u8 .u8 _ _ he

/-- Arrays of arrays of bytes. -/
theorem run_equalIn_nest {d n m : Nat} {t e : TypeId} {de : TypeDesc} (hm : 0 < m) (ht : P.underlying t = some (.array n e)) (he : P.underlying e = some de) (hd : de.isRow = true) (hs : (P.info? e).map (·.size) = some m)
    (ih : ∀ xs ys : Array Value, xs.size = m → ys.size = m → (∀ v ∈ xs, IsU8 v) → (∀ v ∈ ys, IsU8 v) → (Op.equalIn d e (.agg xs) (.agg ys)).run P w = .ok (eqB xs ys m) w)
    (xs ys : Array Value) (hx : xs.size = n * m) (hy : ys.size = n * m) (hxu : ∀ v ∈ xs, IsU8 v) (hyu : ∀ v ∈ ys, IsU8 v) :
    (Op.equalIn (d + 1) t (.agg xs) (.agg ys)).run P w = .ok (eqB xs ys (n * m)) w := by
  have hin : ∀ i, i < n → i * m + m ≤ n * m := fun i hi => by
    have := Nat.mul_le_mul_right m (show i + 1 ≤ n by omega)
    rw [Nat.add_mul] at this; omega
  rw [← eqB_blocks (n := n) (m := m) (by omega) (by omega) hm]
  refine run_equalIn_array ht hs (fun i => .agg (xs.extract (i * m) (i * m + m))) (fun i => .agg (ys.extract (i * m) (i * m + m))) (fun i hi => ?_) (fun i hi => ?_) _ (fun i hi => ?_)
  · exact run_part_agg he hd hs xs _
  · exact run_part_agg he hd hs ys _
  · have := hin i hi
    exact ih _ _ (by simp; omega) (by simp; omega) (fun v hv => hxu v (mem_extract' hv)) (fun v hv => hyu v (mem_extract' hv))
end
end Go.Proofs.YthpcidnfbceliaaDoor
