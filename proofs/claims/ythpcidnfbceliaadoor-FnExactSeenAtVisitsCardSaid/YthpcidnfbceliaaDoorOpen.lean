/- Arguments of plain integers in arrays, opened: each cell is an integer of its kind. No program is named. -/
import Derived.Test.YthpcidnfbceliaaDoorBase
namespace Go.Proofs.YthpcidnfbceliaaDoor
open Go.ChangeShapes Go.WideShapes Go.ChangeAt Go.RowKit
set_option linter.unusedVariables false

section
variable {H : Type} {enc : TypeId × Value → H} {P : Program} {w : World} {base : Nat} {spare : Nat → Bool} {held : Bool}

/-- An array all of whose elements' cells are alike. -/
theorem trod_array_all {Q : Value → Prop} {fuel : Nat} {t e : TypeId} {n m : Nat} {cs : List Value} {x : DataW H × List MemPlace}
    (ht : P.underlying t = some (.array n e)) (hce : P.cellsOf e = m) (hm : 0 < m) (hct : P.cellsOf t = n * m)
    (he : ∀ fuel cs x, DataW.trod enc P w base spare held fuel e cs = some x → ∀ v ∈ cs, Q v)
    (h : DataW.trod enc P w base spare held fuel t cs = some x) : cs.length = n * m ∧ ∀ v ∈ cs, Q v := by
  obtain ⟨xs, k, rfl, rfl, hl, hxs, hp⟩ := DataW.trod_array ht h
  have hlen : cs.length = n * m := by rw [hl, hct]
  refine ⟨hlen, fun v hv => ?_⟩
  obtain ⟨i, hi, rfl⟩ := List.mem_iff_getElem.1 hv
  have hq : i / m < n := by
    rw [Nat.div_lt_iff_lt_mul hm]; omega
  have hpart := hp (i / m) hq
  rw [hce] at hpart
  rw [List.getElem?_eq_getElem (by omega)] at hpart
  refine he _ _ _ hpart _ ?_
  rw [List.mem_iff_getElem?]
  refine ⟨i % m, ?_⟩
  have hmod : i % m < m := Nat.mod_lt _ hm
  have hsum : i / m * m + i % m = i := by rw [Nat.mul_comm]; exact Nat.div_add_mod i m
  rw [List.getElem?_take, if_pos hmod, List.getElem?_drop, hsum, List.getElem?_eq_getElem hi]

/-- A cell of a byte. -/
def IsU8 (v : Value) : Prop := ∃ x : Int, v = .int .u8 x ∧ 0 ≤ x ∧ x ≤ 255

theorem trod_u8 {e : TypeId} (ht : P.underlying e = some (.int .u8)) :
    ∀ fuel cs x, DataW.trod enc P w base spare held fuel e cs = some x → ∀ v ∈ cs, IsU8 v := by
  intro fuel cs x h v hv
  obtain ⟨n, rfl, _, hwf⟩ := DataW.trod_int ht h
  obtain rfl : v = .int .u8 n := by simpa using hv
  exact ⟨n, rfl, bounds_u8 hwf⟩
end

/-- Five bytes, written out. -/
theorem five_u8 {cs : List Value} (hl : cs.length = 5) (h : ∀ v ∈ cs, IsU8 v) :
    ∃ x0 x1 x2 x3 x4 : Int, cs = [.int .u8 x0, .int .u8 x1, .int .u8 x2, .int .u8 x3, .int .u8 x4] ∧ (0 ≤ x0 ∧ x0 ≤ 255) ∧ (0 ≤ x1 ∧ x1 ≤ 255) ∧ (0 ≤ x2 ∧ x2 ≤ 255) ∧ (0 ≤ x3 ∧ x3 ≤ 255) ∧ (0 ≤ x4 ∧ x4 ≤ 255) := by
  match cs, hl with
  | [c0, c1, c2, c3, c4], _ =>
    obtain ⟨x0, rfl, h0⟩ := h c0 (by simp)
    obtain ⟨x1, rfl, h1⟩ := h c1 (by simp)
    obtain ⟨x2, rfl, h2⟩ := h c2 (by simp)
    obtain ⟨x3, rfl, h3⟩ := h c3 (by simp)
    obtain ⟨x4, rfl, h4⟩ := h c4 (by simp)
    exact ⟨x0, x1, x2, x3, x4, rfl, h0, h1, h2, h3, h4⟩

/-- The value of an array or a struct is an aggregate. -/
theorem agg_of_okWide {P : Program} {w : World} {r : Reach} {base : Nat} {t : TypeId} {v : Value} {d : TypeDesc} (ht : P.underlying t = some d)
    (hd : (match d with | .struct _ | .array _ _ => true | _ => false) = true) (h : Value.okWide P w r base t v) : ∃ cs, v = .agg cs := by
  unfold Value.okWide at h
  rw [ht] at h
  cases d <;> simp_all
  all_goals exact ⟨_, h.choose_spec.1⟩
end Go.Proofs.YthpcidnfbceliaaDoor
