/- errors.Is of two errors that are variables of the program's: Go's text walked. -/
import Derived.Test.YthpcidnfbceliaaDoorChecked
import Derived.WalkKit
import Derived.LaidEql
import Derived.Stop.Asserts
import Derived.RowKitTokens
import Derived.Test.YthpcidnfbceliaaDoorVeE
namespace Go.Proofs.YthpcidnfbceliaaDoor
open Go.RowKit Go.Extern.Stop Go.Stop Go.Extern
set_option maxRecDepth 100000
theorem isTypeOf (v : Value) (w : World) : (Extern.ReflectliteType.typeOf #[.iface 212 v]).run Tryd.prog w = .ok (.iface 177 (.agg #[.pointer (some ⟨7, 212, none⟩)])) w := by kernel_rfl
/-- What (rtype).Comparable does. -/
def cmpX : Array Value → Sem Value := Extern.ReflectliteType.method fun t => do Extern.Rtype.noPackHeld "Comparable" t; pure (.bool (← typeInfo t).comparable)
theorem isComparable (w : World) : (cmpX #[.agg #[.pointer (some ⟨7, 212, none⟩)]]).run Tryd.prog w = .ok (.bool true) w := by kernel_rfl
theorem isMethodComparable (v : Value) (w : World) : (Go.method 346 177 v "Comparable").run Tryd.prog w = .ok (157, v) w := by kernel_rfl
theorem isComp : (Tryd.prog.info? 212).map (·.comparable) = some true := by kernel_rfl
theorem isSize : (Tryd.prog.info? 234).map (·.size) = some 1 := by kernel_rfl
theorem noIsE (v : Value) (xT : TypeId) (w : World) : (Instr.typeAssert (.iface 212 v) xT 179 true).run Tryd.prog w = .ok (.tuple #[.nilIface, .bool false]) w := run_typeAssert_lacksB Tryd.underlying179 (by kernel_rfl) (by kernel_rfl) v xT w
theorem noUnwrapE (v : Value) (xT : TypeId) (w : World) : (Instr.typeAssert (.iface 212 v) xT 182 true).run Tryd.prog w = .ok (.tuple #[.nilIface, .bool false]) w := run_typeAssert_lacksB Tryd.underlying182 (by kernel_rfl) (by kernel_rfl) v xT w
theorem noUnwrapsE (v : Value) (xT : TypeId) (w : World) : (Instr.typeAssert (.iface 212 v) xT 184 true).run Tryd.prog w = .ok (.tuple #[.nilIface, .bool false]) w := run_typeAssert_lacksB Tryd.underlying184 (by kernel_rfl) (by kernel_rfl) v xT w

theorem is_same (a : Addr) (w : World) :
    Calls Tryd.prog 56 #[.iface 212 (.pointer (some a)), .iface 212 (.pointer (some a))] w fun e w' => e = .returned (.bool true) ∧ w' = w := by
  obtain ⟨i, hi, hcmp⟩ := Option.map_eq_some_iff.1 isComp
  obtain ⟨j, hj, hjs⟩ := Option.map_eq_some_iff.1 isSize
  have h8 := @run_callFunc_extern Tryd.prog 87 _ Extern.ReflectliteType.typeOf Tryd.func87 (by kernel_rfl) (by kernel_rfl) (by kernel_rfl) (by kernel_rfl)
  have h32 := @run_callFunc_extern Tryd.prog 157 _ cmpX Tryd.func157 (by kernel_rfl) (by kernel_rfl) (by kernel_rfl) (by kernel_rfl)
  have tT := isTypeOf
  have cT := isComparable
  have mR := isMethodComparable
  have nE := noIsE
  have uE := noUnwrapE
  have vE := noUnwrapsE
  have heq := run_eql_iface_ptr_same (P := Tryd.prog) w a Tryd.underlying69 Tryd.underlying212 hi hcmp hj
  go_enter Tryd.func56, Tryd.ntmps56
  go_wp2
  refine wp_loop_rounds 1 ?_
  rw [rounds_succ]
  go_wp2
  go_ret
  exact ⟨rfl, rfl⟩

theorem is_other (a b : Addr) (ca cb : Array Value) (ta tb : TypeId) (w : World) (hne : a ≠ b) (ha : w.heap[a.block]? = some (.cells ca ta (0, 0))) (hb : w.heap[b.block]? = some (.cells cb tb (0, 0))) :
    Calls Tryd.prog 56 #[.iface 212 (.pointer (some a)), .iface 212 (.pointer (some b))] w fun e w' => e = .returned (.bool false) ∧ w' = w := by
  obtain ⟨i, hi, hcmp⟩ := Option.map_eq_some_iff.1 isComp
  obtain ⟨j, hj, hjs⟩ := Option.map_eq_some_iff.1 isSize
  have h8 := @run_callFunc_extern Tryd.prog 87 _ Extern.ReflectliteType.typeOf Tryd.func87 (by kernel_rfl) (by kernel_rfl) (by kernel_rfl) (by kernel_rfl)
  have h32 := @run_callFunc_extern Tryd.prog 157 _ cmpX Tryd.func157 (by kernel_rfl) (by kernel_rfl) (by kernel_rfl) (by kernel_rfl)
  have tT := isTypeOf
  have cT := isComparable
  have mR := isMethodComparable
  have nE := noIsE
  have uE := noUnwrapE
  have vE := noUnwrapsE
  have heq := run_eql_iface_ptr_other (P := Tryd.prog) w Tryd.underlying69 Tryd.underlying212 hi hcmp hj (by rw [hjs]; decide) hne ha hb
  go_enter Tryd.func56, Tryd.ntmps56
  go_wp2
  refine wp_loop_rounds 1 ?_
  rw [rounds_succ]
  go_wp2
  go_ret
  exact ⟨rfl, rfl⟩

open Ve
/-- errors.Is of two of the program's variables. -/
def isCon : Con := fun args h => match args with
  | [.e n, .e m] => (match h[n]?, h[m]? with
    | some (.gl _ t _ x), some (.gl _ t' _ y) => bif Nat.beq t 212 && Nat.beq t' 212 then (bif Nat.beq n m then some (.a (.b true), .none, true) else bif (Nat.beq x y || !(Nat.blt x 65521 && Nat.blt y 65521)) then none else some (.a (.b false), .none, true)) else none
    | _, _ => none)
  | _ => none
theorem isCon_ok : ConOk Tryd.prog 56 isCon := by
  intro ρ h w args vals r ef hno hr hA hH
  unfold isCon at hr
  split at hr
  · rename_i n m
    match vals, hA with
    | [v1, v2], hA =>
      obtain ⟨g1, t1, a1, x1, p1, q1⟩ := hA.2 0 (.e n) v1 rfl rfl
      obtain ⟨g2, t2, a2, x2, p2, q2⟩ := hA.2 1 (.e m) v2 rfl rfl
      subst q1 q2
      rw [p1, p2] at hr
      dsimp only at hr
      cases ht : Nat.beq t1 212 && Nat.beq t2 212 with
      | false => rw [ht] at hr; cases hr
      | true =>
        rw [ht] at hr
        simp only [Bool.and_eq_true] at ht
        obtain rfl := Nat.eq_of_beq_eq_true ht.1
        obtain rfl := Nat.eq_of_beq_eq_true ht.2
        simp only [cond_true] at hr
        cases hnm : Nat.beq n m with
        | true =>
          rw [hnm] at hr
          cases hr
          obtain rfl := Nat.eq_of_beq_eq_true hnm
          rw [p1] at p2
          cases p2
          refine (is_same a1 w).mono ?_
          rintro e w' ⟨rfl, rfl⟩
          exact ⟨_, rfl, rfl, Kept.refl _ _⟩
        | false =>
          rw [hnm] at hr
          simp only [cond_false] at hr
          cases hx : (Nat.beq x1 x2 || !(Nat.blt x1 65521 && Nat.blt x2 65521)) with
          | true => rw [hx] at hr; cases hr
          | false =>
            rw [hx] at hr
            cases hr
            obtain ⟨-, s1, C, T1, fr1, c1, b1, d1⟩ := hH.is _ _ p1
            obtain ⟨-, s2, C2, T2, fr2, c2, b2, d2⟩ := hH.is _ _ p2
            rw [Bool.or_eq_false_iff, Bool.not_eq_false', Bool.and_eq_true] at hx
            obtain ⟨hx, l1, l2⟩ := hx
            have l1 : x1 < 65521 := Nat.le_of_ble_eq_true l1
            have l2 : x2 < 65521 := Nat.le_of_ble_eq_true l2
            rcases d1 with ⟨rfl, d1⟩ | ⟨-, d1⟩
            case inr => omega
            rcases d2 with ⟨rfl, d2⟩ | ⟨-, d2⟩
            case inr => omega
            refine (is_other a1 a2 C C2 T1 T2 w (fun e => ?_) b1 b2).mono ?_
            · subst e
              rw [c1] at c2
              cases c2
              rw [← d1, ← d2] at hx
              simp at hx
            · rintro e w' ⟨rfl, rfl⟩
              exact ⟨_, rfl, rfl, Kept.refl _ _⟩
    | [], hA => exact absurd hA.1 (by simp)
    | [_], hA => exact absurd hA.1 (by simp)
    | _ :: _ :: _ :: _, hA => exact absurd hA.1 (by simp)
  · cases hr
theorem isCon_enter : ∀ args w, (callFunc 56 args).run Tryd.prog w = .ok (.enter 56 args) w := enter_ok (fn := Tryd.f56) (by kernel_rfl) (by kernel_rfl) (by kernel_rfl)

end Go.Proofs.YthpcidnfbceliaaDoor
