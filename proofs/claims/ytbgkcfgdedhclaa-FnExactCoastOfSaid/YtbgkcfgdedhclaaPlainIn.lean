/- A region that draws its order, within a round of a range over a function, by the plain laws: its operations are no defer statements. No program is named. -/
import Derived.Test.YtbgkcfgdedhclaaHeld
import Derived.RangeFuncNested
import Derived.OrdersIn
namespace Go.Proofs.Ytbgkcfgdedhclaa
open Go.ChangeShapes Go.WideShapes Go.ChangeAt Go.RowKit
set_option linter.unusedVariables false

section
variable {P : Program} {ops : Array Oper} {Q : Exit → Act → World → Prop} {md : Region.Mode} {n : Nat}

/-- The wide fence, in a round or in none. -/
def wideAt (ro : Option Nat) : Fence := { fn := fun _ => True, depth := none, alive := false, round := ro }

/-- No operation is a defer statement. -/
def noDefer (ops : Array Oper) : Bool := ops.all fun o => match o.op with | .defer _ => false | _ => true
theorem noDefer_spec (h : noDefer ops = true) {i : Nat} {o : Oper} (hi : ops[i]? = some o) (c : Call) : o.op ≠ .defer c := by
  intro e
  have hm : o ∈ ops := by
    obtain ⟨hlt, hh⟩ := Array.getElem?_eq_some_iff.1 hi
    exact hh ▸ Array.getElem_mem hlt
  have := (Array.all_eq_true_iff_forall_mem.1 h) o hm
  rw [e] at this
  cases this

theorem callsIn_wideAt {ro : Option Nat} {f : FuncId} {args : Array Value} {w : World} {R : Ending → World → Prop} (h : Calls P f args w R) : CallsIn (wideAt ro) n P f args w R :=
  (callsIn_wide (n := n)).2 h

theorem wpOpIn_plain {ro : Option Nat} {i : Nat} {K : Act → World → Prop} {a : Act} {w : World} (hnd : noDefer ops = true) (hQ : ¬ LetsOut Q) (h : wpOp P ops Q i K a w) : wpOpIn (wideAt ro) n P ops Q i K a w := by
  unfold wpOp at h
  unfold wpOpIn
  cases hi : ops[i]? with
  | none => simp only [hi] at h ⊢; exact h
  | some o =>
    simp only [hi] at h ⊢
    split
    · rename_i hw
      rw [if_pos hw] at h
      rcases h with h | ⟨_, hl⟩
      · refine ⟨fun _ _ => trivial, ?_⟩
        rw [Oper.semAt_eq _ _ _ (noDefer_spec hnd hi)]
        unfold Oper.wp at h
        generalize (execOp a.eval o).run P w = r at h ⊢
        cases r with
        | ok x w' =>
          cases x with
          | value v => exact h
          | skip => exact h
          | defer d => exact h
          | enter f args =>
            refine ⟨fun hd => by simp [wideAt] at hd, callsIn_wideAt (Calls.mono h fun e w'' he => ?_)⟩
            cases e <;> exact he
          | row row args =>
            exact ⟨fun hd => by simp [wideAt] at hd, fun c cs _ => by
              obtain ⟨v, w'', r, s⟩ := h c cs
              exact ⟨v, w'', r, stepsIn_wide.2 s⟩⟩
          | _ => exact h.elim
        | halt x w' => cases x <;> exact h
      · exact absurd hl hQ
    · rename_i hw
      rw [if_neg hw] at h
      exact ⟨fun _ _ => trivial, h⟩

theorem wpAnyIn_plain {ro : Option Nat} (hnd : noDefer ops = true) (hQ : ¬ LetsOut Q) : ∀ (fuel : Nat) (listed : Array Bool) (a : Act) (w : World), wpAny P md ops Q fuel listed a w → wpAnyIn (wideAt ro) n P md ops Q fuel listed a w
  | 0, _, _, _, h => h
  | fuel + 1, listed, a, w, h => ⟨h.1, fun i hi => wpOpIn_mono (fun a' w' h' => wpAnyIn_plain hnd hQ fuel _ a' w' h') (wpOpIn_plain hnd hQ (h.2 i hi))⟩

/-- The region's walk begins: by the plain laws, under a condition on the world. -/
theorem wpIn_region_held {ro : Option Nat} {id : Nat} {a : Act} {w : World} (S : World → Prop) (hm : P.follows .mixedOrders = true) (hnd : noDefer ops = true) (hQ : ¬ LetsOut Q) (hS : S w.drew)
    (h : S w.drew → wpAnyH P .any ops Q S ops.size (Array.replicate ops.size false) a w.drew) : (Code.region id ops true).wpIn (wideAt ro) n P Q a w :=
  wpIn_region_any hm (wpAnyIn_plain hnd hQ _ _ _ _ (wpAny_of_held _ _ _ _ (h hS)))

/-- What stands behind a piece of code is proved once, whatever the ways through it. -/
theorem meetIn {F : Fence} {c : Code} {a : Act} {w : World} (R : Act → World → Prop) (h : c.wpIn F n P (fun e a w => e = .normal ∧ R a w) a w) (hR : ∀ a w, R a w → Q .normal a w) : c.wpIn F n P Q a w :=
  Go.wpIn_mono h fun e a w ⟨he, hr⟩ => by subst he; exact hR a w hr
end
end Go.Proofs.Ytbgkcfgdedhclaa
