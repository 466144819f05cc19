/- A law in company: it is enough that its run ends. No program is named. -/
import Derived.Conc.LeavingOf
import Derived.Test.YtnbfkpecnhhecaaVcF
namespace Go.Proofs.Ytnbfkpecnhhecaa.Vc
open Go.ChangeShapes Go.WideShapes Go.ChangeAt Go.RowKit Go.Conc Go.Proofs.Ytnbfkpecnhhecaa.Ve
set_option linter.unusedVariables false
set_option linter.unusedSimpArgs false
theorem law_leaving {C : Checked} {F : FuncId} {fn : Func} {s : ChangeSpec} {tb : TypeId}
    (own : ownKnob C.prog.godebug = none) (laidOut : laidOutB C.prog = true) (hfn : C.prog.funcs[F]? = some fn)
    (hres : fn.resultTypes = #[tb]) (htb : C.prog.underlying tb = some .bool)
    (hread : ∀ t ∈ fn.params.toList, C.prog.readableRec t = true ∧ t < C.prog.types.size)
    (hvars : s.vars = [])
    (hspec : ∀ (H : Type) (ds : List (DataW H)), ds.length = fn.params.toList.length → s.fn H ds = { results := [.lit (.bool true)], args := ds })
    (os : Os) (started : os.Started) (H : Type) (enc : TypeId × Value → H)
    (witness : ∃ (w : World) (tape : Tape) (i : Input), w.os = os ∧ (w.forCall tape i).Shaped C.prog ∧ i.vars = [] ∧ Input.okWide C.prog (w.forCall tape i) .any w.heap.size F i ∧
      s.pre6 enc C.prog fn [] false (w.forCall tape i).memory i.args ∧ ({} : Assume).holds C.prog (lone (Frame.enter C.prog F i.args .normal) [] (w.forCall tape i)))
    (walk : ∀ (W : World) (base : Nat) (args : Array Value) (ds : List (DataW H)) (ps : List MemPlace),
      (∀ (j : Nat) t v, fn.params[j]? = some t → args[j]? = some v → Value.okWide C.prog W .any base t v) →
      DataW.TrodAll enc C.prog W 0 (fun _ => true) true fn.params.toList args.toList ds ps →
      Ends C.prog (fun v W' => v = .bool true ∧ Below W.heap.size W W') (crowd #[gr (Frame.enter C.prog F args .normal) []] W none) #[]) :
    ReturnsInLeavingWide {} C os F .any (s.pre6 enc C.prog fn [] false) (s.post enc C.prog fn false true false false) := by
  refine returnsInLeavingWide_of_change_sized own started hfn witness ?_
  intro W base args ds gs before hval hW hcnd _ _
  have hW' := hW
  obtain ⟨p, q, hA, hV, hbef, hfz, hnd⟩ := hW
  have hgs : gs = [] := by
    rw [hvars] at hV
    cases gs with
    | nil => rfl
    | cons => exact hV.elim
  subst hgs
  obtain ⟨M, last, o, w', t', h1, h2, h3, h4⟩ := walk W base args ds p hval hA
  refine ⟨M, last, o, w', t', h1, h2, h3, h4.mono fun v ⟨he, bel⟩ => ?_⟩
  subst he
  have hs : s.fn H (ds ++ []) = { results := [.lit (.bool true)], args := ds } := by
    rw [List.append_nil]
    exact hspec H ds (trodAll_lengths hA).1
  refine ⟨ds, [], before, [], p, [], hW', ?_, ?_, ?_, bel.frame _, fun h => by cases h⟩
  · rw [hs, hres]
    exact trodAll_mk1 (shut_bool htb _)
  · rw [hs]
    exact trodAll_below laidOut bel hread hA
  · rw [hs, hvars]
    rfl
end Go.Proofs.Ytnbfkpecnhhecaa.Vc
