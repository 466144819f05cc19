/-
  NARROWER THAN 'FOR EVERY INPUT', by the rows' own cells (each row's printed sentence says how): FnExactEarliestFind: ifaces, laid · FnExactTellingFind: ifaces, laid.
  DERIVED. THE GIVEN ROWS OF THIS SEAT. 2 by the template 'for every input the law returns true; each argument reads behind the call as it read before'; 0 by the template 'total and deterministic' (their statements: YtefjogahegolbaaDoorTotals.lean).
  GIVEN WITH THE SEED: the statements are not yours to turn. If you find one false, say at which input.
  Laid BY PROGRAM, IN A SANDBOX (cutbox-rows.mjs): the forced cells as the released guide's own fill.sh prints them over the translation 56460b663908fb9e… (all of the seat's roots in one cut). By AI agents, Wed Nov 11 2026. No macro, syntax, notation, axiom, sorry.
-/
import Derived.Test.YtefjogahegolbaaDoorChecked
import GoSem.Claim
import GoSem.ClaimJoined
import GoSem.ClaimMapViews
import Derived.JoinedTies
import Derived.KernelRfl
namespace Go.Proofs.YtefjogahegolbaaDoor
/- THE CELL 'sum', in the pinned program and in every row, IS THE sha256 OF THE DUMP (.gsa) THAT YtefjogahegolbaaDoorProg.lean LOADS. Nothing in Lean hashes anything: it is a label: what it is worth is what the hold of that sum in a sandbox is worth. -/
noncomputable def Tryd.pinned : Pinned := { name := "ytefjogahegolbaadoor", sum := "56460b663908fb9e8bb55f58ae5b57d4b4ce57a0b58a82bf6fa2fd17f5a15797", checked := Tryd.checked }
namespace Rows
def none {H : Type} : Left H := { results := [], args := [] }

/- WHAT THE LISTED PACKAGE-LEVEL VARIABLES READ AS WHEN THE CALL BEGINS. Each datum BY PROGRAM (the guide's laid-datum.mjs) off the statement by which the dump's own 'gosem.cut.vars' lays the variable. In a bare row this is a premise. The card (YtefjogahegolbaaDoorCards.lean) ties it to the program's text. -/
def laid_loop_example_g01300_impl_errInvalid {H : Type} : DataW H := .iface "*errors.errorString" (.ptr (.agg [.lit (.string [116, 104, 101, 32, 115, 101, 97, 32, 111, 114, 32, 116, 104, 101, 32, 102, 105, 110, 100, 115, 32, 97, 114, 101, 32, 110, 111, 116, 32, 118, 97, 108, 105, 100])]))
def laid_loop_example_g01300_impl_errRange {H : Type} : DataW H := .iface "*errors.errorString" (.ptr (.agg [.lit (.string [97, 32, 110, 117, 109, 98, 101, 114, 32, 105, 115, 32, 111, 117, 116, 32, 111, 102, 32, 105, 116, 115, 32, 114, 97, 110, 103, 101])]))
def laid_loop_example_g01300_impl_errLimit {H : Type} : DataW H := .iface "*errors.errorString" (.ptr (.agg [.lit (.string [116, 104, 101, 114, 101, 32, 119, 111, 117, 108, 100, 32, 98, 101, 32, 116, 111, 111, 32, 109, 97, 110, 121, 32, 102, 105, 110, 100, 115])]))
def laid_loop_example_g01300_impl_errState {H : Type} : DataW H := .iface "*errors.errorString" (.ptr (.agg [.lit (.string [108, 97, 110, 100, 32, 105, 115, 32, 119, 104, 101, 114, 101, 32, 119, 97, 116, 101, 114, 32, 104, 97, 115, 32, 116, 111, 32, 98, 101, 44, 32, 111, 114, 32, 119, 97, 116, 101, 114, 32, 119, 104, 101, 114, 101, 32, 108, 97, 110, 100, 32, 104, 97, 115, 32, 116, 111, 32, 98, 101])]))
def laid_loop_example_g01300_impl_errNotFound {H : Type} : DataW H := .iface "*errors.errorString" (.ptr (.agg [.lit (.string [116, 104, 101, 114, 101, 32, 105, 115, 32, 110, 111, 116, 104, 105, 110, 103, 32, 111, 102, 32, 116, 104, 105, 115, 32, 107, 105, 110, 100])]))

/-- 'laws.FnExactEarliestFind': WHATEVER THE INPUT: true; the input reads as it did. -/
def fnExactEarliestFindSpec : ChangeSpec := { name := "fnExactEarliestFind", vars := ["loop.example/g01300/impl.errState", "loop.example/g01300/impl.errInvalid", "loop.example/g01300/impl.errRange", "loop.example/g01300/impl.errLimit", "loop.example/g01300/impl.errNotFound"], fn := fun _ => fun
  | [d1, d2, d3, d4, g1, g2, g3, g4, g5] => { results := [.lit (.bool true)], args := [d1, d2, d3, d4], vars := [g1, g2, g3, g4, g5] }
  | _ => none }
def fnExactEarliestFindRow : OpenClaim := { program := "ytefjogahegolbaadoor", sum := "56460b663908fb9e8bb55f58ae5b57d4b4ce57a0b58a82bf6fa2fd17f5a15797", func := "loop.example/g01300/laws.FnExactEarliestFind", spec := "fnExactEarliestFind", inPlace := ["internal/reflectlite.TypeOf"], unfollowed := true, recurses := true, named := ["loop.example/g01300/impl.errState", "loop.example/g01300/impl.errInvalid", "loop.example/g01300/impl.errRange", "loop.example/g01300/impl.errLimit", "loop.example/g01300/impl.errNotFound"], ifaces := true, leaving := true, apart := false, laid := [("loop.example/g01300/impl.errInvalid", laid_loop_example_g01300_impl_errInvalid), ("loop.example/g01300/impl.errRange", laid_loop_example_g01300_impl_errRange), ("loop.example/g01300/impl.errLimit", laid_loop_example_g01300_impl_errLimit), ("loop.example/g01300/impl.errState", laid_loop_example_g01300_impl_errState), ("loop.example/g01300/impl.errNotFound", laid_loop_example_g01300_impl_errNotFound)] }
def FnExactEarliestFindSaid : Prop := fnExactEarliestFindRow.holds Tryd.pinned (OpenSpec.ofChange fnExactEarliestFindSpec)

/-- ITS FALSE NEIGHBOUR: 'it returns false'. Refute it at one input. -/
def fnExactEarliestFindWrong : ChangeSpec := { name := "fnExactEarliestFind", vars := ["loop.example/g01300/impl.errState", "loop.example/g01300/impl.errInvalid", "loop.example/g01300/impl.errRange", "loop.example/g01300/impl.errLimit", "loop.example/g01300/impl.errNotFound"], fn := fun _ => fun
  | [d1, d2, d3, d4, g1, g2, g3, g4, g5] => { results := [.lit (.bool false)], args := [d1, d2, d3, d4], vars := [g1, g2, g3, g4, g5] }
  | _ => none }
def FnExactEarliestFindWrongFalsely : Prop := fnExactEarliestFindRow.holds Tryd.pinned (OpenSpec.ofChange fnExactEarliestFindWrong)

/-- 'laws.FnExactTellingFind': WHATEVER THE INPUT: true; the input reads as it did. -/
def fnExactTellingFindSpec : ChangeSpec := { name := "fnExactTellingFind", vars := ["loop.example/g01300/impl.errInvalid", "loop.example/g01300/impl.errRange", "loop.example/g01300/impl.errState", "loop.example/g01300/impl.errLimit", "loop.example/g01300/impl.errNotFound"], fn := fun _ => fun
  | [d1, d2, d3, d4, d5, g1, g2, g3, g4, g5] => { results := [.lit (.bool true)], args := [d1, d2, d3, d4, d5], vars := [g1, g2, g3, g4, g5] }
  | _ => none }
def fnExactTellingFindRow : OpenClaim := { program := "ytefjogahegolbaadoor", sum := "56460b663908fb9e8bb55f58ae5b57d4b4ce57a0b58a82bf6fa2fd17f5a15797", func := "loop.example/g01300/laws.FnExactTellingFind", spec := "fnExactTellingFind", inPlace := ["internal/reflectlite.TypeOf"], unfollowed := true, recurses := true, named := ["loop.example/g01300/impl.errInvalid", "loop.example/g01300/impl.errRange", "loop.example/g01300/impl.errState", "loop.example/g01300/impl.errLimit", "loop.example/g01300/impl.errNotFound"], ifaces := true, leaving := true, apart := false, laid := [("loop.example/g01300/impl.errInvalid", laid_loop_example_g01300_impl_errInvalid), ("loop.example/g01300/impl.errRange", laid_loop_example_g01300_impl_errRange), ("loop.example/g01300/impl.errLimit", laid_loop_example_g01300_impl_errLimit), ("loop.example/g01300/impl.errState", laid_loop_example_g01300_impl_errState), ("loop.example/g01300/impl.errNotFound", laid_loop_example_g01300_impl_errNotFound)] }
def FnExactTellingFindSaid : Prop := fnExactTellingFindRow.holds Tryd.pinned (OpenSpec.ofChange fnExactTellingFindSpec)

/-- ITS FALSE NEIGHBOUR: 'it returns false'. Refute it at one input. -/
def fnExactTellingFindWrong : ChangeSpec := { name := "fnExactTellingFind", vars := ["loop.example/g01300/impl.errInvalid", "loop.example/g01300/impl.errRange", "loop.example/g01300/impl.errState", "loop.example/g01300/impl.errLimit", "loop.example/g01300/impl.errNotFound"], fn := fun _ => fun
  | [d1, d2, d3, d4, d5, g1, g2, g3, g4, g5] => { results := [.lit (.bool false)], args := [d1, d2, d3, d4, d5], vars := [g1, g2, g3, g4, g5] }
  | _ => none }
def FnExactTellingFindWrongFalsely : Prop := fnExactTellingFindRow.holds Tryd.pinned (OpenSpec.ofChange fnExactTellingFindWrong)

/- THE SECOND FORM. 'bulk': how many values and letters a reading holds, each counted each time it is reached (what is shared counts as often as it is met; a slice's spare places count too). A statement '..UptoSaid' is the law's where the arguments, and the package variables that the reading takes, are together of bulk at most 1048576: NARROWER than '..Said'. Prove '..Said' where nothing that the law and all that it calls make is longer than what came in: it says more and counts as full. Else prove '..UptoSaid'. A law counts once. -/
mutual
def uptoBulk {H : Type} : DataW H → Nat
  | .lit (.string bytes) => bytes.length + 1
  | .lit _ => 1
  | .nil => 1
  | .ptr d => uptoBulk d + 1
  | .slice elems spare => uptoBulkAll elems + uptoBulkAll spare + 1
  | .agg parts => uptoBulkAll parts + 1
  | .iface _ d => uptoBulk d + 1
  | .map entries => uptoBulkEntries entries + 1
  | .held _ => 1
def uptoBulkAll {H : Type} : List (DataW H) → Nat
  | [] => 0
  | d :: r => uptoBulk d + uptoBulkAll r
def uptoBulkEntries {H : Type} : List (Lit × DataW H) → Nat
  | [] => 0
  | x :: r => uptoBulkEntry x + uptoBulkEntries r
def uptoBulkEntry {H : Type} : Lit × DataW H → Nat
  | (.string bytes, d) => bytes.length + uptoBulk d + 1
  | (_, d) => uptoBulk d + 1
 end
def uptoSmall : (H : Type) → List (DataW H) → Bool := fun _ ds => decide (uptoBulkAll ds ≤ 1048576)
def OpenSpec.upto (s : _root_.Go.ChangeSpec) : _root_.Go.OpenSpec := { _root_.Go.OpenSpec.ofChange s with cond := some uptoSmall }

/-- 'laws.FnExactEarliestFind', WHERE WHAT IT READS IS OF BULK AT MOST 1048576: true; the input reads as it did. -/
def fnExactEarliestFindUptoRow : OpenClaim := { program := "ytefjogahegolbaadoor", sum := "56460b663908fb9e8bb55f58ae5b57d4b4ce57a0b58a82bf6fa2fd17f5a15797", func := "loop.example/g01300/laws.FnExactEarliestFind", spec := "fnExactEarliestFind", inPlace := ["internal/reflectlite.TypeOf"], unfollowed := true, recurses := true, named := ["loop.example/g01300/impl.errState", "loop.example/g01300/impl.errInvalid", "loop.example/g01300/impl.errRange", "loop.example/g01300/impl.errLimit", "loop.example/g01300/impl.errNotFound"], ifaces := true, leaving := true, apart := false, laid := [("loop.example/g01300/impl.errInvalid", laid_loop_example_g01300_impl_errInvalid), ("loop.example/g01300/impl.errRange", laid_loop_example_g01300_impl_errRange), ("loop.example/g01300/impl.errLimit", laid_loop_example_g01300_impl_errLimit), ("loop.example/g01300/impl.errState", laid_loop_example_g01300_impl_errState), ("loop.example/g01300/impl.errNotFound", laid_loop_example_g01300_impl_errNotFound)], narrowed := true }
def FnExactEarliestFindUptoSaid : Prop := fnExactEarliestFindUptoRow.holds Tryd.pinned (OpenSpec.upto fnExactEarliestFindSpec)

/-- 'laws.FnExactTellingFind', WHERE WHAT IT READS IS OF BULK AT MOST 1048576: true; the input reads as it did. -/
def fnExactTellingFindUptoRow : OpenClaim := { program := "ytefjogahegolbaadoor", sum := "56460b663908fb9e8bb55f58ae5b57d4b4ce57a0b58a82bf6fa2fd17f5a15797", func := "loop.example/g01300/laws.FnExactTellingFind", spec := "fnExactTellingFind", inPlace := ["internal/reflectlite.TypeOf"], unfollowed := true, recurses := true, named := ["loop.example/g01300/impl.errInvalid", "loop.example/g01300/impl.errRange", "loop.example/g01300/impl.errState", "loop.example/g01300/impl.errLimit", "loop.example/g01300/impl.errNotFound"], ifaces := true, leaving := true, apart := false, laid := [("loop.example/g01300/impl.errInvalid", laid_loop_example_g01300_impl_errInvalid), ("loop.example/g01300/impl.errRange", laid_loop_example_g01300_impl_errRange), ("loop.example/g01300/impl.errLimit", laid_loop_example_g01300_impl_errLimit), ("loop.example/g01300/impl.errState", laid_loop_example_g01300_impl_errState), ("loop.example/g01300/impl.errNotFound", laid_loop_example_g01300_impl_errNotFound)], narrowed := true }
def FnExactTellingFindUptoSaid : Prop := fnExactTellingFindUptoRow.holds Tryd.pinned (OpenSpec.upto fnExactTellingFindSpec)

end Rows
end Go.Proofs.YtefjogahegolbaaDoor
