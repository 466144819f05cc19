/-
  NARROWER THAN 'FOR EVERY INPUT', by the rows' own cells (each row's printed sentence says how): FnExactScoresOf: ifaces, laid · FnExactScoreOf: ifaces, laid · FnExactWorstFind: ifaces, laid · FnExactBetterMap: ifaces, laid · FnExactBestRepair: ifaces, laid · FnExactRepairMap: ifaces, laid.
  DERIVED. THE GIVEN ROWS OF THIS SEAT. 6 by the template 'for every input the law returns true; each argument reads behind the call as it read before'; 0 by the template 'total and deterministic' (their statements: YtefjogahegolbaaGreatDoorTotals.lean).
  GIVEN WITH THE SEED: the statements are not yours to turn. If you find one false, say at which input.
  Laid BY PROGRAM, IN A SANDBOX (cutbox-rows.mjs): the forced cells as the released guide's own fill.sh prints them over the translation 4d04ac6e34e3f14e… (all of the seat's roots in one cut). By AI agents, Wed Nov 11 2026. No macro, syntax, notation, axiom, sorry.
-/
import Derived.Test.YtefjogahegolbaaGreatDoorChecked
import GoSem.Claim
import GoSem.ClaimJoined
import GoSem.ClaimMapViews
import Derived.JoinedTies
import Derived.KernelRfl
namespace Go.Proofs.YtefjogahegolbaaGreatDoor
/- THE CELL 'sum', in the pinned program and in every row, IS THE sha256 OF THE DUMP (.gsa) THAT YtefjogahegolbaaGreatDoorProg.lean LOADS. Nothing in Lean hashes anything: it is a label: what it is worth is what the hold of that sum in a sandbox is worth. -/
noncomputable def Tryz.pinned : Pinned := { name := "ytefjogahegolbaagreatdoor", sum := "4d04ac6e34e3f14e37efa8af8d72c32ee08f786ae2ceaaff2af221df0e92212c", checked := Tryz.checked }
namespace Rows
def none {H : Type} : Left H := { results := [], args := [] }

/- WHAT THE LISTED PACKAGE-LEVEL VARIABLES READ AS WHEN THE CALL BEGINS. Each datum BY PROGRAM (the guide's laid-datum.mjs) off the statement by which the dump's own 'gosem.cut.vars' lays the variable. In a bare row this is a premise. The card (YtefjogahegolbaaGreatDoorCards.lean) ties it to the program's text. -/
def laid_loop_example_g01300_impl_errInvalid {H : Type} : DataW H := .iface "*errors.errorString" (.ptr (.agg [.lit (.string [116, 104, 101, 32, 115, 101, 97, 32, 111, 114, 32, 116, 104, 101, 32, 102, 105, 110, 100, 115, 32, 97, 114, 101, 32, 110, 111, 116, 32, 118, 97, 108, 105, 100])]))
def laid_loop_example_g01300_impl_errRange {H : Type} : DataW H := .iface "*errors.errorString" (.ptr (.agg [.lit (.string [97, 32, 110, 117, 109, 98, 101, 114, 32, 105, 115, 32, 111, 117, 116, 32, 111, 102, 32, 105, 116, 115, 32, 114, 97, 110, 103, 101])]))
def laid_loop_example_g01300_impl_errLimit {H : Type} : DataW H := .iface "*errors.errorString" (.ptr (.agg [.lit (.string [116, 104, 101, 114, 101, 32, 119, 111, 117, 108, 100, 32, 98, 101, 32, 116, 111, 111, 32, 109, 97, 110, 121, 32, 102, 105, 110, 100, 115])]))
def laid_loop_example_g01300_impl_errState {H : Type} : DataW H := .iface "*errors.errorString" (.ptr (.agg [.lit (.string [108, 97, 110, 100, 32, 105, 115, 32, 119, 104, 101, 114, 101, 32, 119, 97, 116, 101, 114, 32, 104, 97, 115, 32, 116, 111, 32, 98, 101, 44, 32, 111, 114, 32, 119, 97, 116, 101, 114, 32, 119, 104, 101, 114, 101, 32, 108, 97, 110, 100, 32, 104, 97, 115, 32, 116, 111, 32, 98, 101])]))
def laid_loop_example_g01300_impl_errNotFound {H : Type} : DataW H := .iface "*errors.errorString" (.ptr (.agg [.lit (.string [116, 104, 101, 114, 101, 32, 105, 115, 32, 110, 111, 116, 104, 105, 110, 103, 32, 111, 102, 32, 116, 104, 105, 115, 32, 107, 105, 110, 100])]))

/-- 'laws.FnExactScoresOf': WHATEVER THE INPUT: true; the input reads as it did. -/
def fnExactScoresOfSpec : ChangeSpec := { name := "fnExactScoresOf", vars := ["loop.example/g01300/impl.errInvalid", "loop.example/g01300/impl.errRange", "loop.example/g01300/impl.errState", "loop.example/g01300/impl.errLimit", "loop.example/g01300/impl.errNotFound"], fn := fun _ => fun
  | [d1, d2, d3, d4, g1, g2, g3, g4, g5] => { results := [.lit (.bool true)], args := [d1, d2, d3, d4], vars := [g1, g2, g3, g4, g5] }
  | _ => none }
def fnExactScoresOfRow : OpenClaim := { program := "ytefjogahegolbaagreatdoor", sum := "4d04ac6e34e3f14e37efa8af8d72c32ee08f786ae2ceaaff2af221df0e92212c", func := "loop.example/g01300/laws.FnExactScoresOf", spec := "fnExactScoresOf", inPlace := ["internal/reflectlite.TypeOf"], unfollowed := true, recurses := true, named := ["loop.example/g01300/impl.errInvalid", "loop.example/g01300/impl.errRange", "loop.example/g01300/impl.errState", "loop.example/g01300/impl.errLimit", "loop.example/g01300/impl.errNotFound"], ifaces := true, leaving := true, apart := false, laid := [("loop.example/g01300/impl.errInvalid", laid_loop_example_g01300_impl_errInvalid), ("loop.example/g01300/impl.errRange", laid_loop_example_g01300_impl_errRange), ("loop.example/g01300/impl.errLimit", laid_loop_example_g01300_impl_errLimit), ("loop.example/g01300/impl.errState", laid_loop_example_g01300_impl_errState), ("loop.example/g01300/impl.errNotFound", laid_loop_example_g01300_impl_errNotFound)] }
def FnExactScoresOfSaid : Prop := fnExactScoresOfRow.holds Tryz.pinned (OpenSpec.ofChange fnExactScoresOfSpec)

/-- ITS FALSE NEIGHBOUR: 'it returns false'. Refute it at one input. -/
def fnExactScoresOfWrong : ChangeSpec := { name := "fnExactScoresOf", vars := ["loop.example/g01300/impl.errInvalid", "loop.example/g01300/impl.errRange", "loop.example/g01300/impl.errState", "loop.example/g01300/impl.errLimit", "loop.example/g01300/impl.errNotFound"], fn := fun _ => fun
  | [d1, d2, d3, d4, g1, g2, g3, g4, g5] => { results := [.lit (.bool false)], args := [d1, d2, d3, d4], vars := [g1, g2, g3, g4, g5] }
  | _ => none }
def FnExactScoresOfWrongFalsely : Prop := fnExactScoresOfRow.holds Tryz.pinned (OpenSpec.ofChange fnExactScoresOfWrong)

/-- 'laws.FnExactScoreOf': WHATEVER THE INPUT: true; the input reads as it did. -/
def fnExactScoreOfSpec : ChangeSpec := { name := "fnExactScoreOf", vars := ["loop.example/g01300/impl.errInvalid", "loop.example/g01300/impl.errRange", "loop.example/g01300/impl.errState", "loop.example/g01300/impl.errLimit", "loop.example/g01300/impl.errNotFound"], fn := fun _ => fun
  | [d1, d2, d3, d4, g1, g2, g3, g4, g5] => { results := [.lit (.bool true)], args := [d1, d2, d3, d4], vars := [g1, g2, g3, g4, g5] }
  | _ => none }
def fnExactScoreOfRow : OpenClaim := { program := "ytefjogahegolbaagreatdoor", sum := "4d04ac6e34e3f14e37efa8af8d72c32ee08f786ae2ceaaff2af221df0e92212c", func := "loop.example/g01300/laws.FnExactScoreOf", spec := "fnExactScoreOf", inPlace := ["internal/reflectlite.TypeOf"], unfollowed := true, recurses := true, named := ["loop.example/g01300/impl.errInvalid", "loop.example/g01300/impl.errRange", "loop.example/g01300/impl.errState", "loop.example/g01300/impl.errLimit", "loop.example/g01300/impl.errNotFound"], ifaces := true, leaving := true, apart := false, laid := [("loop.example/g01300/impl.errInvalid", laid_loop_example_g01300_impl_errInvalid), ("loop.example/g01300/impl.errRange", laid_loop_example_g01300_impl_errRange), ("loop.example/g01300/impl.errLimit", laid_loop_example_g01300_impl_errLimit), ("loop.example/g01300/impl.errState", laid_loop_example_g01300_impl_errState), ("loop.example/g01300/impl.errNotFound", laid_loop_example_g01300_impl_errNotFound)] }
def FnExactScoreOfSaid : Prop := fnExactScoreOfRow.holds Tryz.pinned (OpenSpec.ofChange fnExactScoreOfSpec)

/-- ITS FALSE NEIGHBOUR: 'it returns false'. Refute it at one input. -/
def fnExactScoreOfWrong : ChangeSpec := { name := "fnExactScoreOf", vars := ["loop.example/g01300/impl.errInvalid", "loop.example/g01300/impl.errRange", "loop.example/g01300/impl.errState", "loop.example/g01300/impl.errLimit", "loop.example/g01300/impl.errNotFound"], fn := fun _ => fun
  | [d1, d2, d3, d4, g1, g2, g3, g4, g5] => { results := [.lit (.bool false)], args := [d1, d2, d3, d4], vars := [g1, g2, g3, g4, g5] }
  | _ => none }
def FnExactScoreOfWrongFalsely : Prop := fnExactScoreOfRow.holds Tryz.pinned (OpenSpec.ofChange fnExactScoreOfWrong)

/-- 'laws.FnExactWorstFind': WHATEVER THE INPUT: true; the input reads as it did. -/
def fnExactWorstFindSpec : ChangeSpec := { name := "fnExactWorstFind", vars := ["loop.example/g01300/impl.errInvalid", "loop.example/g01300/impl.errRange", "loop.example/g01300/impl.errState", "loop.example/g01300/impl.errLimit", "loop.example/g01300/impl.errNotFound"], fn := fun _ => fun
  | [d1, d2, d3, d4, g1, g2, g3, g4, g5] => { results := [.lit (.bool true)], args := [d1, d2, d3, d4], vars := [g1, g2, g3, g4, g5] }
  | _ => none }
def fnExactWorstFindRow : OpenClaim := { program := "ytefjogahegolbaagreatdoor", sum := "4d04ac6e34e3f14e37efa8af8d72c32ee08f786ae2ceaaff2af221df0e92212c", func := "loop.example/g01300/laws.FnExactWorstFind", spec := "fnExactWorstFind", inPlace := ["internal/reflectlite.TypeOf"], unfollowed := true, recurses := true, named := ["loop.example/g01300/impl.errInvalid", "loop.example/g01300/impl.errRange", "loop.example/g01300/impl.errState", "loop.example/g01300/impl.errLimit", "loop.example/g01300/impl.errNotFound"], ifaces := true, leaving := true, apart := false, laid := [("loop.example/g01300/impl.errInvalid", laid_loop_example_g01300_impl_errInvalid), ("loop.example/g01300/impl.errRange", laid_loop_example_g01300_impl_errRange), ("loop.example/g01300/impl.errLimit", laid_loop_example_g01300_impl_errLimit), ("loop.example/g01300/impl.errState", laid_loop_example_g01300_impl_errState), ("loop.example/g01300/impl.errNotFound", laid_loop_example_g01300_impl_errNotFound)] }
def FnExactWorstFindSaid : Prop := fnExactWorstFindRow.holds Tryz.pinned (OpenSpec.ofChange fnExactWorstFindSpec)

/-- ITS FALSE NEIGHBOUR: 'it returns false'. Refute it at one input. -/
def fnExactWorstFindWrong : ChangeSpec := { name := "fnExactWorstFind", vars := ["loop.example/g01300/impl.errInvalid", "loop.example/g01300/impl.errRange", "loop.example/g01300/impl.errState", "loop.example/g01300/impl.errLimit", "loop.example/g01300/impl.errNotFound"], fn := fun _ => fun
  | [d1, d2, d3, d4, g1, g2, g3, g4, g5] => { results := [.lit (.bool false)], args := [d1, d2, d3, d4], vars := [g1, g2, g3, g4, g5] }
  | _ => none }
def FnExactWorstFindWrongFalsely : Prop := fnExactWorstFindRow.holds Tryz.pinned (OpenSpec.ofChange fnExactWorstFindWrong)

/-- 'laws.FnExactBetterMap': WHATEVER THE INPUT: true; the input reads as it did. -/
def fnExactBetterMapSpec : ChangeSpec := { name := "fnExactBetterMap", vars := ["loop.example/g01300/impl.errInvalid", "loop.example/g01300/impl.errRange", "loop.example/g01300/impl.errState", "loop.example/g01300/impl.errLimit", "loop.example/g01300/impl.errNotFound"], fn := fun _ => fun
  | [d1, d2, d3, d4, d5, g1, g2, g3, g4, g5] => { results := [.lit (.bool true)], args := [d1, d2, d3, d4, d5], vars := [g1, g2, g3, g4, g5] }
  | _ => none }
def fnExactBetterMapRow : OpenClaim := { program := "ytefjogahegolbaagreatdoor", sum := "4d04ac6e34e3f14e37efa8af8d72c32ee08f786ae2ceaaff2af221df0e92212c", func := "loop.example/g01300/laws.FnExactBetterMap", spec := "fnExactBetterMap", inPlace := ["internal/reflectlite.TypeOf"], unfollowed := true, recurses := true, named := ["loop.example/g01300/impl.errInvalid", "loop.example/g01300/impl.errRange", "loop.example/g01300/impl.errState", "loop.example/g01300/impl.errLimit", "loop.example/g01300/impl.errNotFound"], ifaces := true, leaving := true, apart := false, laid := [("loop.example/g01300/impl.errInvalid", laid_loop_example_g01300_impl_errInvalid), ("loop.example/g01300/impl.errRange", laid_loop_example_g01300_impl_errRange), ("loop.example/g01300/impl.errLimit", laid_loop_example_g01300_impl_errLimit), ("loop.example/g01300/impl.errState", laid_loop_example_g01300_impl_errState), ("loop.example/g01300/impl.errNotFound", laid_loop_example_g01300_impl_errNotFound)] }
def FnExactBetterMapSaid : Prop := fnExactBetterMapRow.holds Tryz.pinned (OpenSpec.ofChange fnExactBetterMapSpec)

/-- ITS FALSE NEIGHBOUR: 'it returns false'. Refute it at one input. -/
def fnExactBetterMapWrong : ChangeSpec := { name := "fnExactBetterMap", vars := ["loop.example/g01300/impl.errInvalid", "loop.example/g01300/impl.errRange", "loop.example/g01300/impl.errState", "loop.example/g01300/impl.errLimit", "loop.example/g01300/impl.errNotFound"], fn := fun _ => fun
  | [d1, d2, d3, d4, d5, g1, g2, g3, g4, g5] => { results := [.lit (.bool false)], args := [d1, d2, d3, d4, d5], vars := [g1, g2, g3, g4, g5] }
  | _ => none }
def FnExactBetterMapWrongFalsely : Prop := fnExactBetterMapRow.holds Tryz.pinned (OpenSpec.ofChange fnExactBetterMapWrong)

/-- 'laws.FnExactBestRepair': WHATEVER THE INPUT: true; the input reads as it did. -/
def fnExactBestRepairSpec : ChangeSpec := { name := "fnExactBestRepair", vars := ["loop.example/g01300/impl.errInvalid", "loop.example/g01300/impl.errRange", "loop.example/g01300/impl.errState", "loop.example/g01300/impl.errLimit", "loop.example/g01300/impl.errNotFound"], fn := fun _ => fun
  | [d1, d2, d3, d4, d5, g1, g2, g3, g4, g5] => { results := [.lit (.bool true)], args := [d1, d2, d3, d4, d5], vars := [g1, g2, g3, g4, g5] }
  | _ => none }
def fnExactBestRepairRow : OpenClaim := { program := "ytefjogahegolbaagreatdoor", sum := "4d04ac6e34e3f14e37efa8af8d72c32ee08f786ae2ceaaff2af221df0e92212c", func := "loop.example/g01300/laws.FnExactBestRepair", spec := "fnExactBestRepair", inPlace := ["internal/reflectlite.TypeOf"], unfollowed := true, recurses := true, named := ["loop.example/g01300/impl.errInvalid", "loop.example/g01300/impl.errRange", "loop.example/g01300/impl.errState", "loop.example/g01300/impl.errLimit", "loop.example/g01300/impl.errNotFound"], ifaces := true, leaving := true, apart := false, laid := [("loop.example/g01300/impl.errInvalid", laid_loop_example_g01300_impl_errInvalid), ("loop.example/g01300/impl.errRange", laid_loop_example_g01300_impl_errRange), ("loop.example/g01300/impl.errLimit", laid_loop_example_g01300_impl_errLimit), ("loop.example/g01300/impl.errState", laid_loop_example_g01300_impl_errState), ("loop.example/g01300/impl.errNotFound", laid_loop_example_g01300_impl_errNotFound)] }
def FnExactBestRepairSaid : Prop := fnExactBestRepairRow.holds Tryz.pinned (OpenSpec.ofChange fnExactBestRepairSpec)

/-- ITS FALSE NEIGHBOUR: 'it returns false'. Refute it at one input. -/
def fnExactBestRepairWrong : ChangeSpec := { name := "fnExactBestRepair", vars := ["loop.example/g01300/impl.errInvalid", "loop.example/g01300/impl.errRange", "loop.example/g01300/impl.errState", "loop.example/g01300/impl.errLimit", "loop.example/g01300/impl.errNotFound"], fn := fun _ => fun
  | [d1, d2, d3, d4, d5, g1, g2, g3, g4, g5] => { results := [.lit (.bool false)], args := [d1, d2, d3, d4, d5], vars := [g1, g2, g3, g4, g5] }
  | _ => none }
def FnExactBestRepairWrongFalsely : Prop := fnExactBestRepairRow.holds Tryz.pinned (OpenSpec.ofChange fnExactBestRepairWrong)

/-- 'laws.FnExactRepairMap': WHATEVER THE INPUT: true; the input reads as it did. -/
def fnExactRepairMapSpec : ChangeSpec := { name := "fnExactRepairMap", vars := ["loop.example/g01300/impl.errInvalid", "loop.example/g01300/impl.errRange", "loop.example/g01300/impl.errState", "loop.example/g01300/impl.errLimit", "loop.example/g01300/impl.errNotFound"], fn := fun _ => fun
  | [d1, d2, d3, d4, d5, d6, g1, g2, g3, g4, g5] => { results := [.lit (.bool true)], args := [d1, d2, d3, d4, d5, d6], vars := [g1, g2, g3, g4, g5] }
  | _ => none }
def fnExactRepairMapRow : OpenClaim := { program := "ytefjogahegolbaagreatdoor", sum := "4d04ac6e34e3f14e37efa8af8d72c32ee08f786ae2ceaaff2af221df0e92212c", func := "loop.example/g01300/laws.FnExactRepairMap", spec := "fnExactRepairMap", inPlace := ["internal/reflectlite.TypeOf"], unfollowed := true, recurses := true, named := ["loop.example/g01300/impl.errInvalid", "loop.example/g01300/impl.errRange", "loop.example/g01300/impl.errState", "loop.example/g01300/impl.errLimit", "loop.example/g01300/impl.errNotFound"], ifaces := true, leaving := true, apart := false, laid := [("loop.example/g01300/impl.errInvalid", laid_loop_example_g01300_impl_errInvalid), ("loop.example/g01300/impl.errRange", laid_loop_example_g01300_impl_errRange), ("loop.example/g01300/impl.errLimit", laid_loop_example_g01300_impl_errLimit), ("loop.example/g01300/impl.errState", laid_loop_example_g01300_impl_errState), ("loop.example/g01300/impl.errNotFound", laid_loop_example_g01300_impl_errNotFound)] }
def FnExactRepairMapSaid : Prop := fnExactRepairMapRow.holds Tryz.pinned (OpenSpec.ofChange fnExactRepairMapSpec)

/-- ITS FALSE NEIGHBOUR: 'it returns false'. Refute it at one input. -/
def fnExactRepairMapWrong : ChangeSpec := { name := "fnExactRepairMap", vars := ["loop.example/g01300/impl.errInvalid", "loop.example/g01300/impl.errRange", "loop.example/g01300/impl.errState", "loop.example/g01300/impl.errLimit", "loop.example/g01300/impl.errNotFound"], fn := fun _ => fun
  | [d1, d2, d3, d4, d5, d6, g1, g2, g3, g4, g5] => { results := [.lit (.bool false)], args := [d1, d2, d3, d4, d5, d6], vars := [g1, g2, g3, g4, g5] }
  | _ => none }
def FnExactRepairMapWrongFalsely : Prop := fnExactRepairMapRow.holds Tryz.pinned (OpenSpec.ofChange fnExactRepairMapWrong)

/- THE SECOND FORM. 'bulk': how many values and letters a reading holds, each counted each time it is reached (what is shared counts as often as it is met; a slice's spare places count too). A statement '..UptoSaid' is the law's where the arguments, and the package variables that the reading takes, are together of bulk at most 1048576: NARROWER than '..Said'. Prove '..Said' where nothing that the law and all that it calls make is longer than what came in: it says more and counts as full. Else prove '..UptoSaid'. A law counts once. -/
mutual
def uptoBulk {H : Type} : DataW H → Nat
  | .lit (.string bytes) => bytes.length + 1
  | .lit _ => 1
  | .nil => 1
  | .ptr d => uptoBulk d + 1
  | .slice elems spare => uptoBulkAll elems + uptoBulkAll spare + 1
  | .agg parts => uptoBulkAll parts + 1
  | .iface _ d => uptoBulk d + 1
  | .map entries => uptoBulkEntries entries + 1
  | .held _ => 1
def uptoBulkAll {H : Type} : List (DataW H) → Nat
  | [] => 0
  | d :: r => uptoBulk d + uptoBulkAll r
def uptoBulkEntries {H : Type} : List (Lit × DataW H) → Nat
  | [] => 0
  | x :: r => uptoBulkEntry x + uptoBulkEntries r
def uptoBulkEntry {H : Type} : Lit × DataW H → Nat
  | (.string bytes, d) => bytes.length + uptoBulk d + 1
  | (_, d) => uptoBulk d + 1
 end
def uptoSmall : (H : Type) → List (DataW H) → Bool := fun _ ds => decide (uptoBulkAll ds ≤ 1048576)
def OpenSpec.upto (s : _root_.Go.ChangeSpec) : _root_.Go.OpenSpec := { _root_.Go.OpenSpec.ofChange s with cond := some uptoSmall }

/-- 'laws.FnExactScoresOf', WHERE WHAT IT READS IS OF BULK AT MOST 1048576: true; the input reads as it did. -/
def fnExactScoresOfUptoRow : OpenClaim := { program := "ytefjogahegolbaagreatdoor", sum := "4d04ac6e34e3f14e37efa8af8d72c32ee08f786ae2ceaaff2af221df0e92212c", func := "loop.example/g01300/laws.FnExactScoresOf", spec := "fnExactScoresOf", inPlace := ["internal/reflectlite.TypeOf"], unfollowed := true, recurses := true, named := ["loop.example/g01300/impl.errInvalid", "loop.example/g01300/impl.errRange", "loop.example/g01300/impl.errState", "loop.example/g01300/impl.errLimit", "loop.example/g01300/impl.errNotFound"], ifaces := true, leaving := true, apart := false, laid := [("loop.example/g01300/impl.errInvalid", laid_loop_example_g01300_impl_errInvalid), ("loop.example/g01300/impl.errRange", laid_loop_example_g01300_impl_errRange), ("loop.example/g01300/impl.errLimit", laid_loop_example_g01300_impl_errLimit), ("loop.example/g01300/impl.errState", laid_loop_example_g01300_impl_errState), ("loop.example/g01300/impl.errNotFound", laid_loop_example_g01300_impl_errNotFound)], narrowed := true }
def FnExactScoresOfUptoSaid : Prop := fnExactScoresOfUptoRow.holds Tryz.pinned (OpenSpec.upto fnExactScoresOfSpec)

/-- 'laws.FnExactScoreOf', WHERE WHAT IT READS IS OF BULK AT MOST 1048576: true; the input reads as it did. -/
def fnExactScoreOfUptoRow : OpenClaim := { program := "ytefjogahegolbaagreatdoor", sum := "4d04ac6e34e3f14e37efa8af8d72c32ee08f786ae2ceaaff2af221df0e92212c", func := "loop.example/g01300/laws.FnExactScoreOf", spec := "fnExactScoreOf", inPlace := ["internal/reflectlite.TypeOf"], unfollowed := true, recurses := true, named := ["loop.example/g01300/impl.errInvalid", "loop.example/g01300/impl.errRange", "loop.example/g01300/impl.errState", "loop.example/g01300/impl.errLimit", "loop.example/g01300/impl.errNotFound"], ifaces := true, leaving := true, apart := false, laid := [("loop.example/g01300/impl.errInvalid", laid_loop_example_g01300_impl_errInvalid), ("loop.example/g01300/impl.errRange", laid_loop_example_g01300_impl_errRange), ("loop.example/g01300/impl.errLimit", laid_loop_example_g01300_impl_errLimit), ("loop.example/g01300/impl.errState", laid_loop_example_g01300_impl_errState), ("loop.example/g01300/impl.errNotFound", laid_loop_example_g01300_impl_errNotFound)], narrowed := true }
def FnExactScoreOfUptoSaid : Prop := fnExactScoreOfUptoRow.holds Tryz.pinned (OpenSpec.upto fnExactScoreOfSpec)

/-- 'laws.FnExactWorstFind', WHERE WHAT IT READS IS OF BULK AT MOST 1048576: true; the input reads as it did. -/
def fnExactWorstFindUptoRow : OpenClaim := { program := "ytefjogahegolbaagreatdoor", sum := "4d04ac6e34e3f14e37efa8af8d72c32ee08f786ae2ceaaff2af221df0e92212c", func := "loop.example/g01300/laws.FnExactWorstFind", spec := "fnExactWorstFind", inPlace := ["internal/reflectlite.TypeOf"], unfollowed := true, recurses := true, named := ["loop.example/g01300/impl.errInvalid", "loop.example/g01300/impl.errRange", "loop.example/g01300/impl.errState", "loop.example/g01300/impl.errLimit", "loop.example/g01300/impl.errNotFound"], ifaces := true, leaving := true, apart := false, laid := [("loop.example/g01300/impl.errInvalid", laid_loop_example_g01300_impl_errInvalid), ("loop.example/g01300/impl.errRange", laid_loop_example_g01300_impl_errRange), ("loop.example/g01300/impl.errLimit", laid_loop_example_g01300_impl_errLimit), ("loop.example/g01300/impl.errState", laid_loop_example_g01300_impl_errState), ("loop.example/g01300/impl.errNotFound", laid_loop_example_g01300_impl_errNotFound)], narrowed := true }
def FnExactWorstFindUptoSaid : Prop := fnExactWorstFindUptoRow.holds Tryz.pinned (OpenSpec.upto fnExactWorstFindSpec)

/-- 'laws.FnExactBetterMap', WHERE WHAT IT READS IS OF BULK AT MOST 1048576: true; the input reads as it did. -/
def fnExactBetterMapUptoRow : OpenClaim := { program := "ytefjogahegolbaagreatdoor", sum := "4d04ac6e34e3f14e37efa8af8d72c32ee08f786ae2ceaaff2af221df0e92212c", func := "loop.example/g01300/laws.FnExactBetterMap", spec := "fnExactBetterMap", inPlace := ["internal/reflectlite.TypeOf"], unfollowed := true, recurses := true, named := ["loop.example/g01300/impl.errInvalid", "loop.example/g01300/impl.errRange", "loop.example/g01300/impl.errState", "loop.example/g01300/impl.errLimit", "loop.example/g01300/impl.errNotFound"], ifaces := true, leaving := true, apart := false, laid := [("loop.example/g01300/impl.errInvalid", laid_loop_example_g01300_impl_errInvalid), ("loop.example/g01300/impl.errRange", laid_loop_example_g01300_impl_errRange), ("loop.example/g01300/impl.errLimit", laid_loop_example_g01300_impl_errLimit), ("loop.example/g01300/impl.errState", laid_loop_example_g01300_impl_errState), ("loop.example/g01300/impl.errNotFound", laid_loop_example_g01300_impl_errNotFound)], narrowed := true }
def FnExactBetterMapUptoSaid : Prop := fnExactBetterMapUptoRow.holds Tryz.pinned (OpenSpec.upto fnExactBetterMapSpec)

/-- 'laws.FnExactBestRepair', WHERE WHAT IT READS IS OF BULK AT MOST 1048576: true; the input reads as it did. -/
def fnExactBestRepairUptoRow : OpenClaim := { program := "ytefjogahegolbaagreatdoor", sum := "4d04ac6e34e3f14e37efa8af8d72c32ee08f786ae2ceaaff2af221df0e92212c", func := "loop.example/g01300/laws.FnExactBestRepair", spec := "fnExactBestRepair", inPlace := ["internal/reflectlite.TypeOf"], unfollowed := true, recurses := true, named := ["loop.example/g01300/impl.errInvalid", "loop.example/g01300/impl.errRange", "loop.example/g01300/impl.errState", "loop.example/g01300/impl.errLimit", "loop.example/g01300/impl.errNotFound"], ifaces := true, leaving := true, apart := false, laid := [("loop.example/g01300/impl.errInvalid", laid_loop_example_g01300_impl_errInvalid), ("loop.example/g01300/impl.errRange", laid_loop_example_g01300_impl_errRange), ("loop.example/g01300/impl.errLimit", laid_loop_example_g01300_impl_errLimit), ("loop.example/g01300/impl.errState", laid_loop_example_g01300_impl_errState), ("loop.example/g01300/impl.errNotFound", laid_loop_example_g01300_impl_errNotFound)], narrowed := true }
def FnExactBestRepairUptoSaid : Prop := fnExactBestRepairUptoRow.holds Tryz.pinned (OpenSpec.upto fnExactBestRepairSpec)

/-- 'laws.FnExactRepairMap', WHERE WHAT IT READS IS OF BULK AT MOST 1048576: true; the input reads as it did. -/
def fnExactRepairMapUptoRow : OpenClaim := { program := "ytefjogahegolbaagreatdoor", sum := "4d04ac6e34e3f14e37efa8af8d72c32ee08f786ae2ceaaff2af221df0e92212c", func := "loop.example/g01300/laws.FnExactRepairMap", spec := "fnExactRepairMap", inPlace := ["internal/reflectlite.TypeOf"], unfollowed := true, recurses := true, named := ["loop.example/g01300/impl.errInvalid", "loop.example/g01300/impl.errRange", "loop.example/g01300/impl.errState", "loop.example/g01300/impl.errLimit", "loop.example/g01300/impl.errNotFound"], ifaces := true, leaving := true, apart := false, laid := [("loop.example/g01300/impl.errInvalid", laid_loop_example_g01300_impl_errInvalid), ("loop.example/g01300/impl.errRange", laid_loop_example_g01300_impl_errRange), ("loop.example/g01300/impl.errLimit", laid_loop_example_g01300_impl_errLimit), ("loop.example/g01300/impl.errState", laid_loop_example_g01300_impl_errState), ("loop.example/g01300/impl.errNotFound", laid_loop_example_g01300_impl_errNotFound)], narrowed := true }
def FnExactRepairMapUptoSaid : Prop := fnExactRepairMapUptoRow.holds Tryz.pinned (OpenSpec.upto fnExactRepairMapSpec)

end Rows
end Go.Proofs.YtefjogahegolbaaGreatDoor
