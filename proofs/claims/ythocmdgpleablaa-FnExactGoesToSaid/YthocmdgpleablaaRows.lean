/-
  No cell of these rows narrows 'for every input' (looked for: loops, veiled, ifaces, maps, wideKeys, modest, calm, conditions, laid).
  DERIVED. THE GIVEN ROWS OF THIS SEAT. 6 by the template 'for every input the law returns true; each argument reads behind the call as it read before'; 0 by the template 'total and deterministic' (their statements: YthocmdgpleablaaTotals.lean).
  GIVEN WITH THE SEED: the statements are not yours to turn. If you find one false, say at which input.
  Laid BY PROGRAM, IN A SANDBOX (cutbox-rows.mjs): the forced cells as the released guide's own fill.sh prints them over the translation 422a344bc9316541… (all of the seat's roots in one cut). By AI agents, Wed Nov 11 2026. No macro, syntax, notation, axiom, sorry.
-/
import Derived.Test.YthocmdgpleablaaChecked
import GoSem.Claim
import GoSem.ClaimJoined
import GoSem.ClaimMapViews
import Derived.JoinedTies
import Derived.KernelRfl
namespace Go.Proofs.Ythocmdgpleablaa
/- THE CELL 'sum', in the pinned program and in every row, IS THE sha256 OF THE DUMP (.gsa) THAT YthocmdgpleablaaProg.lean LOADS. Nothing in Lean hashes anything: it is a label: what it is worth is what the hold of that sum in a sandbox is worth. -/
noncomputable def Try.pinned : Pinned := { name := "ythocmdgpleablaa", sum := "422a344bc931654184e0f0ba14e5584331974435c394dca7f44470de661f38a6", checked := Try.checked }
namespace Rows
def none {H : Type} : Left H := { results := [], args := [] }

/-- 'laws.FnExactGoesTo': WHATEVER THE INPUT: true; the input reads as it did. -/
def fnExactGoesToSpec : ChangeSpec := { name := "fnExactGoesTo", fn := fun _ => fun
  | [d1, d2, d3] => { results := [.lit (.bool true)], args := [d1, d2, d3] }
  | _ => none }
def fnExactGoesToRow : OpenClaim := { program := "ythocmdgpleablaa", sum := "422a344bc931654184e0f0ba14e5584331974435c394dca7f44470de661f38a6", func := "loop.example/g01300/laws.FnExactGoesTo", spec := "fnExactGoesTo", unfollowed := true, recurses := true, apart := false }
def FnExactGoesToSaid : Prop := fnExactGoesToRow.holds Try.pinned (OpenSpec.ofChange fnExactGoesToSpec)

/-- ITS FALSE NEIGHBOUR: 'it returns false'. Refute it at one input. -/
def fnExactGoesToWrong : ChangeSpec := { name := "fnExactGoesTo", fn := fun _ => fun
  | [d1, d2, d3] => { results := [.lit (.bool false)], args := [d1, d2, d3] }
  | _ => none }
def FnExactGoesToWrongFalsely : Prop := fnExactGoesToRow.holds Try.pinned (OpenSpec.ofChange fnExactGoesToWrong)

/-- 'laws.FnExactCellsOf': WHATEVER THE INPUT: true; the input reads as it did. -/
def fnExactCellsOfSpec : ChangeSpec := { name := "fnExactCellsOf", fn := fun _ => fun
  | [d] => { results := [.lit (.bool true)], args := [d] }
  | _ => none }
def fnExactCellsOfRow : OpenClaim := { program := "ythocmdgpleablaa", sum := "422a344bc931654184e0f0ba14e5584331974435c394dca7f44470de661f38a6", func := "loop.example/g01300/laws.FnExactCellsOf", spec := "fnExactCellsOf", unfollowed := true, recurses := true, apart := false }
def FnExactCellsOfSaid : Prop := fnExactCellsOfRow.holds Try.pinned (OpenSpec.ofChange fnExactCellsOfSpec)

/-- ITS FALSE NEIGHBOUR: 'it returns false'. Refute it at one input. -/
def fnExactCellsOfWrong : ChangeSpec := { name := "fnExactCellsOf", fn := fun _ => fun
  | [d] => { results := [.lit (.bool false)], args := [d] }
  | _ => none }
def FnExactCellsOfWrongFalsely : Prop := fnExactCellsOfRow.holds Try.pinned (OpenSpec.ofChange fnExactCellsOfWrong)

/-- 'laws.FnExactWaterOf': WHATEVER THE INPUT: true; the input reads as it did. -/
def fnExactWaterOfSpec : ChangeSpec := { name := "fnExactWaterOf", fn := fun _ => fun
  | [d] => { results := [.lit (.bool true)], args := [d] }
  | _ => none }
def fnExactWaterOfRow : OpenClaim := { program := "ythocmdgpleablaa", sum := "422a344bc931654184e0f0ba14e5584331974435c394dca7f44470de661f38a6", func := "loop.example/g01300/laws.FnExactWaterOf", spec := "fnExactWaterOf", unfollowed := true, recurses := true, apart := false }
def FnExactWaterOfSaid : Prop := fnExactWaterOfRow.holds Try.pinned (OpenSpec.ofChange fnExactWaterOfSpec)

/-- ITS FALSE NEIGHBOUR: 'it returns false'. Refute it at one input. -/
def fnExactWaterOfWrong : ChangeSpec := { name := "fnExactWaterOf", fn := fun _ => fun
  | [d] => { results := [.lit (.bool false)], args := [d] }
  | _ => none }
def FnExactWaterOfWrongFalsely : Prop := fnExactWaterOfRow.holds Try.pinned (OpenSpec.ofChange fnExactWaterOfWrong)

/-- 'laws.FnExactBeachesOf': WHATEVER THE INPUT: true; the input reads as it did. -/
def fnExactBeachesOfSpec : ChangeSpec := { name := "fnExactBeachesOf", fn := fun _ => fun
  | [d] => { results := [.lit (.bool true)], args := [d] }
  | _ => none }
def fnExactBeachesOfRow : OpenClaim := { program := "ythocmdgpleablaa", sum := "422a344bc931654184e0f0ba14e5584331974435c394dca7f44470de661f38a6", func := "loop.example/g01300/laws.FnExactBeachesOf", spec := "fnExactBeachesOf", unfollowed := true, recurses := true, apart := false }
def FnExactBeachesOfSaid : Prop := fnExactBeachesOfRow.holds Try.pinned (OpenSpec.ofChange fnExactBeachesOfSpec)

/-- ITS FALSE NEIGHBOUR: 'it returns false'. Refute it at one input. -/
def fnExactBeachesOfWrong : ChangeSpec := { name := "fnExactBeachesOf", fn := fun _ => fun
  | [d] => { results := [.lit (.bool false)], args := [d] }
  | _ => none }
def FnExactBeachesOfWrongFalsely : Prop := fnExactBeachesOfRow.holds Try.pinned (OpenSpec.ofChange fnExactBeachesOfWrong)

/-- 'laws.FnExactCoastOf': WHATEVER THE INPUT: true; the input reads as it did. -/
def fnExactCoastOfSpec : ChangeSpec := { name := "fnExactCoastOf", fn := fun _ => fun
  | [d] => { results := [.lit (.bool true)], args := [d] }
  | _ => none }
def fnExactCoastOfRow : OpenClaim := { program := "ythocmdgpleablaa", sum := "422a344bc931654184e0f0ba14e5584331974435c394dca7f44470de661f38a6", func := "loop.example/g01300/laws.FnExactCoastOf", spec := "fnExactCoastOf", unfollowed := true, recurses := true, apart := false }
def FnExactCoastOfSaid : Prop := fnExactCoastOfRow.holds Try.pinned (OpenSpec.ofChange fnExactCoastOfSpec)

/-- ITS FALSE NEIGHBOUR: 'it returns false'. Refute it at one input. -/
def fnExactCoastOfWrong : ChangeSpec := { name := "fnExactCoastOf", fn := fun _ => fun
  | [d] => { results := [.lit (.bool false)], args := [d] }
  | _ => none }
def FnExactCoastOfWrongFalsely : Prop := fnExactCoastOfRow.holds Try.pinned (OpenSpec.ofChange fnExactCoastOfWrong)

/-- 'laws.FnExactWithChances': WHATEVER THE INPUT: true; the input reads as it did. -/
def fnExactWithChancesSpec : ChangeSpec := { name := "fnExactWithChances", fn := fun _ => fun
  | [d1, d2, d3, d4] => { results := [.lit (.bool true)], args := [d1, d2, d3, d4] }
  | _ => none }
def fnExactWithChancesRow : OpenClaim := { program := "ythocmdgpleablaa", sum := "422a344bc931654184e0f0ba14e5584331974435c394dca7f44470de661f38a6", func := "loop.example/g01300/laws.FnExactWithChances", spec := "fnExactWithChances", unfollowed := true, recurses := true, apart := false }
def FnExactWithChancesSaid : Prop := fnExactWithChancesRow.holds Try.pinned (OpenSpec.ofChange fnExactWithChancesSpec)

/-- ITS FALSE NEIGHBOUR: 'it returns false'. Refute it at one input. -/
def fnExactWithChancesWrong : ChangeSpec := { name := "fnExactWithChances", fn := fun _ => fun
  | [d1, d2, d3, d4] => { results := [.lit (.bool false)], args := [d1, d2, d3, d4] }
  | _ => none }
def FnExactWithChancesWrongFalsely : Prop := fnExactWithChancesRow.holds Try.pinned (OpenSpec.ofChange fnExactWithChancesWrong)

/- THE SECOND FORM. 'bulk': how many values and letters a reading holds, each counted each time it is reached (what is shared counts as often as it is met; a slice's spare places count too). A statement '..UptoSaid' is the law's where the arguments, and the package variables that the reading takes, are together of bulk at most 1048576: NARROWER than '..Said'. Prove '..Said' where nothing that the law and all that it calls make is longer than what came in: it says more and counts as full. Else prove '..UptoSaid'. A law counts once. -/
mutual
def uptoBulk {H : Type} : DataW H → Nat
  | .lit (.string bytes) => bytes.length + 1
  | .lit _ => 1
  | .nil => 1
  | .ptr d => uptoBulk d + 1
  | .slice elems spare => uptoBulkAll elems + uptoBulkAll spare + 1
  | .agg parts => uptoBulkAll parts + 1
  | .iface _ d => uptoBulk d + 1
  | .map entries => uptoBulkEntries entries + 1
  | .held _ => 1
def uptoBulkAll {H : Type} : List (DataW H) → Nat
  | [] => 0
  | d :: r => uptoBulk d + uptoBulkAll r
def uptoBulkEntries {H : Type} : List (Lit × DataW H) → Nat
  | [] => 0
  | x :: r => uptoBulkEntry x + uptoBulkEntries r
def uptoBulkEntry {H : Type} : Lit × DataW H → Nat
  | (.string bytes, d) => bytes.length + uptoBulk d + 1
  | (_, d) => uptoBulk d + 1
 end
def uptoSmall : (H : Type) → List (DataW H) → Bool := fun _ ds => decide (uptoBulkAll ds ≤ 1048576)
def OpenSpec.upto (s : _root_.Go.ChangeSpec) : _root_.Go.OpenSpec := { _root_.Go.OpenSpec.ofChange s with cond := some uptoSmall }

/-- 'laws.FnExactGoesTo', WHERE WHAT IT READS IS OF BULK AT MOST 1048576: true; the input reads as it did. -/
def fnExactGoesToUptoRow : OpenClaim := { program := "ythocmdgpleablaa", sum := "422a344bc931654184e0f0ba14e5584331974435c394dca7f44470de661f38a6", func := "loop.example/g01300/laws.FnExactGoesTo", spec := "fnExactGoesTo", unfollowed := true, recurses := true, apart := false, narrowed := true }
def FnExactGoesToUptoSaid : Prop := fnExactGoesToUptoRow.holds Try.pinned (OpenSpec.upto fnExactGoesToSpec)

/-- 'laws.FnExactCellsOf', WHERE WHAT IT READS IS OF BULK AT MOST 1048576: true; the input reads as it did. -/
def fnExactCellsOfUptoRow : OpenClaim := { program := "ythocmdgpleablaa", sum := "422a344bc931654184e0f0ba14e5584331974435c394dca7f44470de661f38a6", func := "loop.example/g01300/laws.FnExactCellsOf", spec := "fnExactCellsOf", unfollowed := true, recurses := true, apart := false, narrowed := true }
def FnExactCellsOfUptoSaid : Prop := fnExactCellsOfUptoRow.holds Try.pinned (OpenSpec.upto fnExactCellsOfSpec)

/-- 'laws.FnExactWaterOf', WHERE WHAT IT READS IS OF BULK AT MOST 1048576: true; the input reads as it did. -/
def fnExactWaterOfUptoRow : OpenClaim := { program := "ythocmdgpleablaa", sum := "422a344bc931654184e0f0ba14e5584331974435c394dca7f44470de661f38a6", func := "loop.example/g01300/laws.FnExactWaterOf", spec := "fnExactWaterOf", unfollowed := true, recurses := true, apart := false, narrowed := true }
def FnExactWaterOfUptoSaid : Prop := fnExactWaterOfUptoRow.holds Try.pinned (OpenSpec.upto fnExactWaterOfSpec)

/-- 'laws.FnExactBeachesOf', WHERE WHAT IT READS IS OF BULK AT MOST 1048576: true; the input reads as it did. -/
def fnExactBeachesOfUptoRow : OpenClaim := { program := "ythocmdgpleablaa", sum := "422a344bc931654184e0f0ba14e5584331974435c394dca7f44470de661f38a6", func := "loop.example/g01300/laws.FnExactBeachesOf", spec := "fnExactBeachesOf", unfollowed := true, recurses := true, apart := false, narrowed := true }
def FnExactBeachesOfUptoSaid : Prop := fnExactBeachesOfUptoRow.holds Try.pinned (OpenSpec.upto fnExactBeachesOfSpec)

/-- 'laws.FnExactCoastOf', WHERE WHAT IT READS IS OF BULK AT MOST 1048576: true; the input reads as it did. -/
def fnExactCoastOfUptoRow : OpenClaim := { program := "ythocmdgpleablaa", sum := "422a344bc931654184e0f0ba14e5584331974435c394dca7f44470de661f38a6", func := "loop.example/g01300/laws.FnExactCoastOf", spec := "fnExactCoastOf", unfollowed := true, recurses := true, apart := false, narrowed := true }
def FnExactCoastOfUptoSaid : Prop := fnExactCoastOfUptoRow.holds Try.pinned (OpenSpec.upto fnExactCoastOfSpec)

/-- 'laws.FnExactWithChances', WHERE WHAT IT READS IS OF BULK AT MOST 1048576: true; the input reads as it did. -/
def fnExactWithChancesUptoRow : OpenClaim := { program := "ythocmdgpleablaa", sum := "422a344bc931654184e0f0ba14e5584331974435c394dca7f44470de661f38a6", func := "loop.example/g01300/laws.FnExactWithChances", spec := "fnExactWithChances", unfollowed := true, recurses := true, apart := false, narrowed := true }
def FnExactWithChancesUptoSaid : Prop := fnExactWithChancesUptoRow.holds Try.pinned (OpenSpec.upto fnExactWithChancesSpec)

end Rows
end Go.Proofs.Ythocmdgpleablaa
