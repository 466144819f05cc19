/-
  No cell of these rows narrows 'for every input' (looked for: loops, veiled, ifaces, maps, wideKeys, modest, calm, conditions, laid).
  DERIVED. THE GIVEN ROWS OF THIS SEAT. 12 by the template 'for every input the law returns true; each argument reads behind the call as it read before'; 0 by the template 'total and deterministic' (their statements: YtafmhcdelokmbaaTotals.lean).
  GIVEN WITH THE SEED: the statements are not yours to turn. If you find one false, say at which input.
  Laid BY PROGRAM, IN A SANDBOX (cutbox-rows.mjs): the forced cells as the released guide's own fill.sh prints them over the translation 429395229cd7d4ac… (all of the seat's roots in one cut). By AI agents, Wed Nov 11 2026. No macro, syntax, notation, axiom, sorry.
-/
import Derived.Test.YtafmhcdelokmbaaChecked
import GoSem.Claim
import GoSem.ClaimJoined
import GoSem.ClaimMapViews
import Derived.JoinedTies
import Derived.KernelRfl
namespace Go.Proofs.Ytafmhcdelokmbaa
/- THE CELL 'sum', in the pinned program and in every row, IS THE sha256 OF THE DUMP (.gsa) THAT YtafmhcdelokmbaaProg.lean LOADS. Nothing in Lean hashes anything: it is a label: what it is worth is what the hold of that sum in a sandbox is worth. -/
noncomputable def Try.pinned : Pinned := { name := "ytafmhcdelokmbaa", sum := "429395229cd7d4ac63240d39fab49c9a7df1558b038586a4bf8229497ab6126c", checked := Try.checked }
namespace Rows
def none {H : Type} : Left H := { results := [], args := [] }

/-- 'laws.FnExactStillSea': WHATEVER THE INPUT: true; the input reads as it did. -/
def fnExactStillSeaSpec : ChangeSpec := { name := "fnExactStillSea", fn := fun _ => fun
  | [d1, d2, d3] => { results := [.lit (.bool true)], args := [d1, d2, d3] }
  | _ => none }
def fnExactStillSeaRow : OpenClaim := { program := "ytafmhcdelokmbaa", sum := "429395229cd7d4ac63240d39fab49c9a7df1558b038586a4bf8229497ab6126c", func := "loop.example/g01300/laws.FnExactStillSea", spec := "fnExactStillSea", unfollowed := true, recurses := true, apart := false }
def FnExactStillSeaSaid : Prop := fnExactStillSeaRow.holds Try.pinned (OpenSpec.ofChange fnExactStillSeaSpec)

/-- ITS FALSE NEIGHBOUR: 'it returns false'. Refute it at one input. -/
def fnExactStillSeaWrong : ChangeSpec := { name := "fnExactStillSea", fn := fun _ => fun
  | [d1, d2, d3] => { results := [.lit (.bool false)], args := [d1, d2, d3] }
  | _ => none }
def FnExactStillSeaWrongFalsely : Prop := fnExactStillSeaRow.holds Try.pinned (OpenSpec.ofChange fnExactStillSeaWrong)

/-- 'laws.FnExactWithCurrent': WHATEVER THE INPUT: true; the input reads as it did. -/
def fnExactWithCurrentSpec : ChangeSpec := { name := "fnExactWithCurrent", fn := fun _ => fun
  | [d1, d2, d3] => { results := [.lit (.bool true)], args := [d1, d2, d3] }
  | _ => none }
def fnExactWithCurrentRow : OpenClaim := { program := "ytafmhcdelokmbaa", sum := "429395229cd7d4ac63240d39fab49c9a7df1558b038586a4bf8229497ab6126c", func := "loop.example/g01300/laws.FnExactWithCurrent", spec := "fnExactWithCurrent", unfollowed := true, recurses := true, apart := false }
def FnExactWithCurrentSaid : Prop := fnExactWithCurrentRow.holds Try.pinned (OpenSpec.ofChange fnExactWithCurrentSpec)

/-- ITS FALSE NEIGHBOUR: 'it returns false'. Refute it at one input. -/
def fnExactWithCurrentWrong : ChangeSpec := { name := "fnExactWithCurrent", fn := fun _ => fun
  | [d1, d2, d3] => { results := [.lit (.bool false)], args := [d1, d2, d3] }
  | _ => none }
def FnExactWithCurrentWrongFalsely : Prop := fnExactWithCurrentRow.holds Try.pinned (OpenSpec.ofChange fnExactWithCurrentWrong)

/-- 'laws.FnExactMirrorSea': WHATEVER THE INPUT: true; the input reads as it did. -/
def fnExactMirrorSeaSpec : ChangeSpec := { name := "fnExactMirrorSea", fn := fun _ => fun
  | [d] => { results := [.lit (.bool true)], args := [d] }
  | _ => none }
def fnExactMirrorSeaRow : OpenClaim := { program := "ytafmhcdelokmbaa", sum := "429395229cd7d4ac63240d39fab49c9a7df1558b038586a4bf8229497ab6126c", func := "loop.example/g01300/laws.FnExactMirrorSea", spec := "fnExactMirrorSea", unfollowed := true, recurses := true, apart := false }
def FnExactMirrorSeaSaid : Prop := fnExactMirrorSeaRow.holds Try.pinned (OpenSpec.ofChange fnExactMirrorSeaSpec)

/-- ITS FALSE NEIGHBOUR: 'it returns false'. Refute it at one input. -/
def fnExactMirrorSeaWrong : ChangeSpec := { name := "fnExactMirrorSea", fn := fun _ => fun
  | [d] => { results := [.lit (.bool false)], args := [d] }
  | _ => none }
def FnExactMirrorSeaWrongFalsely : Prop := fnExactMirrorSeaRow.holds Try.pinned (OpenSpec.ofChange fnExactMirrorSeaWrong)

/-- 'laws.FnExactMeanFlow': WHATEVER THE INPUT: true; the input reads as it did. -/
def fnExactMeanFlowSpec : ChangeSpec := { name := "fnExactMeanFlow", fn := fun _ => fun
  | [d1, d2] => { results := [.lit (.bool true)], args := [d1, d2] }
  | _ => none }
def fnExactMeanFlowRow : OpenClaim := { program := "ytafmhcdelokmbaa", sum := "429395229cd7d4ac63240d39fab49c9a7df1558b038586a4bf8229497ab6126c", func := "loop.example/g01300/laws.FnExactMeanFlow", spec := "fnExactMeanFlow", unfollowed := true, recurses := true, apart := false }
def FnExactMeanFlowSaid : Prop := fnExactMeanFlowRow.holds Try.pinned (OpenSpec.ofChange fnExactMeanFlowSpec)

/-- ITS FALSE NEIGHBOUR: 'it returns false'. Refute it at one input. -/
def fnExactMeanFlowWrong : ChangeSpec := { name := "fnExactMeanFlow", fn := fun _ => fun
  | [d1, d2] => { results := [.lit (.bool false)], args := [d1, d2] }
  | _ => none }
def FnExactMeanFlowWrongFalsely : Prop := fnExactMeanFlowRow.holds Try.pinned (OpenSpec.ofChange fnExactMeanFlowWrong)

/-- 'laws.FnExactDifferAt': WHATEVER THE INPUT: true; the input reads as it did. -/
def fnExactDifferAtSpec : ChangeSpec := { name := "fnExactDifferAt", fn := fun _ => fun
  | [d1, d2] => { results := [.lit (.bool true)], args := [d1, d2] }
  | _ => none }
def fnExactDifferAtRow : OpenClaim := { program := "ytafmhcdelokmbaa", sum := "429395229cd7d4ac63240d39fab49c9a7df1558b038586a4bf8229497ab6126c", func := "loop.example/g01300/laws.FnExactDifferAt", spec := "fnExactDifferAt", unfollowed := true, recurses := true, apart := false }
def FnExactDifferAtSaid : Prop := fnExactDifferAtRow.holds Try.pinned (OpenSpec.ofChange fnExactDifferAtSpec)

/-- ITS FALSE NEIGHBOUR: 'it returns false'. Refute it at one input. -/
def fnExactDifferAtWrong : ChangeSpec := { name := "fnExactDifferAt", fn := fun _ => fun
  | [d1, d2] => { results := [.lit (.bool false)], args := [d1, d2] }
  | _ => none }
def FnExactDifferAtWrongFalsely : Prop := fnExactDifferAtRow.holds Try.pinned (OpenSpec.ofChange fnExactDifferAtWrong)

/-- 'laws.FnExactSpreadOver': WHATEVER THE INPUT: true; the input reads as it did. -/
def fnExactSpreadOverSpec : ChangeSpec := { name := "fnExactSpreadOver", fn := fun _ => fun
  | [d1, d2, d3] => { results := [.lit (.bool true)], args := [d1, d2, d3] }
  | _ => none }
def fnExactSpreadOverRow : OpenClaim := { program := "ytafmhcdelokmbaa", sum := "429395229cd7d4ac63240d39fab49c9a7df1558b038586a4bf8229497ab6126c", func := "loop.example/g01300/laws.FnExactSpreadOver", spec := "fnExactSpreadOver", unfollowed := true, recurses := true, apart := false }
def FnExactSpreadOverSaid : Prop := fnExactSpreadOverRow.holds Try.pinned (OpenSpec.ofChange fnExactSpreadOverSpec)

/-- ITS FALSE NEIGHBOUR: 'it returns false'. Refute it at one input. -/
def fnExactSpreadOverWrong : ChangeSpec := { name := "fnExactSpreadOver", fn := fun _ => fun
  | [d1, d2, d3] => { results := [.lit (.bool false)], args := [d1, d2, d3] }
  | _ => none }
def FnExactSpreadOverWrongFalsely : Prop := fnExactSpreadOverRow.holds Try.pinned (OpenSpec.ofChange fnExactSpreadOverWrong)

/-- 'laws.FnExactLikeliestCell': WHATEVER THE INPUT: true; the input reads as it did. -/
def fnExactLikeliestCellSpec : ChangeSpec := { name := "fnExactLikeliestCell", fn := fun _ => fun
  | [d1, d2] => { results := [.lit (.bool true)], args := [d1, d2] }
  | _ => none }
def fnExactLikeliestCellRow : OpenClaim := { program := "ytafmhcdelokmbaa", sum := "429395229cd7d4ac63240d39fab49c9a7df1558b038586a4bf8229497ab6126c", func := "loop.example/g01300/laws.FnExactLikeliestCell", spec := "fnExactLikeliestCell", unfollowed := true, recurses := true, apart := false }
def FnExactLikeliestCellSaid : Prop := fnExactLikeliestCellRow.holds Try.pinned (OpenSpec.ofChange fnExactLikeliestCellSpec)

/-- ITS FALSE NEIGHBOUR: 'it returns false'. Refute it at one input. -/
def fnExactLikeliestCellWrong : ChangeSpec := { name := "fnExactLikeliestCell", fn := fun _ => fun
  | [d1, d2] => { results := [.lit (.bool false)], args := [d1, d2] }
  | _ => none }
def FnExactLikeliestCellWrongFalsely : Prop := fnExactLikeliestCellRow.holds Try.pinned (OpenSpec.ofChange fnExactLikeliestCellWrong)

/-- 'laws.FnExactMeanPlace': WHATEVER THE INPUT: true; the input reads as it did. -/
def fnExactMeanPlaceSpec : ChangeSpec := { name := "fnExactMeanPlace", fn := fun _ => fun
  | [d1, d2] => { results := [.lit (.bool true)], args := [d1, d2] }
  | _ => none }
def fnExactMeanPlaceRow : OpenClaim := { program := "ytafmhcdelokmbaa", sum := "429395229cd7d4ac63240d39fab49c9a7df1558b038586a4bf8229497ab6126c", func := "loop.example/g01300/laws.FnExactMeanPlace", spec := "fnExactMeanPlace", unfollowed := true, recurses := true, apart := false }
def FnExactMeanPlaceSaid : Prop := fnExactMeanPlaceRow.holds Try.pinned (OpenSpec.ofChange fnExactMeanPlaceSpec)

/-- ITS FALSE NEIGHBOUR: 'it returns false'. Refute it at one input. -/
def fnExactMeanPlaceWrong : ChangeSpec := { name := "fnExactMeanPlace", fn := fun _ => fun
  | [d1, d2] => { results := [.lit (.bool false)], args := [d1, d2] }
  | _ => none }
def FnExactMeanPlaceWrongFalsely : Prop := fnExactMeanPlaceRow.holds Try.pinned (OpenSpec.ofChange fnExactMeanPlaceWrong)

/-- 'laws.FnExactDriftBottle': WHATEVER THE INPUT: true; the input reads as it did. -/
def fnExactDriftBottleSpec : ChangeSpec := { name := "fnExactDriftBottle", fn := fun _ => fun
  | [d1, d2, d3, d4, d5] => { results := [.lit (.bool true)], args := [d1, d2, d3, d4, d5] }
  | _ => none }
def fnExactDriftBottleRow : OpenClaim := { program := "ytafmhcdelokmbaa", sum := "429395229cd7d4ac63240d39fab49c9a7df1558b038586a4bf8229497ab6126c", func := "loop.example/g01300/laws.FnExactDriftBottle", spec := "fnExactDriftBottle", unfollowed := true, recurses := true, apart := false }
def FnExactDriftBottleSaid : Prop := fnExactDriftBottleRow.holds Try.pinned (OpenSpec.ofChange fnExactDriftBottleSpec)

/-- ITS FALSE NEIGHBOUR: 'it returns false'. Refute it at one input. -/
def fnExactDriftBottleWrong : ChangeSpec := { name := "fnExactDriftBottle", fn := fun _ => fun
  | [d1, d2, d3, d4, d5] => { results := [.lit (.bool false)], args := [d1, d2, d3, d4, d5] }
  | _ => none }
def FnExactDriftBottleWrongFalsely : Prop := fnExactDriftBottleRow.holds Try.pinned (OpenSpec.ofChange fnExactDriftBottleWrong)

/-- 'laws.FnExactCountDrifts': WHATEVER THE INPUT: true; the input reads as it did. -/
def fnExactCountDriftsSpec : ChangeSpec := { name := "fnExactCountDrifts", fn := fun _ => fun
  | [d1, d2, d3, d4, d5, d6] => { results := [.lit (.bool true)], args := [d1, d2, d3, d4, d5, d6] }
  | _ => none }
def fnExactCountDriftsRow : OpenClaim := { program := "ytafmhcdelokmbaa", sum := "429395229cd7d4ac63240d39fab49c9a7df1558b038586a4bf8229497ab6126c", func := "loop.example/g01300/laws.FnExactCountDrifts", spec := "fnExactCountDrifts", unfollowed := true, recurses := true, apart := false }
def FnExactCountDriftsSaid : Prop := fnExactCountDriftsRow.holds Try.pinned (OpenSpec.ofChange fnExactCountDriftsSpec)

/-- ITS FALSE NEIGHBOUR: 'it returns false'. Refute it at one input. -/
def fnExactCountDriftsWrong : ChangeSpec := { name := "fnExactCountDrifts", fn := fun _ => fun
  | [d1, d2, d3, d4, d5, d6] => { results := [.lit (.bool false)], args := [d1, d2, d3, d4, d5, d6] }
  | _ => none }
def FnExactCountDriftsWrongFalsely : Prop := fnExactCountDriftsRow.holds Try.pinned (OpenSpec.ofChange fnExactCountDriftsWrong)

/-- 'laws.FnExactFirstBeach': WHATEVER THE INPUT: true; the input reads as it did. -/
def fnExactFirstBeachSpec : ChangeSpec := { name := "fnExactFirstBeach", fn := fun _ => fun
  | [d1, d2] => { results := [.lit (.bool true)], args := [d1, d2] }
  | _ => none }
def fnExactFirstBeachRow : OpenClaim := { program := "ytafmhcdelokmbaa", sum := "429395229cd7d4ac63240d39fab49c9a7df1558b038586a4bf8229497ab6126c", func := "loop.example/g01300/laws.FnExactFirstBeach", spec := "fnExactFirstBeach", unfollowed := true, recurses := true, apart := false }
def FnExactFirstBeachSaid : Prop := fnExactFirstBeachRow.holds Try.pinned (OpenSpec.ofChange fnExactFirstBeachSpec)

/-- ITS FALSE NEIGHBOUR: 'it returns false'. Refute it at one input. -/
def fnExactFirstBeachWrong : ChangeSpec := { name := "fnExactFirstBeach", fn := fun _ => fun
  | [d1, d2] => { results := [.lit (.bool false)], args := [d1, d2] }
  | _ => none }
def FnExactFirstBeachWrongFalsely : Prop := fnExactFirstBeachRow.holds Try.pinned (OpenSpec.ofChange fnExactFirstBeachWrong)

/-- 'laws.FnExactValidFinds': WHATEVER THE INPUT: true; the input reads as it did. -/
def fnExactValidFindsSpec : ChangeSpec := { name := "fnExactValidFinds", fn := fun _ => fun
  | [d1, d2] => { results := [.lit (.bool true)], args := [d1, d2] }
  | _ => none }
def fnExactValidFindsRow : OpenClaim := { program := "ytafmhcdelokmbaa", sum := "429395229cd7d4ac63240d39fab49c9a7df1558b038586a4bf8229497ab6126c", func := "loop.example/g01300/laws.FnExactValidFinds", spec := "fnExactValidFinds", unfollowed := true, recurses := true, apart := false }
def FnExactValidFindsSaid : Prop := fnExactValidFindsRow.holds Try.pinned (OpenSpec.ofChange fnExactValidFindsSpec)

/-- ITS FALSE NEIGHBOUR: 'it returns false'. Refute it at one input. -/
def fnExactValidFindsWrong : ChangeSpec := { name := "fnExactValidFinds", fn := fun _ => fun
  | [d1, d2] => { results := [.lit (.bool false)], args := [d1, d2] }
  | _ => none }
def FnExactValidFindsWrongFalsely : Prop := fnExactValidFindsRow.holds Try.pinned (OpenSpec.ofChange fnExactValidFindsWrong)

/- THE SECOND FORM. 'bulk': how many values and letters a reading holds, each counted each time it is reached (what is shared counts as often as it is met; a slice's spare places count too). A statement '..UptoSaid' is the law's where the arguments, and the package variables that the reading takes, are together of bulk at most 1048576: NARROWER than '..Said'. Prove '..Said' where nothing that the law and all that it calls make is longer than what came in: it says more and counts as full. Else prove '..UptoSaid'. A law counts once. -/
mutual
def uptoBulk {H : Type} : DataW H → Nat
  | .lit (.string bytes) => bytes.length + 1
  | .lit _ => 1
  | .nil => 1
  | .ptr d => uptoBulk d + 1
  | .slice elems spare => uptoBulkAll elems + uptoBulkAll spare + 1
  | .agg parts => uptoBulkAll parts + 1
  | .iface _ d => uptoBulk d + 1
  | .map entries => uptoBulkEntries entries + 1
  | .held _ => 1
def uptoBulkAll {H : Type} : List (DataW H) → Nat
  | [] => 0
  | d :: r => uptoBulk d + uptoBulkAll r
def uptoBulkEntries {H : Type} : List (Lit × DataW H) → Nat
  | [] => 0
  | x :: r => uptoBulkEntry x + uptoBulkEntries r
def uptoBulkEntry {H : Type} : Lit × DataW H → Nat
  | (.string bytes, d) => bytes.length + uptoBulk d + 1
  | (_, d) => uptoBulk d + 1
 end
def uptoSmall : (H : Type) → List (DataW H) → Bool := fun _ ds => decide (uptoBulkAll ds ≤ 1048576)
def OpenSpec.upto (s : _root_.Go.ChangeSpec) : _root_.Go.OpenSpec := { _root_.Go.OpenSpec.ofChange s with cond := some uptoSmall }

/-- 'laws.FnExactStillSea', WHERE WHAT IT READS IS OF BULK AT MOST 1048576: true; the input reads as it did. -/
def fnExactStillSeaUptoRow : OpenClaim := { program := "ytafmhcdelokmbaa", sum := "429395229cd7d4ac63240d39fab49c9a7df1558b038586a4bf8229497ab6126c", func := "loop.example/g01300/laws.FnExactStillSea", spec := "fnExactStillSea", unfollowed := true, recurses := true, apart := false, narrowed := true }
def FnExactStillSeaUptoSaid : Prop := fnExactStillSeaUptoRow.holds Try.pinned (OpenSpec.upto fnExactStillSeaSpec)

/-- 'laws.FnExactWithCurrent', WHERE WHAT IT READS IS OF BULK AT MOST 1048576: true; the input reads as it did. -/
def fnExactWithCurrentUptoRow : OpenClaim := { program := "ytafmhcdelokmbaa", sum := "429395229cd7d4ac63240d39fab49c9a7df1558b038586a4bf8229497ab6126c", func := "loop.example/g01300/laws.FnExactWithCurrent", spec := "fnExactWithCurrent", unfollowed := true, recurses := true, apart := false, narrowed := true }
def FnExactWithCurrentUptoSaid : Prop := fnExactWithCurrentUptoRow.holds Try.pinned (OpenSpec.upto fnExactWithCurrentSpec)

/-- 'laws.FnExactMirrorSea', WHERE WHAT IT READS IS OF BULK AT MOST 1048576: true; the input reads as it did. -/
def fnExactMirrorSeaUptoRow : OpenClaim := { program := "ytafmhcdelokmbaa", sum := "429395229cd7d4ac63240d39fab49c9a7df1558b038586a4bf8229497ab6126c", func := "loop.example/g01300/laws.FnExactMirrorSea", spec := "fnExactMirrorSea", unfollowed := true, recurses := true, apart := false, narrowed := true }
def FnExactMirrorSeaUptoSaid : Prop := fnExactMirrorSeaUptoRow.holds Try.pinned (OpenSpec.upto fnExactMirrorSeaSpec)

/-- 'laws.FnExactMeanFlow', WHERE WHAT IT READS IS OF BULK AT MOST 1048576: true; the input reads as it did. -/
def fnExactMeanFlowUptoRow : OpenClaim := { program := "ytafmhcdelokmbaa", sum := "429395229cd7d4ac63240d39fab49c9a7df1558b038586a4bf8229497ab6126c", func := "loop.example/g01300/laws.FnExactMeanFlow", spec := "fnExactMeanFlow", unfollowed := true, recurses := true, apart := false, narrowed := true }
def FnExactMeanFlowUptoSaid : Prop := fnExactMeanFlowUptoRow.holds Try.pinned (OpenSpec.upto fnExactMeanFlowSpec)

/-- 'laws.FnExactDifferAt', WHERE WHAT IT READS IS OF BULK AT MOST 1048576: true; the input reads as it did. -/
def fnExactDifferAtUptoRow : OpenClaim := { program := "ytafmhcdelokmbaa", sum := "429395229cd7d4ac63240d39fab49c9a7df1558b038586a4bf8229497ab6126c", func := "loop.example/g01300/laws.FnExactDifferAt", spec := "fnExactDifferAt", unfollowed := true, recurses := true, apart := false, narrowed := true }
def FnExactDifferAtUptoSaid : Prop := fnExactDifferAtUptoRow.holds Try.pinned (OpenSpec.upto fnExactDifferAtSpec)

/-- 'laws.FnExactSpreadOver', WHERE WHAT IT READS IS OF BULK AT MOST 1048576: true; the input reads as it did. -/
def fnExactSpreadOverUptoRow : OpenClaim := { program := "ytafmhcdelokmbaa", sum := "429395229cd7d4ac63240d39fab49c9a7df1558b038586a4bf8229497ab6126c", func := "loop.example/g01300/laws.FnExactSpreadOver", spec := "fnExactSpreadOver", unfollowed := true, recurses := true, apart := false, narrowed := true }
def FnExactSpreadOverUptoSaid : Prop := fnExactSpreadOverUptoRow.holds Try.pinned (OpenSpec.upto fnExactSpreadOverSpec)

/-- 'laws.FnExactLikeliestCell', WHERE WHAT IT READS IS OF BULK AT MOST 1048576: true; the input reads as it did. -/
def fnExactLikeliestCellUptoRow : OpenClaim := { program := "ytafmhcdelokmbaa", sum := "429395229cd7d4ac63240d39fab49c9a7df1558b038586a4bf8229497ab6126c", func := "loop.example/g01300/laws.FnExactLikeliestCell", spec := "fnExactLikeliestCell", unfollowed := true, recurses := true, apart := false, narrowed := true }
def FnExactLikeliestCellUptoSaid : Prop := fnExactLikeliestCellUptoRow.holds Try.pinned (OpenSpec.upto fnExactLikeliestCellSpec)

/-- 'laws.FnExactMeanPlace', WHERE WHAT IT READS IS OF BULK AT MOST 1048576: true; the input reads as it did. -/
def fnExactMeanPlaceUptoRow : OpenClaim := { program := "ytafmhcdelokmbaa", sum := "429395229cd7d4ac63240d39fab49c9a7df1558b038586a4bf8229497ab6126c", func := "loop.example/g01300/laws.FnExactMeanPlace", spec := "fnExactMeanPlace", unfollowed := true, recurses := true, apart := false, narrowed := true }
def FnExactMeanPlaceUptoSaid : Prop := fnExactMeanPlaceUptoRow.holds Try.pinned (OpenSpec.upto fnExactMeanPlaceSpec)

/-- 'laws.FnExactDriftBottle', WHERE WHAT IT READS IS OF BULK AT MOST 1048576: true; the input reads as it did. -/
def fnExactDriftBottleUptoRow : OpenClaim := { program := "ytafmhcdelokmbaa", sum := "429395229cd7d4ac63240d39fab49c9a7df1558b038586a4bf8229497ab6126c", func := "loop.example/g01300/laws.FnExactDriftBottle", spec := "fnExactDriftBottle", unfollowed := true, recurses := true, apart := false, narrowed := true }
def FnExactDriftBottleUptoSaid : Prop := fnExactDriftBottleUptoRow.holds Try.pinned (OpenSpec.upto fnExactDriftBottleSpec)

/-- 'laws.FnExactCountDrifts', WHERE WHAT IT READS IS OF BULK AT MOST 1048576: true; the input reads as it did. -/
def fnExactCountDriftsUptoRow : OpenClaim := { program := "ytafmhcdelokmbaa", sum := "429395229cd7d4ac63240d39fab49c9a7df1558b038586a4bf8229497ab6126c", func := "loop.example/g01300/laws.FnExactCountDrifts", spec := "fnExactCountDrifts", unfollowed := true, recurses := true, apart := false, narrowed := true }
def FnExactCountDriftsUptoSaid : Prop := fnExactCountDriftsUptoRow.holds Try.pinned (OpenSpec.upto fnExactCountDriftsSpec)

/-- 'laws.FnExactFirstBeach', WHERE WHAT IT READS IS OF BULK AT MOST 1048576: true; the input reads as it did. -/
def fnExactFirstBeachUptoRow : OpenClaim := { program := "ytafmhcdelokmbaa", sum := "429395229cd7d4ac63240d39fab49c9a7df1558b038586a4bf8229497ab6126c", func := "loop.example/g01300/laws.FnExactFirstBeach", spec := "fnExactFirstBeach", unfollowed := true, recurses := true, apart := false, narrowed := true }
def FnExactFirstBeachUptoSaid : Prop := fnExactFirstBeachUptoRow.holds Try.pinned (OpenSpec.upto fnExactFirstBeachSpec)

/-- 'laws.FnExactValidFinds', WHERE WHAT IT READS IS OF BULK AT MOST 1048576: true; the input reads as it did. -/
def fnExactValidFindsUptoRow : OpenClaim := { program := "ytafmhcdelokmbaa", sum := "429395229cd7d4ac63240d39fab49c9a7df1558b038586a4bf8229497ab6126c", func := "loop.example/g01300/laws.FnExactValidFinds", spec := "fnExactValidFinds", unfollowed := true, recurses := true, apart := false, narrowed := true }
def FnExactValidFindsUptoSaid : Prop := fnExactValidFindsUptoRow.holds Try.pinned (OpenSpec.upto fnExactValidFindsSpec)

end Rows
end Go.Proofs.Ytafmhcdelokmbaa
