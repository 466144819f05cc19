/-
  No cell of these rows narrows 'for every input' (looked for: loops, veiled, ifaces, maps, wideKeys, modest, calm, conditions, laid).
  DERIVED. THE GIVEN ROWS OF THIS SEAT. 12 by the template 'for every input the law returns true; each argument reads behind the call as it read before'; 0 by the template 'total and deterministic' (their statements: YtbgkcfgdedhclaaTotals.lean).
  GIVEN WITH THE SEED: the statements are not yours to turn. If you find one false, say at which input.
  Laid BY PROGRAM, IN A SANDBOX (cutbox-rows.mjs): the forced cells as the released guide's own fill.sh prints them over the translation b1c88c82e97b1def… (all of the seat's roots in one cut). By AI agents, Wed Nov 11 2026. No macro, syntax, notation, axiom, sorry.
-/
import Derived.Test.YtbgkcfgdedhclaaChecked
import GoSem.Claim
import GoSem.ClaimJoined
import GoSem.ClaimMapViews
import Derived.JoinedTies
import Derived.KernelRfl
namespace Go.Proofs.Ytbgkcfgdedhclaa
/- THE CELL 'sum', in the pinned program and in every row, IS THE sha256 OF THE DUMP (.gsa) THAT YtbgkcfgdedhclaaProg.lean LOADS. Nothing in Lean hashes anything: it is a label: what it is worth is what the hold of that sum in a sandbox is worth. -/
noncomputable def Try.pinned : Pinned := { name := "ytbgkcfgdedhclaa", sum := "b1c88c82e97b1defade29c25ab913a8995cd59cd3289becb6111f96a63185123", checked := Try.checked }
namespace Rows
def none {H : Type} : Left H := { results := [], args := [] }

/-- 'laws.FnExactBeachesOf': WHATEVER THE INPUT: true; the input reads as it did. -/
def fnExactBeachesOfSpec : ChangeSpec := { name := "fnExactBeachesOf", fn := fun _ => fun
  | [d] => { results := [.lit (.bool true)], args := [d] }
  | _ => none }
def fnExactBeachesOfRow : OpenClaim := { program := "ytbgkcfgdedhclaa", sum := "b1c88c82e97b1defade29c25ab913a8995cd59cd3289becb6111f96a63185123", func := "loop.example/g01300/laws.FnExactBeachesOf", spec := "fnExactBeachesOf", unfollowed := true, recurses := true, apart := false }
def FnExactBeachesOfSaid : Prop := fnExactBeachesOfRow.holds Try.pinned (OpenSpec.ofChange fnExactBeachesOfSpec)

/-- ITS FALSE NEIGHBOUR: 'it returns false'. Refute it at one input. -/
def fnExactBeachesOfWrong : ChangeSpec := { name := "fnExactBeachesOf", fn := fun _ => fun
  | [d] => { results := [.lit (.bool false)], args := [d] }
  | _ => none }
def FnExactBeachesOfWrongFalsely : Prop := fnExactBeachesOfRow.holds Try.pinned (OpenSpec.ofChange fnExactBeachesOfWrong)

/-- 'laws.FnExactCoastOf': WHATEVER THE INPUT: true; the input reads as it did. -/
def fnExactCoastOfSpec : ChangeSpec := { name := "fnExactCoastOf", fn := fun _ => fun
  | [d] => { results := [.lit (.bool true)], args := [d] }
  | _ => none }
def fnExactCoastOfRow : OpenClaim := { program := "ytbgkcfgdedhclaa", sum := "b1c88c82e97b1defade29c25ab913a8995cd59cd3289becb6111f96a63185123", func := "loop.example/g01300/laws.FnExactCoastOf", spec := "fnExactCoastOf", unfollowed := true, recurses := true, apart := false }
def FnExactCoastOfSaid : Prop := fnExactCoastOfRow.holds Try.pinned (OpenSpec.ofChange fnExactCoastOfSpec)

/-- ITS FALSE NEIGHBOUR: 'it returns false'. Refute it at one input. -/
def fnExactCoastOfWrong : ChangeSpec := { name := "fnExactCoastOf", fn := fun _ => fun
  | [d] => { results := [.lit (.bool false)], args := [d] }
  | _ => none }
def FnExactCoastOfWrongFalsely : Prop := fnExactCoastOfRow.holds Try.pinned (OpenSpec.ofChange fnExactCoastOfWrong)

/-- 'laws.FnExactStillSea': WHATEVER THE INPUT: true; the input reads as it did. -/
def fnExactStillSeaSpec : ChangeSpec := { name := "fnExactStillSea", fn := fun _ => fun
  | [d1, d2, d3] => { results := [.lit (.bool true)], args := [d1, d2, d3] }
  | _ => none }
def fnExactStillSeaRow : OpenClaim := { program := "ytbgkcfgdedhclaa", sum := "b1c88c82e97b1defade29c25ab913a8995cd59cd3289becb6111f96a63185123", func := "loop.example/g01300/laws.FnExactStillSea", spec := "fnExactStillSea", unfollowed := true, recurses := true, apart := false }
def FnExactStillSeaSaid : Prop := fnExactStillSeaRow.holds Try.pinned (OpenSpec.ofChange fnExactStillSeaSpec)

/-- ITS FALSE NEIGHBOUR: 'it returns false'. Refute it at one input. -/
def fnExactStillSeaWrong : ChangeSpec := { name := "fnExactStillSea", fn := fun _ => fun
  | [d1, d2, d3] => { results := [.lit (.bool false)], args := [d1, d2, d3] }
  | _ => none }
def FnExactStillSeaWrongFalsely : Prop := fnExactStillSeaRow.holds Try.pinned (OpenSpec.ofChange fnExactStillSeaWrong)

/-- 'laws.FnExactWithChances': WHATEVER THE INPUT: true; the input reads as it did. -/
def fnExactWithChancesSpec : ChangeSpec := { name := "fnExactWithChances", fn := fun _ => fun
  | [d1, d2, d3, d4] => { results := [.lit (.bool true)], args := [d1, d2, d3, d4] }
  | _ => none }
def fnExactWithChancesRow : OpenClaim := { program := "ytbgkcfgdedhclaa", sum := "b1c88c82e97b1defade29c25ab913a8995cd59cd3289becb6111f96a63185123", func := "loop.example/g01300/laws.FnExactWithChances", spec := "fnExactWithChances", unfollowed := true, recurses := true, apart := false }
def FnExactWithChancesSaid : Prop := fnExactWithChancesRow.holds Try.pinned (OpenSpec.ofChange fnExactWithChancesSpec)

/-- ITS FALSE NEIGHBOUR: 'it returns false'. Refute it at one input. -/
def fnExactWithChancesWrong : ChangeSpec := { name := "fnExactWithChances", fn := fun _ => fun
  | [d1, d2, d3, d4] => { results := [.lit (.bool false)], args := [d1, d2, d3, d4] }
  | _ => none }
def FnExactWithChancesWrongFalsely : Prop := fnExactWithChancesRow.holds Try.pinned (OpenSpec.ofChange fnExactWithChancesWrong)

/-- 'laws.FnExactWithCurrent': WHATEVER THE INPUT: true; the input reads as it did. -/
def fnExactWithCurrentSpec : ChangeSpec := { name := "fnExactWithCurrent", fn := fun _ => fun
  | [d1, d2, d3] => { results := [.lit (.bool true)], args := [d1, d2, d3] }
  | _ => none }
def fnExactWithCurrentRow : OpenClaim := { program := "ytbgkcfgdedhclaa", sum := "b1c88c82e97b1defade29c25ab913a8995cd59cd3289becb6111f96a63185123", func := "loop.example/g01300/laws.FnExactWithCurrent", spec := "fnExactWithCurrent", unfollowed := true, recurses := true, apart := false }
def FnExactWithCurrentSaid : Prop := fnExactWithCurrentRow.holds Try.pinned (OpenSpec.ofChange fnExactWithCurrentSpec)

/-- ITS FALSE NEIGHBOUR: 'it returns false'. Refute it at one input. -/
def fnExactWithCurrentWrong : ChangeSpec := { name := "fnExactWithCurrent", fn := fun _ => fun
  | [d1, d2, d3] => { results := [.lit (.bool false)], args := [d1, d2, d3] }
  | _ => none }
def FnExactWithCurrentWrongFalsely : Prop := fnExactWithCurrentRow.holds Try.pinned (OpenSpec.ofChange fnExactWithCurrentWrong)

/-- 'laws.FnExactWithLand': WHATEVER THE INPUT: true; the input reads as it did. -/
def fnExactWithLandSpec : ChangeSpec := { name := "fnExactWithLand", fn := fun _ => fun
  | [d1, d2] => { results := [.lit (.bool true)], args := [d1, d2] }
  | _ => none }
def fnExactWithLandRow : OpenClaim := { program := "ytbgkcfgdedhclaa", sum := "b1c88c82e97b1defade29c25ab913a8995cd59cd3289becb6111f96a63185123", func := "loop.example/g01300/laws.FnExactWithLand", spec := "fnExactWithLand", unfollowed := true, recurses := true, apart := false }
def FnExactWithLandSaid : Prop := fnExactWithLandRow.holds Try.pinned (OpenSpec.ofChange fnExactWithLandSpec)

/-- ITS FALSE NEIGHBOUR: 'it returns false'. Refute it at one input. -/
def fnExactWithLandWrong : ChangeSpec := { name := "fnExactWithLand", fn := fun _ => fun
  | [d1, d2] => { results := [.lit (.bool false)], args := [d1, d2] }
  | _ => none }
def FnExactWithLandWrongFalsely : Prop := fnExactWithLandRow.holds Try.pinned (OpenSpec.ofChange fnExactWithLandWrong)

/-- 'laws.FnExactDrainLand': WHATEVER THE INPUT: true; the input reads as it did. -/
def fnExactDrainLandSpec : ChangeSpec := { name := "fnExactDrainLand", fn := fun _ => fun
  | [d1, d2] => { results := [.lit (.bool true)], args := [d1, d2] }
  | _ => none }
def fnExactDrainLandRow : OpenClaim := { program := "ytbgkcfgdedhclaa", sum := "b1c88c82e97b1defade29c25ab913a8995cd59cd3289becb6111f96a63185123", func := "loop.example/g01300/laws.FnExactDrainLand", spec := "fnExactDrainLand", unfollowed := true, recurses := true, apart := false }
def FnExactDrainLandSaid : Prop := fnExactDrainLandRow.holds Try.pinned (OpenSpec.ofChange fnExactDrainLandSpec)

/-- ITS FALSE NEIGHBOUR: 'it returns false'. Refute it at one input. -/
def fnExactDrainLandWrong : ChangeSpec := { name := "fnExactDrainLand", fn := fun _ => fun
  | [d1, d2] => { results := [.lit (.bool false)], args := [d1, d2] }
  | _ => none }
def FnExactDrainLandWrongFalsely : Prop := fnExactDrainLandRow.holds Try.pinned (OpenSpec.ofChange fnExactDrainLandWrong)

/-- 'laws.FnExactMirrorSea': WHATEVER THE INPUT: true; the input reads as it did. -/
def fnExactMirrorSeaSpec : ChangeSpec := { name := "fnExactMirrorSea", fn := fun _ => fun
  | [d] => { results := [.lit (.bool true)], args := [d] }
  | _ => none }
def fnExactMirrorSeaRow : OpenClaim := { program := "ytbgkcfgdedhclaa", sum := "b1c88c82e97b1defade29c25ab913a8995cd59cd3289becb6111f96a63185123", func := "loop.example/g01300/laws.FnExactMirrorSea", spec := "fnExactMirrorSea", unfollowed := true, recurses := true, apart := false }
def FnExactMirrorSeaSaid : Prop := fnExactMirrorSeaRow.holds Try.pinned (OpenSpec.ofChange fnExactMirrorSeaSpec)

/-- ITS FALSE NEIGHBOUR: 'it returns false'. Refute it at one input. -/
def fnExactMirrorSeaWrong : ChangeSpec := { name := "fnExactMirrorSea", fn := fun _ => fun
  | [d] => { results := [.lit (.bool false)], args := [d] }
  | _ => none }
def FnExactMirrorSeaWrongFalsely : Prop := fnExactMirrorSeaRow.holds Try.pinned (OpenSpec.ofChange fnExactMirrorSeaWrong)

/-- 'laws.FnExactSwapTides': WHATEVER THE INPUT: true; the input reads as it did. -/
def fnExactSwapTidesSpec : ChangeSpec := { name := "fnExactSwapTides", fn := fun _ => fun
  | [d] => { results := [.lit (.bool true)], args := [d] }
  | _ => none }
def fnExactSwapTidesRow : OpenClaim := { program := "ytbgkcfgdedhclaa", sum := "b1c88c82e97b1defade29c25ab913a8995cd59cd3289becb6111f96a63185123", func := "loop.example/g01300/laws.FnExactSwapTides", spec := "fnExactSwapTides", unfollowed := true, recurses := true, apart := false }
def FnExactSwapTidesSaid : Prop := fnExactSwapTidesRow.holds Try.pinned (OpenSpec.ofChange fnExactSwapTidesSpec)

/-- ITS FALSE NEIGHBOUR: 'it returns false'. Refute it at one input. -/
def fnExactSwapTidesWrong : ChangeSpec := { name := "fnExactSwapTides", fn := fun _ => fun
  | [d] => { results := [.lit (.bool false)], args := [d] }
  | _ => none }
def FnExactSwapTidesWrongFalsely : Prop := fnExactSwapTidesRow.holds Try.pinned (OpenSpec.ofChange fnExactSwapTidesWrong)

/-- 'laws.FnExactLikeliestWay': WHATEVER THE INPUT: true; the input reads as it did. -/
def fnExactLikeliestWaySpec : ChangeSpec := { name := "fnExactLikeliestWay", fn := fun _ => fun
  | [d1, d2, d3] => { results := [.lit (.bool true)], args := [d1, d2, d3] }
  | _ => none }
def fnExactLikeliestWayRow : OpenClaim := { program := "ytbgkcfgdedhclaa", sum := "b1c88c82e97b1defade29c25ab913a8995cd59cd3289becb6111f96a63185123", func := "loop.example/g01300/laws.FnExactLikeliestWay", spec := "fnExactLikeliestWay", unfollowed := true, recurses := true, apart := false }
def FnExactLikeliestWaySaid : Prop := fnExactLikeliestWayRow.holds Try.pinned (OpenSpec.ofChange fnExactLikeliestWaySpec)

/-- ITS FALSE NEIGHBOUR: 'it returns false'. Refute it at one input. -/
def fnExactLikeliestWayWrong : ChangeSpec := { name := "fnExactLikeliestWay", fn := fun _ => fun
  | [d1, d2, d3] => { results := [.lit (.bool false)], args := [d1, d2, d3] }
  | _ => none }
def FnExactLikeliestWayWrongFalsely : Prop := fnExactLikeliestWayRow.holds Try.pinned (OpenSpec.ofChange fnExactLikeliestWayWrong)

/-- 'laws.FnExactMeanFlow': WHATEVER THE INPUT: true; the input reads as it did. -/
def fnExactMeanFlowSpec : ChangeSpec := { name := "fnExactMeanFlow", fn := fun _ => fun
  | [d1, d2] => { results := [.lit (.bool true)], args := [d1, d2] }
  | _ => none }
def fnExactMeanFlowRow : OpenClaim := { program := "ytbgkcfgdedhclaa", sum := "b1c88c82e97b1defade29c25ab913a8995cd59cd3289becb6111f96a63185123", func := "loop.example/g01300/laws.FnExactMeanFlow", spec := "fnExactMeanFlow", unfollowed := true, recurses := true, apart := false }
def FnExactMeanFlowSaid : Prop := fnExactMeanFlowRow.holds Try.pinned (OpenSpec.ofChange fnExactMeanFlowSpec)

/-- ITS FALSE NEIGHBOUR: 'it returns false'. Refute it at one input. -/
def fnExactMeanFlowWrong : ChangeSpec := { name := "fnExactMeanFlow", fn := fun _ => fun
  | [d1, d2] => { results := [.lit (.bool false)], args := [d1, d2] }
  | _ => none }
def FnExactMeanFlowWrongFalsely : Prop := fnExactMeanFlowRow.holds Try.pinned (OpenSpec.ofChange fnExactMeanFlowWrong)

/-- 'laws.FnExactDifferAt': WHATEVER THE INPUT: true; the input reads as it did. -/
def fnExactDifferAtSpec : ChangeSpec := { name := "fnExactDifferAt", fn := fun _ => fun
  | [d1, d2] => { results := [.lit (.bool true)], args := [d1, d2] }
  | _ => none }
def fnExactDifferAtRow : OpenClaim := { program := "ytbgkcfgdedhclaa", sum := "b1c88c82e97b1defade29c25ab913a8995cd59cd3289becb6111f96a63185123", func := "loop.example/g01300/laws.FnExactDifferAt", spec := "fnExactDifferAt", unfollowed := true, recurses := true, apart := false }
def FnExactDifferAtSaid : Prop := fnExactDifferAtRow.holds Try.pinned (OpenSpec.ofChange fnExactDifferAtSpec)

/-- ITS FALSE NEIGHBOUR: 'it returns false'. Refute it at one input. -/
def fnExactDifferAtWrong : ChangeSpec := { name := "fnExactDifferAt", fn := fun _ => fun
  | [d1, d2] => { results := [.lit (.bool false)], args := [d1, d2] }
  | _ => none }
def FnExactDifferAtWrongFalsely : Prop := fnExactDifferAtRow.holds Try.pinned (OpenSpec.ofChange fnExactDifferAtWrong)

/- THE SECOND FORM. 'bulk': how many values and letters a reading holds, each counted each time it is reached (what is shared counts as often as it is met; a slice's spare places count too). A statement '..UptoSaid' is the law's where the arguments, and the package variables that the reading takes, are together of bulk at most 1048576: NARROWER than '..Said'. Prove '..Said' where nothing that the law and all that it calls make is longer than what came in: it says more and counts as full. Else prove '..UptoSaid'. A law counts once. -/
mutual
def uptoBulk {H : Type} : DataW H → Nat
  | .lit (.string bytes) => bytes.length + 1
  | .lit _ => 1
  | .nil => 1
  | .ptr d => uptoBulk d + 1
  | .slice elems spare => uptoBulkAll elems + uptoBulkAll spare + 1
  | .agg parts => uptoBulkAll parts + 1
  | .iface _ d => uptoBulk d + 1
  | .map entries => uptoBulkEntries entries + 1
  | .held _ => 1
def uptoBulkAll {H : Type} : List (DataW H) → Nat
  | [] => 0
  | d :: r => uptoBulk d + uptoBulkAll r
def uptoBulkEntries {H : Type} : List (Lit × DataW H) → Nat
  | [] => 0
  | x :: r => uptoBulkEntry x + uptoBulkEntries r
def uptoBulkEntry {H : Type} : Lit × DataW H → Nat
  | (.string bytes, d) => bytes.length + uptoBulk d + 1
  | (_, d) => uptoBulk d + 1
 end
def uptoSmall : (H : Type) → List (DataW H) → Bool := fun _ ds => decide (uptoBulkAll ds ≤ 1048576)
def OpenSpec.upto (s : _root_.Go.ChangeSpec) : _root_.Go.OpenSpec := { _root_.Go.OpenSpec.ofChange s with cond := some uptoSmall }

/-- 'laws.FnExactBeachesOf', WHERE WHAT IT READS IS OF BULK AT MOST 1048576: true; the input reads as it did. -/
def fnExactBeachesOfUptoRow : OpenClaim := { program := "ytbgkcfgdedhclaa", sum := "b1c88c82e97b1defade29c25ab913a8995cd59cd3289becb6111f96a63185123", func := "loop.example/g01300/laws.FnExactBeachesOf", spec := "fnExactBeachesOf", unfollowed := true, recurses := true, apart := false, narrowed := true }
def FnExactBeachesOfUptoSaid : Prop := fnExactBeachesOfUptoRow.holds Try.pinned (OpenSpec.upto fnExactBeachesOfSpec)

/-- 'laws.FnExactCoastOf', WHERE WHAT IT READS IS OF BULK AT MOST 1048576: true; the input reads as it did. -/
def fnExactCoastOfUptoRow : OpenClaim := { program := "ytbgkcfgdedhclaa", sum := "b1c88c82e97b1defade29c25ab913a8995cd59cd3289becb6111f96a63185123", func := "loop.example/g01300/laws.FnExactCoastOf", spec := "fnExactCoastOf", unfollowed := true, recurses := true, apart := false, narrowed := true }
def FnExactCoastOfUptoSaid : Prop := fnExactCoastOfUptoRow.holds Try.pinned (OpenSpec.upto fnExactCoastOfSpec)

/-- 'laws.FnExactStillSea', WHERE WHAT IT READS IS OF BULK AT MOST 1048576: true; the input reads as it did. -/
def fnExactStillSeaUptoRow : OpenClaim := { program := "ytbgkcfgdedhclaa", sum := "b1c88c82e97b1defade29c25ab913a8995cd59cd3289becb6111f96a63185123", func := "loop.example/g01300/laws.FnExactStillSea", spec := "fnExactStillSea", unfollowed := true, recurses := true, apart := false, narrowed := true }
def FnExactStillSeaUptoSaid : Prop := fnExactStillSeaUptoRow.holds Try.pinned (OpenSpec.upto fnExactStillSeaSpec)

/-- 'laws.FnExactWithChances', WHERE WHAT IT READS IS OF BULK AT MOST 1048576: true; the input reads as it did. -/
def fnExactWithChancesUptoRow : OpenClaim := { program := "ytbgkcfgdedhclaa", sum := "b1c88c82e97b1defade29c25ab913a8995cd59cd3289becb6111f96a63185123", func := "loop.example/g01300/laws.FnExactWithChances", spec := "fnExactWithChances", unfollowed := true, recurses := true, apart := false, narrowed := true }
def FnExactWithChancesUptoSaid : Prop := fnExactWithChancesUptoRow.holds Try.pinned (OpenSpec.upto fnExactWithChancesSpec)

/-- 'laws.FnExactWithCurrent', WHERE WHAT IT READS IS OF BULK AT MOST 1048576: true; the input reads as it did. -/
def fnExactWithCurrentUptoRow : OpenClaim := { program := "ytbgkcfgdedhclaa", sum := "b1c88c82e97b1defade29c25ab913a8995cd59cd3289becb6111f96a63185123", func := "loop.example/g01300/laws.FnExactWithCurrent", spec := "fnExactWithCurrent", unfollowed := true, recurses := true, apart := false, narrowed := true }
def FnExactWithCurrentUptoSaid : Prop := fnExactWithCurrentUptoRow.holds Try.pinned (OpenSpec.upto fnExactWithCurrentSpec)

/-- 'laws.FnExactWithLand', WHERE WHAT IT READS IS OF BULK AT MOST 1048576: true; the input reads as it did. -/
def fnExactWithLandUptoRow : OpenClaim := { program := "ytbgkcfgdedhclaa", sum := "b1c88c82e97b1defade29c25ab913a8995cd59cd3289becb6111f96a63185123", func := "loop.example/g01300/laws.FnExactWithLand", spec := "fnExactWithLand", unfollowed := true, recurses := true, apart := false, narrowed := true }
def FnExactWithLandUptoSaid : Prop := fnExactWithLandUptoRow.holds Try.pinned (OpenSpec.upto fnExactWithLandSpec)

/-- 'laws.FnExactDrainLand', WHERE WHAT IT READS IS OF BULK AT MOST 1048576: true; the input reads as it did. -/
def fnExactDrainLandUptoRow : OpenClaim := { program := "ytbgkcfgdedhclaa", sum := "b1c88c82e97b1defade29c25ab913a8995cd59cd3289becb6111f96a63185123", func := "loop.example/g01300/laws.FnExactDrainLand", spec := "fnExactDrainLand", unfollowed := true, recurses := true, apart := false, narrowed := true }
def FnExactDrainLandUptoSaid : Prop := fnExactDrainLandUptoRow.holds Try.pinned (OpenSpec.upto fnExactDrainLandSpec)

/-- 'laws.FnExactMirrorSea', WHERE WHAT IT READS IS OF BULK AT MOST 1048576: true; the input reads as it did. -/
def fnExactMirrorSeaUptoRow : OpenClaim := { program := "ytbgkcfgdedhclaa", sum := "b1c88c82e97b1defade29c25ab913a8995cd59cd3289becb6111f96a63185123", func := "loop.example/g01300/laws.FnExactMirrorSea", spec := "fnExactMirrorSea", unfollowed := true, recurses := true, apart := false, narrowed := true }
def FnExactMirrorSeaUptoSaid : Prop := fnExactMirrorSeaUptoRow.holds Try.pinned (OpenSpec.upto fnExactMirrorSeaSpec)

/-- 'laws.FnExactSwapTides', WHERE WHAT IT READS IS OF BULK AT MOST 1048576: true; the input reads as it did. -/
def fnExactSwapTidesUptoRow : OpenClaim := { program := "ytbgkcfgdedhclaa", sum := "b1c88c82e97b1defade29c25ab913a8995cd59cd3289becb6111f96a63185123", func := "loop.example/g01300/laws.FnExactSwapTides", spec := "fnExactSwapTides", unfollowed := true, recurses := true, apart := false, narrowed := true }
def FnExactSwapTidesUptoSaid : Prop := fnExactSwapTidesUptoRow.holds Try.pinned (OpenSpec.upto fnExactSwapTidesSpec)

/-- 'laws.FnExactLikeliestWay', WHERE WHAT IT READS IS OF BULK AT MOST 1048576: true; the input reads as it did. -/
def fnExactLikeliestWayUptoRow : OpenClaim := { program := "ytbgkcfgdedhclaa", sum := "b1c88c82e97b1defade29c25ab913a8995cd59cd3289becb6111f96a63185123", func := "loop.example/g01300/laws.FnExactLikeliestWay", spec := "fnExactLikeliestWay", unfollowed := true, recurses := true, apart := false, narrowed := true }
def FnExactLikeliestWayUptoSaid : Prop := fnExactLikeliestWayUptoRow.holds Try.pinned (OpenSpec.upto fnExactLikeliestWaySpec)

/-- 'laws.FnExactMeanFlow', WHERE WHAT IT READS IS OF BULK AT MOST 1048576: true; the input reads as it did. -/
def fnExactMeanFlowUptoRow : OpenClaim := { program := "ytbgkcfgdedhclaa", sum := "b1c88c82e97b1defade29c25ab913a8995cd59cd3289becb6111f96a63185123", func := "loop.example/g01300/laws.FnExactMeanFlow", spec := "fnExactMeanFlow", unfollowed := true, recurses := true, apart := false, narrowed := true }
def FnExactMeanFlowUptoSaid : Prop := fnExactMeanFlowUptoRow.holds Try.pinned (OpenSpec.upto fnExactMeanFlowSpec)

/-- 'laws.FnExactDifferAt', WHERE WHAT IT READS IS OF BULK AT MOST 1048576: true; the input reads as it did. -/
def fnExactDifferAtUptoRow : OpenClaim := { program := "ytbgkcfgdedhclaa", sum := "b1c88c82e97b1defade29c25ab913a8995cd59cd3289becb6111f96a63185123", func := "loop.example/g01300/laws.FnExactDifferAt", spec := "fnExactDifferAt", unfollowed := true, recurses := true, apart := false, narrowed := true }
def FnExactDifferAtUptoSaid : Prop := fnExactDifferAtUptoRow.holds Try.pinned (OpenSpec.upto fnExactDifferAtSpec)

end Rows
end Go.Proofs.Ytbgkcfgdedhclaa
