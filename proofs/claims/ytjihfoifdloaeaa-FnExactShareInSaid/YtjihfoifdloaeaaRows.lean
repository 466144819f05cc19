/-
  No cell of these rows narrows 'for every input' (looked for: loops, veiled, ifaces, maps, wideKeys, modest, calm, conditions, laid).
  DERIVED. THE GIVEN ROWS OF THIS SEAT. 12 by the template 'for every input the law returns true; each argument reads behind the call as it read before'; 0 by the template 'total and deterministic' (their statements: YtjihfoifdloaeaaTotals.lean).
  GIVEN WITH THE SEED: the statements are not yours to turn. If you find one false, say at which input.
  Laid BY PROGRAM, IN A SANDBOX (cutbox-rows.mjs): the forced cells as the released guide's own fill.sh prints them over the translation ddc7b2b7ae73952f… (all of the seat's roots in one cut). By AI agents, Wed Nov 11 2026. No macro, syntax, notation, axiom, sorry.
-/
import Derived.Test.YtjihfoifdloaeaaChecked
import GoSem.Claim
import GoSem.ClaimJoined
import GoSem.ClaimMapViews
import Derived.JoinedTies
import Derived.KernelRfl
namespace Go.Proofs.Ytjihfoifdloaeaa
/- THE CELL 'sum', in the pinned program and in every row, IS THE sha256 OF THE DUMP (.gsa) THAT YtjihfoifdloaeaaProg.lean LOADS. Nothing in Lean hashes anything: it is a label: what it is worth is what the hold of that sum in a sandbox is worth. -/
noncomputable def Try.pinned : Pinned := { name := "ytjihfoifdloaeaa", sum := "ddc7b2b7ae73952fb67aaaca19eb8cab7c330ba4c684af51890d3a4e2b76885e", checked := Try.checked }
namespace Rows
def none {H : Type} : Left H := { results := [], args := [] }

/-- 'laws.FnExactPartsAfter': WHATEVER THE INPUT: true; the input reads as it did. -/
def fnExactPartsAfterSpec : ChangeSpec := { name := "fnExactPartsAfter", fn := fun _ => fun
  | [d] => { results := [.lit (.bool true)], args := [d] }
  | _ => none }
def fnExactPartsAfterRow : OpenClaim := { program := "ytjihfoifdloaeaa", sum := "ddc7b2b7ae73952fb67aaaca19eb8cab7c330ba4c684af51890d3a4e2b76885e", func := "loop.example/g01300/laws.FnExactPartsAfter", spec := "fnExactPartsAfter", apart := false }
def FnExactPartsAfterSaid : Prop := fnExactPartsAfterRow.holds Try.pinned (OpenSpec.ofChange fnExactPartsAfterSpec)

/-- ITS FALSE NEIGHBOUR: 'it returns false'. Refute it at one input. -/
def fnExactPartsAfterWrong : ChangeSpec := { name := "fnExactPartsAfter", fn := fun _ => fun
  | [d] => { results := [.lit (.bool false)], args := [d] }
  | _ => none }
def FnExactPartsAfterWrongFalsely : Prop := fnExactPartsAfterRow.holds Try.pinned (OpenSpec.ofChange fnExactPartsAfterWrong)

/-- 'laws.FnExactValidSpread': WHATEVER THE INPUT: true; the input reads as it did. -/
def fnExactValidSpreadSpec : ChangeSpec := { name := "fnExactValidSpread", fn := fun _ => fun
  | [d1, d2] => { results := [.lit (.bool true)], args := [d1, d2] }
  | _ => none }
def fnExactValidSpreadRow : OpenClaim := { program := "ytjihfoifdloaeaa", sum := "ddc7b2b7ae73952fb67aaaca19eb8cab7c330ba4c684af51890d3a4e2b76885e", func := "loop.example/g01300/laws.FnExactValidSpread", spec := "fnExactValidSpread", unfollowed := true, recurses := true, apart := false }
def FnExactValidSpreadSaid : Prop := fnExactValidSpreadRow.holds Try.pinned (OpenSpec.ofChange fnExactValidSpreadSpec)

/-- ITS FALSE NEIGHBOUR: 'it returns false'. Refute it at one input. -/
def fnExactValidSpreadWrong : ChangeSpec := { name := "fnExactValidSpread", fn := fun _ => fun
  | [d1, d2] => { results := [.lit (.bool false)], args := [d1, d2] }
  | _ => none }
def FnExactValidSpreadWrongFalsely : Prop := fnExactValidSpreadRow.holds Try.pinned (OpenSpec.ofChange fnExactValidSpreadWrong)

/-- 'laws.FnExactSpreadAt': WHATEVER THE INPUT: true; the input reads as it did. -/
def fnExactSpreadAtSpec : ChangeSpec := { name := "fnExactSpreadAt", fn := fun _ => fun
  | [d1, d2, d3, d4] => { results := [.lit (.bool true)], args := [d1, d2, d3, d4] }
  | _ => none }
def fnExactSpreadAtRow : OpenClaim := { program := "ytjihfoifdloaeaa", sum := "ddc7b2b7ae73952fb67aaaca19eb8cab7c330ba4c684af51890d3a4e2b76885e", func := "loop.example/g01300/laws.FnExactSpreadAt", spec := "fnExactSpreadAt", unfollowed := true, recurses := true, apart := false }
def FnExactSpreadAtSaid : Prop := fnExactSpreadAtRow.holds Try.pinned (OpenSpec.ofChange fnExactSpreadAtSpec)

/-- ITS FALSE NEIGHBOUR: 'it returns false'. Refute it at one input. -/
def fnExactSpreadAtWrong : ChangeSpec := { name := "fnExactSpreadAt", fn := fun _ => fun
  | [d1, d2, d3, d4] => { results := [.lit (.bool false)], args := [d1, d2, d3, d4] }
  | _ => none }
def FnExactSpreadAtWrongFalsely : Prop := fnExactSpreadAtRow.holds Try.pinned (OpenSpec.ofChange fnExactSpreadAtWrong)

/-- 'laws.FnExactSpreadOver': WHATEVER THE INPUT: true; the input reads as it did. -/
def fnExactSpreadOverSpec : ChangeSpec := { name := "fnExactSpreadOver", fn := fun _ => fun
  | [d1, d2, d3] => { results := [.lit (.bool true)], args := [d1, d2, d3] }
  | _ => none }
def fnExactSpreadOverRow : OpenClaim := { program := "ytjihfoifdloaeaa", sum := "ddc7b2b7ae73952fb67aaaca19eb8cab7c330ba4c684af51890d3a4e2b76885e", func := "loop.example/g01300/laws.FnExactSpreadOver", spec := "fnExactSpreadOver", unfollowed := true, recurses := true, apart := false }
def FnExactSpreadOverSaid : Prop := fnExactSpreadOverRow.holds Try.pinned (OpenSpec.ofChange fnExactSpreadOverSpec)

/-- ITS FALSE NEIGHBOUR: 'it returns false'. Refute it at one input. -/
def fnExactSpreadOverWrong : ChangeSpec := { name := "fnExactSpreadOver", fn := fun _ => fun
  | [d1, d2, d3] => { results := [.lit (.bool false)], args := [d1, d2, d3] }
  | _ => none }
def FnExactSpreadOverWrongFalsely : Prop := fnExactSpreadOverRow.holds Try.pinned (OpenSpec.ofChange fnExactSpreadOverWrong)

/-- 'laws.FnExactAfloatIn': WHATEVER THE INPUT: true; the input reads as it did. -/
def fnExactAfloatInSpec : ChangeSpec := { name := "fnExactAfloatIn", fn := fun _ => fun
  | [d1, d2] => { results := [.lit (.bool true)], args := [d1, d2] }
  | _ => none }
def fnExactAfloatInRow : OpenClaim := { program := "ytjihfoifdloaeaa", sum := "ddc7b2b7ae73952fb67aaaca19eb8cab7c330ba4c684af51890d3a4e2b76885e", func := "loop.example/g01300/laws.FnExactAfloatIn", spec := "fnExactAfloatIn", unfollowed := true, recurses := true, apart := false }
def FnExactAfloatInSaid : Prop := fnExactAfloatInRow.holds Try.pinned (OpenSpec.ofChange fnExactAfloatInSpec)

/-- ITS FALSE NEIGHBOUR: 'it returns false'. Refute it at one input. -/
def fnExactAfloatInWrong : ChangeSpec := { name := "fnExactAfloatIn", fn := fun _ => fun
  | [d1, d2] => { results := [.lit (.bool false)], args := [d1, d2] }
  | _ => none }
def FnExactAfloatInWrongFalsely : Prop := fnExactAfloatInRow.holds Try.pinned (OpenSpec.ofChange fnExactAfloatInWrong)

/-- 'laws.FnExactStrandedIn': WHATEVER THE INPUT: true; the input reads as it did. -/
def fnExactStrandedInSpec : ChangeSpec := { name := "fnExactStrandedIn", fn := fun _ => fun
  | [d1, d2] => { results := [.lit (.bool true)], args := [d1, d2] }
  | _ => none }
def fnExactStrandedInRow : OpenClaim := { program := "ytjihfoifdloaeaa", sum := "ddc7b2b7ae73952fb67aaaca19eb8cab7c330ba4c684af51890d3a4e2b76885e", func := "loop.example/g01300/laws.FnExactStrandedIn", spec := "fnExactStrandedIn", unfollowed := true, recurses := true, apart := false }
def FnExactStrandedInSaid : Prop := fnExactStrandedInRow.holds Try.pinned (OpenSpec.ofChange fnExactStrandedInSpec)

/-- ITS FALSE NEIGHBOUR: 'it returns false'. Refute it at one input. -/
def fnExactStrandedInWrong : ChangeSpec := { name := "fnExactStrandedIn", fn := fun _ => fun
  | [d1, d2] => { results := [.lit (.bool false)], args := [d1, d2] }
  | _ => none }
def FnExactStrandedInWrongFalsely : Prop := fnExactStrandedInRow.holds Try.pinned (OpenSpec.ofChange fnExactStrandedInWrong)

/-- 'laws.FnExactShareIn': WHATEVER THE INPUT: true; the input reads as it did. -/
def fnExactShareInSpec : ChangeSpec := { name := "fnExactShareIn", fn := fun _ => fun
  | [d1, d2, d3] => { results := [.lit (.bool true)], args := [d1, d2, d3] }
  | _ => none }
def fnExactShareInRow : OpenClaim := { program := "ytjihfoifdloaeaa", sum := "ddc7b2b7ae73952fb67aaaca19eb8cab7c330ba4c684af51890d3a4e2b76885e", func := "loop.example/g01300/laws.FnExactShareIn", spec := "fnExactShareIn", unfollowed := true, recurses := true, apart := false }
def FnExactShareInSaid : Prop := fnExactShareInRow.holds Try.pinned (OpenSpec.ofChange fnExactShareInSpec)

/-- ITS FALSE NEIGHBOUR: 'it returns false'. Refute it at one input. -/
def fnExactShareInWrong : ChangeSpec := { name := "fnExactShareIn", fn := fun _ => fun
  | [d1, d2, d3] => { results := [.lit (.bool false)], args := [d1, d2, d3] }
  | _ => none }
def FnExactShareInWrongFalsely : Prop := fnExactShareInRow.holds Try.pinned (OpenSpec.ofChange fnExactShareInWrong)

/-- 'laws.FnExactLostShare': WHATEVER THE INPUT: true; the input reads as it did. -/
def fnExactLostShareSpec : ChangeSpec := { name := "fnExactLostShare", fn := fun _ => fun
  | [d1, d2] => { results := [.lit (.bool true)], args := [d1, d2] }
  | _ => none }
def fnExactLostShareRow : OpenClaim := { program := "ytjihfoifdloaeaa", sum := "ddc7b2b7ae73952fb67aaaca19eb8cab7c330ba4c684af51890d3a4e2b76885e", func := "loop.example/g01300/laws.FnExactLostShare", spec := "fnExactLostShare", unfollowed := true, recurses := true, apart := false }
def FnExactLostShareSaid : Prop := fnExactLostShareRow.holds Try.pinned (OpenSpec.ofChange fnExactLostShareSpec)

/-- ITS FALSE NEIGHBOUR: 'it returns false'. Refute it at one input. -/
def fnExactLostShareWrong : ChangeSpec := { name := "fnExactLostShare", fn := fun _ => fun
  | [d1, d2] => { results := [.lit (.bool false)], args := [d1, d2] }
  | _ => none }
def FnExactLostShareWrongFalsely : Prop := fnExactLostShareRow.holds Try.pinned (OpenSpec.ofChange fnExactLostShareWrong)

/-- 'laws.FnExactLikeliestCell': WHATEVER THE INPUT: true; the input reads as it did. -/
def fnExactLikeliestCellSpec : ChangeSpec := { name := "fnExactLikeliestCell", fn := fun _ => fun
  | [d1, d2] => { results := [.lit (.bool true)], args := [d1, d2] }
  | _ => none }
def fnExactLikeliestCellRow : OpenClaim := { program := "ytjihfoifdloaeaa", sum := "ddc7b2b7ae73952fb67aaaca19eb8cab7c330ba4c684af51890d3a4e2b76885e", func := "loop.example/g01300/laws.FnExactLikeliestCell", spec := "fnExactLikeliestCell", unfollowed := true, recurses := true, apart := false }
def FnExactLikeliestCellSaid : Prop := fnExactLikeliestCellRow.holds Try.pinned (OpenSpec.ofChange fnExactLikeliestCellSpec)

/-- ITS FALSE NEIGHBOUR: 'it returns false'. Refute it at one input. -/
def fnExactLikeliestCellWrong : ChangeSpec := { name := "fnExactLikeliestCell", fn := fun _ => fun
  | [d1, d2] => { results := [.lit (.bool false)], args := [d1, d2] }
  | _ => none }
def FnExactLikeliestCellWrongFalsely : Prop := fnExactLikeliestCellRow.holds Try.pinned (OpenSpec.ofChange fnExactLikeliestCellWrong)

/-- 'laws.FnExactMeanPlace': WHATEVER THE INPUT: true; the input reads as it did. -/
def fnExactMeanPlaceSpec : ChangeSpec := { name := "fnExactMeanPlace", fn := fun _ => fun
  | [d1, d2] => { results := [.lit (.bool true)], args := [d1, d2] }
  | _ => none }
def fnExactMeanPlaceRow : OpenClaim := { program := "ytjihfoifdloaeaa", sum := "ddc7b2b7ae73952fb67aaaca19eb8cab7c330ba4c684af51890d3a4e2b76885e", func := "loop.example/g01300/laws.FnExactMeanPlace", spec := "fnExactMeanPlace", unfollowed := true, recurses := true, apart := false }
def FnExactMeanPlaceSaid : Prop := fnExactMeanPlaceRow.holds Try.pinned (OpenSpec.ofChange fnExactMeanPlaceSpec)

/-- ITS FALSE NEIGHBOUR: 'it returns false'. Refute it at one input. -/
def fnExactMeanPlaceWrong : ChangeSpec := { name := "fnExactMeanPlace", fn := fun _ => fun
  | [d1, d2] => { results := [.lit (.bool false)], args := [d1, d2] }
  | _ => none }
def FnExactMeanPlaceWrongFalsely : Prop := fnExactMeanPlaceRow.holds Try.pinned (OpenSpec.ofChange fnExactMeanPlaceWrong)

/-- 'laws.FnExactAddSpreads': WHATEVER THE INPUT: true; the input reads as it did. -/
def fnExactAddSpreadsSpec : ChangeSpec := { name := "fnExactAddSpreads", fn := fun _ => fun
  | [d1, d2, d3] => { results := [.lit (.bool true)], args := [d1, d2, d3] }
  | _ => none }
def fnExactAddSpreadsRow : OpenClaim := { program := "ytjihfoifdloaeaa", sum := "ddc7b2b7ae73952fb67aaaca19eb8cab7c330ba4c684af51890d3a4e2b76885e", func := "loop.example/g01300/laws.FnExactAddSpreads", spec := "fnExactAddSpreads", unfollowed := true, recurses := true, apart := false }
def FnExactAddSpreadsSaid : Prop := fnExactAddSpreadsRow.holds Try.pinned (OpenSpec.ofChange fnExactAddSpreadsSpec)

/-- ITS FALSE NEIGHBOUR: 'it returns false'. Refute it at one input. -/
def fnExactAddSpreadsWrong : ChangeSpec := { name := "fnExactAddSpreads", fn := fun _ => fun
  | [d1, d2, d3] => { results := [.lit (.bool false)], args := [d1, d2, d3] }
  | _ => none }
def FnExactAddSpreadsWrongFalsely : Prop := fnExactAddSpreadsRow.holds Try.pinned (OpenSpec.ofChange fnExactAddSpreadsWrong)

/-- 'laws.FnExactCompareShares': WHATEVER THE INPUT: true; the input reads as it did. -/
def fnExactCompareSharesSpec : ChangeSpec := { name := "fnExactCompareShares", fn := fun _ => fun
  | [d1, d2] => { results := [.lit (.bool true)], args := [d1, d2] }
  | _ => none }
def fnExactCompareSharesRow : OpenClaim := { program := "ytjihfoifdloaeaa", sum := "ddc7b2b7ae73952fb67aaaca19eb8cab7c330ba4c684af51890d3a4e2b76885e", func := "loop.example/g01300/laws.FnExactCompareShares", spec := "fnExactCompareShares", apart := false }
def FnExactCompareSharesSaid : Prop := fnExactCompareSharesRow.holds Try.pinned (OpenSpec.ofChange fnExactCompareSharesSpec)

/-- ITS FALSE NEIGHBOUR: 'it returns false'. Refute it at one input. -/
def fnExactCompareSharesWrong : ChangeSpec := { name := "fnExactCompareShares", fn := fun _ => fun
  | [d1, d2] => { results := [.lit (.bool false)], args := [d1, d2] }
  | _ => none }
def FnExactCompareSharesWrongFalsely : Prop := fnExactCompareSharesRow.holds Try.pinned (OpenSpec.ofChange fnExactCompareSharesWrong)

/- THE SECOND FORM. 'bulk': how many values and letters a reading holds, each counted each time it is reached (what is shared counts as often as it is met; a slice's spare places count too). A statement '..UptoSaid' is the law's where the arguments, and the package variables that the reading takes, are together of bulk at most 1048576: NARROWER than '..Said'. Prove '..Said' where nothing that the law and all that it calls make is longer than what came in: it says more and counts as full. Else prove '..UptoSaid'. A law counts once. -/
mutual
def uptoBulk {H : Type} : DataW H → Nat
  | .lit (.string bytes) => bytes.length + 1
  | .lit _ => 1
  | .nil => 1
  | .ptr d => uptoBulk d + 1
  | .slice elems spare => uptoBulkAll elems + uptoBulkAll spare + 1
  | .agg parts => uptoBulkAll parts + 1
  | .iface _ d => uptoBulk d + 1
  | .map entries => uptoBulkEntries entries + 1
  | .held _ => 1
def uptoBulkAll {H : Type} : List (DataW H) → Nat
  | [] => 0
  | d :: r => uptoBulk d + uptoBulkAll r
def uptoBulkEntries {H : Type} : List (Lit × DataW H) → Nat
  | [] => 0
  | x :: r => uptoBulkEntry x + uptoBulkEntries r
def uptoBulkEntry {H : Type} : Lit × DataW H → Nat
  | (.string bytes, d) => bytes.length + uptoBulk d + 1
  | (_, d) => uptoBulk d + 1
 end
def uptoSmall : (H : Type) → List (DataW H) → Bool := fun _ ds => decide (uptoBulkAll ds ≤ 1048576)
def OpenSpec.upto (s : _root_.Go.ChangeSpec) : _root_.Go.OpenSpec := { _root_.Go.OpenSpec.ofChange s with cond := some uptoSmall }

/-- 'laws.FnExactPartsAfter', WHERE WHAT IT READS IS OF BULK AT MOST 1048576: true; the input reads as it did. -/
def fnExactPartsAfterUptoRow : OpenClaim := { program := "ytjihfoifdloaeaa", sum := "ddc7b2b7ae73952fb67aaaca19eb8cab7c330ba4c684af51890d3a4e2b76885e", func := "loop.example/g01300/laws.FnExactPartsAfter", spec := "fnExactPartsAfter", apart := false, narrowed := true }
def FnExactPartsAfterUptoSaid : Prop := fnExactPartsAfterUptoRow.holds Try.pinned (OpenSpec.upto fnExactPartsAfterSpec)

/-- 'laws.FnExactValidSpread', WHERE WHAT IT READS IS OF BULK AT MOST 1048576: true; the input reads as it did. -/
def fnExactValidSpreadUptoRow : OpenClaim := { program := "ytjihfoifdloaeaa", sum := "ddc7b2b7ae73952fb67aaaca19eb8cab7c330ba4c684af51890d3a4e2b76885e", func := "loop.example/g01300/laws.FnExactValidSpread", spec := "fnExactValidSpread", unfollowed := true, recurses := true, apart := false, narrowed := true }
def FnExactValidSpreadUptoSaid : Prop := fnExactValidSpreadUptoRow.holds Try.pinned (OpenSpec.upto fnExactValidSpreadSpec)

/-- 'laws.FnExactSpreadAt', WHERE WHAT IT READS IS OF BULK AT MOST 1048576: true; the input reads as it did. -/
def fnExactSpreadAtUptoRow : OpenClaim := { program := "ytjihfoifdloaeaa", sum := "ddc7b2b7ae73952fb67aaaca19eb8cab7c330ba4c684af51890d3a4e2b76885e", func := "loop.example/g01300/laws.FnExactSpreadAt", spec := "fnExactSpreadAt", unfollowed := true, recurses := true, apart := false, narrowed := true }
def FnExactSpreadAtUptoSaid : Prop := fnExactSpreadAtUptoRow.holds Try.pinned (OpenSpec.upto fnExactSpreadAtSpec)

/-- 'laws.FnExactSpreadOver', WHERE WHAT IT READS IS OF BULK AT MOST 1048576: true; the input reads as it did. -/
def fnExactSpreadOverUptoRow : OpenClaim := { program := "ytjihfoifdloaeaa", sum := "ddc7b2b7ae73952fb67aaaca19eb8cab7c330ba4c684af51890d3a4e2b76885e", func := "loop.example/g01300/laws.FnExactSpreadOver", spec := "fnExactSpreadOver", unfollowed := true, recurses := true, apart := false, narrowed := true }
def FnExactSpreadOverUptoSaid : Prop := fnExactSpreadOverUptoRow.holds Try.pinned (OpenSpec.upto fnExactSpreadOverSpec)

/-- 'laws.FnExactAfloatIn', WHERE WHAT IT READS IS OF BULK AT MOST 1048576: true; the input reads as it did. -/
def fnExactAfloatInUptoRow : OpenClaim := { program := "ytjihfoifdloaeaa", sum := "ddc7b2b7ae73952fb67aaaca19eb8cab7c330ba4c684af51890d3a4e2b76885e", func := "loop.example/g01300/laws.FnExactAfloatIn", spec := "fnExactAfloatIn", unfollowed := true, recurses := true, apart := false, narrowed := true }
def FnExactAfloatInUptoSaid : Prop := fnExactAfloatInUptoRow.holds Try.pinned (OpenSpec.upto fnExactAfloatInSpec)

/-- 'laws.FnExactStrandedIn', WHERE WHAT IT READS IS OF BULK AT MOST 1048576: true; the input reads as it did. -/
def fnExactStrandedInUptoRow : OpenClaim := { program := "ytjihfoifdloaeaa", sum := "ddc7b2b7ae73952fb67aaaca19eb8cab7c330ba4c684af51890d3a4e2b76885e", func := "loop.example/g01300/laws.FnExactStrandedIn", spec := "fnExactStrandedIn", unfollowed := true, recurses := true, apart := false, narrowed := true }
def FnExactStrandedInUptoSaid : Prop := fnExactStrandedInUptoRow.holds Try.pinned (OpenSpec.upto fnExactStrandedInSpec)

/-- 'laws.FnExactShareIn', WHERE WHAT IT READS IS OF BULK AT MOST 1048576: true; the input reads as it did. -/
def fnExactShareInUptoRow : OpenClaim := { program := "ytjihfoifdloaeaa", sum := "ddc7b2b7ae73952fb67aaaca19eb8cab7c330ba4c684af51890d3a4e2b76885e", func := "loop.example/g01300/laws.FnExactShareIn", spec := "fnExactShareIn", unfollowed := true, recurses := true, apart := false, narrowed := true }
def FnExactShareInUptoSaid : Prop := fnExactShareInUptoRow.holds Try.pinned (OpenSpec.upto fnExactShareInSpec)

/-- 'laws.FnExactLostShare', WHERE WHAT IT READS IS OF BULK AT MOST 1048576: true; the input reads as it did. -/
def fnExactLostShareUptoRow : OpenClaim := { program := "ytjihfoifdloaeaa", sum := "ddc7b2b7ae73952fb67aaaca19eb8cab7c330ba4c684af51890d3a4e2b76885e", func := "loop.example/g01300/laws.FnExactLostShare", spec := "fnExactLostShare", unfollowed := true, recurses := true, apart := false, narrowed := true }
def FnExactLostShareUptoSaid : Prop := fnExactLostShareUptoRow.holds Try.pinned (OpenSpec.upto fnExactLostShareSpec)

/-- 'laws.FnExactLikeliestCell', WHERE WHAT IT READS IS OF BULK AT MOST 1048576: true; the input reads as it did. -/
def fnExactLikeliestCellUptoRow : OpenClaim := { program := "ytjihfoifdloaeaa", sum := "ddc7b2b7ae73952fb67aaaca19eb8cab7c330ba4c684af51890d3a4e2b76885e", func := "loop.example/g01300/laws.FnExactLikeliestCell", spec := "fnExactLikeliestCell", unfollowed := true, recurses := true, apart := false, narrowed := true }
def FnExactLikeliestCellUptoSaid : Prop := fnExactLikeliestCellUptoRow.holds Try.pinned (OpenSpec.upto fnExactLikeliestCellSpec)

/-- 'laws.FnExactMeanPlace', WHERE WHAT IT READS IS OF BULK AT MOST 1048576: true; the input reads as it did. -/
def fnExactMeanPlaceUptoRow : OpenClaim := { program := "ytjihfoifdloaeaa", sum := "ddc7b2b7ae73952fb67aaaca19eb8cab7c330ba4c684af51890d3a4e2b76885e", func := "loop.example/g01300/laws.FnExactMeanPlace", spec := "fnExactMeanPlace", unfollowed := true, recurses := true, apart := false, narrowed := true }
def FnExactMeanPlaceUptoSaid : Prop := fnExactMeanPlaceUptoRow.holds Try.pinned (OpenSpec.upto fnExactMeanPlaceSpec)

/-- 'laws.FnExactAddSpreads', WHERE WHAT IT READS IS OF BULK AT MOST 1048576: true; the input reads as it did. -/
def fnExactAddSpreadsUptoRow : OpenClaim := { program := "ytjihfoifdloaeaa", sum := "ddc7b2b7ae73952fb67aaaca19eb8cab7c330ba4c684af51890d3a4e2b76885e", func := "loop.example/g01300/laws.FnExactAddSpreads", spec := "fnExactAddSpreads", unfollowed := true, recurses := true, apart := false, narrowed := true }
def FnExactAddSpreadsUptoSaid : Prop := fnExactAddSpreadsUptoRow.holds Try.pinned (OpenSpec.upto fnExactAddSpreadsSpec)

/-- 'laws.FnExactCompareShares', WHERE WHAT IT READS IS OF BULK AT MOST 1048576: true; the input reads as it did. -/
def fnExactCompareSharesUptoRow : OpenClaim := { program := "ytjihfoifdloaeaa", sum := "ddc7b2b7ae73952fb67aaaca19eb8cab7c330ba4c684af51890d3a4e2b76885e", func := "loop.example/g01300/laws.FnExactCompareShares", spec := "fnExactCompareShares", apart := false, narrowed := true }
def FnExactCompareSharesUptoSaid : Prop := fnExactCompareSharesUptoRow.holds Try.pinned (OpenSpec.upto fnExactCompareSharesSpec)

end Rows
end Go.Proofs.Ytjihfoifdloaeaa
