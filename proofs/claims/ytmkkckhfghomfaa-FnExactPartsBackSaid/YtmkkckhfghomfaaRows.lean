/-
  No cell of these rows narrows 'for every input' (looked for: loops, veiled, ifaces, maps, wideKeys, modest, calm, conditions, laid).
  DERIVED. THE GIVEN ROWS OF THIS SEAT. 8 by the template 'for every input the law returns true; each argument reads behind the call as it read before'; 0 by the template 'total and deterministic' (their statements: YtmkkckhfghomfaaTotals.lean).
  GIVEN WITH THE SEED: the statements are not yours to turn. If you find one false, say at which input.
  Laid BY PROGRAM, IN A SANDBOX (cutbox-rows.mjs): the forced cells as the released guide's own fill.sh prints them over the translation 2b1639473102b8ef… (all of the seat's roots in one cut). By AI agents, Wed Nov 11 2026. No macro, syntax, notation, axiom, sorry.
-/
import Derived.Test.YtmkkckhfghomfaaChecked
import GoSem.Claim
import GoSem.ClaimJoined
import GoSem.ClaimMapViews
import Derived.JoinedTies
import Derived.KernelRfl
namespace Go.Proofs.Ytmkkckhfghomfaa
/- THE CELL 'sum', in the pinned program and in every row, IS THE sha256 OF THE DUMP (.gsa) THAT YtmkkckhfghomfaaProg.lean LOADS. Nothing in Lean hashes anything: it is a label: what it is worth is what the hold of that sum in a sandbox is worth. -/
noncomputable def Try.pinned : Pinned := { name := "ytmkkckhfghomfaa", sum := "2b1639473102b8efbed9924efd9fe9a5d0c11d6c27eda4276920f606be289187", checked := Try.checked }
namespace Rows
def none {H : Type} : Left H := { results := [], args := [] }

/-- 'laws.FnExactPathParts': WHATEVER THE INPUT: true; the input reads as it did. -/
def fnExactPathPartsSpec : ChangeSpec := { name := "fnExactPathParts", fn := fun _ => fun
  | [d1, d2, d3] => { results := [.lit (.bool true)], args := [d1, d2, d3] }
  | _ => none }
def fnExactPathPartsRow : OpenClaim := { program := "ytmkkckhfghomfaa", sum := "2b1639473102b8efbed9924efd9fe9a5d0c11d6c27eda4276920f606be289187", func := "loop.example/g01300/laws.FnExactPathParts", spec := "fnExactPathParts", unfollowed := true, recurses := true, apart := false }
def FnExactPathPartsSaid : Prop := fnExactPathPartsRow.holds Try.pinned (OpenSpec.ofChange fnExactPathPartsSpec)

/-- ITS FALSE NEIGHBOUR: 'it returns false'. Refute it at one input. -/
def fnExactPathPartsWrong : ChangeSpec := { name := "fnExactPathParts", fn := fun _ => fun
  | [d1, d2, d3] => { results := [.lit (.bool false)], args := [d1, d2, d3] }
  | _ => none }
def FnExactPathPartsWrongFalsely : Prop := fnExactPathPartsRow.holds Try.pinned (OpenSpec.ofChange fnExactPathPartsWrong)

/-- 'laws.FnExactCountPaths': WHATEVER THE INPUT: true; the input reads as it did. -/
def fnExactCountPathsSpec : ChangeSpec := { name := "fnExactCountPaths", fn := fun _ => fun
  | [d1, d2, d3, d4, d5] => { results := [.lit (.bool true)], args := [d1, d2, d3, d4, d5] }
  | _ => none }
def fnExactCountPathsRow : OpenClaim := { program := "ytmkkckhfghomfaa", sum := "2b1639473102b8efbed9924efd9fe9a5d0c11d6c27eda4276920f606be289187", func := "loop.example/g01300/laws.FnExactCountPaths", spec := "fnExactCountPaths", unfollowed := true, recurses := true, apart := false }
def FnExactCountPathsSaid : Prop := fnExactCountPathsRow.holds Try.pinned (OpenSpec.ofChange fnExactCountPathsSpec)

/-- ITS FALSE NEIGHBOUR: 'it returns false'. Refute it at one input. -/
def fnExactCountPathsWrong : ChangeSpec := { name := "fnExactCountPaths", fn := fun _ => fun
  | [d1, d2, d3, d4, d5] => { results := [.lit (.bool false)], args := [d1, d2, d3, d4, d5] }
  | _ => none }
def FnExactCountPathsWrongFalsely : Prop := fnExactCountPathsRow.holds Try.pinned (OpenSpec.ofChange fnExactCountPathsWrong)

/-- 'laws.FnExactBoundsFor': WHATEVER THE INPUT: true; the input reads as it did. -/
def fnExactBoundsForSpec : ChangeSpec := { name := "fnExactBoundsFor", fn := fun _ => fun
  | [d1, d2, d3, d4] => { results := [.lit (.bool true)], args := [d1, d2, d3, d4] }
  | _ => none }
def fnExactBoundsForRow : OpenClaim := { program := "ytmkkckhfghomfaa", sum := "2b1639473102b8efbed9924efd9fe9a5d0c11d6c27eda4276920f606be289187", func := "loop.example/g01300/laws.FnExactBoundsFor", spec := "fnExactBoundsFor", unfollowed := true, recurses := true, apart := false }
def FnExactBoundsForSaid : Prop := fnExactBoundsForRow.holds Try.pinned (OpenSpec.ofChange fnExactBoundsForSpec)

/-- ITS FALSE NEIGHBOUR: 'it returns false'. Refute it at one input. -/
def fnExactBoundsForWrong : ChangeSpec := { name := "fnExactBoundsFor", fn := fun _ => fun
  | [d1, d2, d3, d4] => { results := [.lit (.bool false)], args := [d1, d2, d3, d4] }
  | _ => none }
def FnExactBoundsForWrongFalsely : Prop := fnExactBoundsForRow.holds Try.pinned (OpenSpec.ofChange fnExactBoundsForWrong)

/-- 'laws.FnExactCheckBounds': WHATEVER THE INPUT: true; the input reads as it did. -/
def fnExactCheckBoundsSpec : ChangeSpec := { name := "fnExactCheckBounds", fn := fun _ => fun
  | [d1, d2, d3, d4] => { results := [.lit (.bool true)], args := [d1, d2, d3, d4] }
  | _ => none }
def fnExactCheckBoundsRow : OpenClaim := { program := "ytmkkckhfghomfaa", sum := "2b1639473102b8efbed9924efd9fe9a5d0c11d6c27eda4276920f606be289187", func := "loop.example/g01300/laws.FnExactCheckBounds", spec := "fnExactCheckBounds", unfollowed := true, recurses := true, apart := false }
def FnExactCheckBoundsSaid : Prop := fnExactCheckBoundsRow.holds Try.pinned (OpenSpec.ofChange fnExactCheckBoundsSpec)

/-- ITS FALSE NEIGHBOUR: 'it returns false'. Refute it at one input. -/
def fnExactCheckBoundsWrong : ChangeSpec := { name := "fnExactCheckBounds", fn := fun _ => fun
  | [d1, d2, d3, d4] => { results := [.lit (.bool false)], args := [d1, d2, d3, d4] }
  | _ => none }
def FnExactCheckBoundsWrongFalsely : Prop := fnExactCheckBoundsRow.holds Try.pinned (OpenSpec.ofChange fnExactCheckBoundsWrong)

/-- 'laws.FnExactProvedBound': WHATEVER THE INPUT: true; the input reads as it did. -/
def fnExactProvedBoundSpec : ChangeSpec := { name := "fnExactProvedBound", fn := fun _ => fun
  | [d1, d2, d3, d4, d5] => { results := [.lit (.bool true)], args := [d1, d2, d3, d4, d5] }
  | _ => none }
def fnExactProvedBoundRow : OpenClaim := { program := "ytmkkckhfghomfaa", sum := "2b1639473102b8efbed9924efd9fe9a5d0c11d6c27eda4276920f606be289187", func := "loop.example/g01300/laws.FnExactProvedBound", spec := "fnExactProvedBound", unfollowed := true, recurses := true, apart := false }
def FnExactProvedBoundSaid : Prop := fnExactProvedBoundRow.holds Try.pinned (OpenSpec.ofChange fnExactProvedBoundSpec)

/-- ITS FALSE NEIGHBOUR: 'it returns false'. Refute it at one input. -/
def fnExactProvedBoundWrong : ChangeSpec := { name := "fnExactProvedBound", fn := fun _ => fun
  | [d1, d2, d3, d4, d5] => { results := [.lit (.bool false)], args := [d1, d2, d3, d4, d5] }
  | _ => none }
def FnExactProvedBoundWrongFalsely : Prop := fnExactProvedBoundRow.holds Try.pinned (OpenSpec.ofChange fnExactProvedBoundWrong)

/-- 'laws.FnExactLikeliestPath': WHATEVER THE INPUT: true; the input reads as it did. -/
def fnExactLikeliestPathSpec : ChangeSpec := { name := "fnExactLikeliestPath", fn := fun _ => fun
  | [d1, d2, d3, d4, d5] => { results := [.lit (.bool true)], args := [d1, d2, d3, d4, d5] }
  | _ => none }
def fnExactLikeliestPathRow : OpenClaim := { program := "ytmkkckhfghomfaa", sum := "2b1639473102b8efbed9924efd9fe9a5d0c11d6c27eda4276920f606be289187", func := "loop.example/g01300/laws.FnExactLikeliestPath", spec := "fnExactLikeliestPath", unfollowed := true, recurses := true, apart := false }
def FnExactLikeliestPathSaid : Prop := fnExactLikeliestPathRow.holds Try.pinned (OpenSpec.ofChange fnExactLikeliestPathSpec)

/-- ITS FALSE NEIGHBOUR: 'it returns false'. Refute it at one input. -/
def fnExactLikeliestPathWrong : ChangeSpec := { name := "fnExactLikeliestPath", fn := fun _ => fun
  | [d1, d2, d3, d4, d5] => { results := [.lit (.bool false)], args := [d1, d2, d3, d4, d5] }
  | _ => none }
def FnExactLikeliestPathWrongFalsely : Prop := fnExactLikeliestPathRow.holds Try.pinned (OpenSpec.ofChange fnExactLikeliestPathWrong)

/-- 'laws.FnExactSameBounds': WHATEVER THE INPUT: true; the input reads as it did. -/
def fnExactSameBoundsSpec : ChangeSpec := { name := "fnExactSameBounds", fn := fun _ => fun
  | [d1, d2] => { results := [.lit (.bool true)], args := [d1, d2] }
  | _ => none }
def fnExactSameBoundsRow : OpenClaim := { program := "ytmkkckhfghomfaa", sum := "2b1639473102b8efbed9924efd9fe9a5d0c11d6c27eda4276920f606be289187", func := "loop.example/g01300/laws.FnExactSameBounds", spec := "fnExactSameBounds", apart := false }
def FnExactSameBoundsSaid : Prop := fnExactSameBoundsRow.holds Try.pinned (OpenSpec.ofChange fnExactSameBoundsSpec)

/-- ITS FALSE NEIGHBOUR: 'it returns false'. Refute it at one input. -/
def fnExactSameBoundsWrong : ChangeSpec := { name := "fnExactSameBounds", fn := fun _ => fun
  | [d1, d2] => { results := [.lit (.bool false)], args := [d1, d2] }
  | _ => none }
def FnExactSameBoundsWrongFalsely : Prop := fnExactSameBoundsRow.holds Try.pinned (OpenSpec.ofChange fnExactSameBoundsWrong)

/-- 'laws.FnExactPartsBack': WHATEVER THE INPUT: true; the input reads as it did. -/
def fnExactPartsBackSpec : ChangeSpec := { name := "fnExactPartsBack", fn := fun _ => fun
  | [d1, d2, d3, d4] => { results := [.lit (.bool true)], args := [d1, d2, d3, d4] }
  | _ => none }
def fnExactPartsBackRow : OpenClaim := { program := "ytmkkckhfghomfaa", sum := "2b1639473102b8efbed9924efd9fe9a5d0c11d6c27eda4276920f606be289187", func := "loop.example/g01300/laws.FnExactPartsBack", spec := "fnExactPartsBack", unfollowed := true, recurses := true, apart := false }
def FnExactPartsBackSaid : Prop := fnExactPartsBackRow.holds Try.pinned (OpenSpec.ofChange fnExactPartsBackSpec)

/-- ITS FALSE NEIGHBOUR: 'it returns false'. Refute it at one input. -/
def fnExactPartsBackWrong : ChangeSpec := { name := "fnExactPartsBack", fn := fun _ => fun
  | [d1, d2, d3, d4] => { results := [.lit (.bool false)], args := [d1, d2, d3, d4] }
  | _ => none }
def FnExactPartsBackWrongFalsely : Prop := fnExactPartsBackRow.holds Try.pinned (OpenSpec.ofChange fnExactPartsBackWrong)

/- THE SECOND FORM. 'bulk': how many values and letters a reading holds, each counted each time it is reached (what is shared counts as often as it is met; a slice's spare places count too). A statement '..UptoSaid' is the law's where the arguments, and the package variables that the reading takes, are together of bulk at most 1048576: NARROWER than '..Said'. Prove '..Said' where nothing that the law and all that it calls make is longer than what came in: it says more and counts as full. Else prove '..UptoSaid'. A law counts once. -/
mutual
def uptoBulk {H : Type} : DataW H → Nat
  | .lit (.string bytes) => bytes.length + 1
  | .lit _ => 1
  | .nil => 1
  | .ptr d => uptoBulk d + 1
  | .slice elems spare => uptoBulkAll elems + uptoBulkAll spare + 1
  | .agg parts => uptoBulkAll parts + 1
  | .iface _ d => uptoBulk d + 1
  | .map entries => uptoBulkEntries entries + 1
  | .held _ => 1
def uptoBulkAll {H : Type} : List (DataW H) → Nat
  | [] => 0
  | d :: r => uptoBulk d + uptoBulkAll r
def uptoBulkEntries {H : Type} : List (Lit × DataW H) → Nat
  | [] => 0
  | x :: r => uptoBulkEntry x + uptoBulkEntries r
def uptoBulkEntry {H : Type} : Lit × DataW H → Nat
  | (.string bytes, d) => bytes.length + uptoBulk d + 1
  | (_, d) => uptoBulk d + 1
 end
def uptoSmall : (H : Type) → List (DataW H) → Bool := fun _ ds => decide (uptoBulkAll ds ≤ 1048576)
def OpenSpec.upto (s : _root_.Go.ChangeSpec) : _root_.Go.OpenSpec := { _root_.Go.OpenSpec.ofChange s with cond := some uptoSmall }

/-- 'laws.FnExactPathParts', WHERE WHAT IT READS IS OF BULK AT MOST 1048576: true; the input reads as it did. -/
def fnExactPathPartsUptoRow : OpenClaim := { program := "ytmkkckhfghomfaa", sum := "2b1639473102b8efbed9924efd9fe9a5d0c11d6c27eda4276920f606be289187", func := "loop.example/g01300/laws.FnExactPathParts", spec := "fnExactPathParts", unfollowed := true, recurses := true, apart := false, narrowed := true }
def FnExactPathPartsUptoSaid : Prop := fnExactPathPartsUptoRow.holds Try.pinned (OpenSpec.upto fnExactPathPartsSpec)

/-- 'laws.FnExactCountPaths', WHERE WHAT IT READS IS OF BULK AT MOST 1048576: true; the input reads as it did. -/
def fnExactCountPathsUptoRow : OpenClaim := { program := "ytmkkckhfghomfaa", sum := "2b1639473102b8efbed9924efd9fe9a5d0c11d6c27eda4276920f606be289187", func := "loop.example/g01300/laws.FnExactCountPaths", spec := "fnExactCountPaths", unfollowed := true, recurses := true, apart := false, narrowed := true }
def FnExactCountPathsUptoSaid : Prop := fnExactCountPathsUptoRow.holds Try.pinned (OpenSpec.upto fnExactCountPathsSpec)

/-- 'laws.FnExactBoundsFor', WHERE WHAT IT READS IS OF BULK AT MOST 1048576: true; the input reads as it did. -/
def fnExactBoundsForUptoRow : OpenClaim := { program := "ytmkkckhfghomfaa", sum := "2b1639473102b8efbed9924efd9fe9a5d0c11d6c27eda4276920f606be289187", func := "loop.example/g01300/laws.FnExactBoundsFor", spec := "fnExactBoundsFor", unfollowed := true, recurses := true, apart := false, narrowed := true }
def FnExactBoundsForUptoSaid : Prop := fnExactBoundsForUptoRow.holds Try.pinned (OpenSpec.upto fnExactBoundsForSpec)

/-- 'laws.FnExactCheckBounds', WHERE WHAT IT READS IS OF BULK AT MOST 1048576: true; the input reads as it did. -/
def fnExactCheckBoundsUptoRow : OpenClaim := { program := "ytmkkckhfghomfaa", sum := "2b1639473102b8efbed9924efd9fe9a5d0c11d6c27eda4276920f606be289187", func := "loop.example/g01300/laws.FnExactCheckBounds", spec := "fnExactCheckBounds", unfollowed := true, recurses := true, apart := false, narrowed := true }
def FnExactCheckBoundsUptoSaid : Prop := fnExactCheckBoundsUptoRow.holds Try.pinned (OpenSpec.upto fnExactCheckBoundsSpec)

/-- 'laws.FnExactProvedBound', WHERE WHAT IT READS IS OF BULK AT MOST 1048576: true; the input reads as it did. -/
def fnExactProvedBoundUptoRow : OpenClaim := { program := "ytmkkckhfghomfaa", sum := "2b1639473102b8efbed9924efd9fe9a5d0c11d6c27eda4276920f606be289187", func := "loop.example/g01300/laws.FnExactProvedBound", spec := "fnExactProvedBound", unfollowed := true, recurses := true, apart := false, narrowed := true }
def FnExactProvedBoundUptoSaid : Prop := fnExactProvedBoundUptoRow.holds Try.pinned (OpenSpec.upto fnExactProvedBoundSpec)

/-- 'laws.FnExactLikeliestPath', WHERE WHAT IT READS IS OF BULK AT MOST 1048576: true; the input reads as it did. -/
def fnExactLikeliestPathUptoRow : OpenClaim := { program := "ytmkkckhfghomfaa", sum := "2b1639473102b8efbed9924efd9fe9a5d0c11d6c27eda4276920f606be289187", func := "loop.example/g01300/laws.FnExactLikeliestPath", spec := "fnExactLikeliestPath", unfollowed := true, recurses := true, apart := false, narrowed := true }
def FnExactLikeliestPathUptoSaid : Prop := fnExactLikeliestPathUptoRow.holds Try.pinned (OpenSpec.upto fnExactLikeliestPathSpec)

/-- 'laws.FnExactSameBounds', WHERE WHAT IT READS IS OF BULK AT MOST 1048576: true; the input reads as it did. -/
def fnExactSameBoundsUptoRow : OpenClaim := { program := "ytmkkckhfghomfaa", sum := "2b1639473102b8efbed9924efd9fe9a5d0c11d6c27eda4276920f606be289187", func := "loop.example/g01300/laws.FnExactSameBounds", spec := "fnExactSameBounds", apart := false, narrowed := true }
def FnExactSameBoundsUptoSaid : Prop := fnExactSameBoundsUptoRow.holds Try.pinned (OpenSpec.upto fnExactSameBoundsSpec)

/-- 'laws.FnExactPartsBack', WHERE WHAT IT READS IS OF BULK AT MOST 1048576: true; the input reads as it did. -/
def fnExactPartsBackUptoRow : OpenClaim := { program := "ytmkkckhfghomfaa", sum := "2b1639473102b8efbed9924efd9fe9a5d0c11d6c27eda4276920f606be289187", func := "loop.example/g01300/laws.FnExactPartsBack", spec := "fnExactPartsBack", unfollowed := true, recurses := true, apart := false, narrowed := true }
def FnExactPartsBackUptoSaid : Prop := fnExactPartsBackUptoRow.holds Try.pinned (OpenSpec.upto fnExactPartsBackSpec)

end Rows
end Go.Proofs.Ytmkkckhfghomfaa
