/-
  No cell of these rows narrows 'for every input' (looked for: loops, veiled, ifaces, maps, wideKeys, modest, calm, conditions, laid).
  DERIVED. THE GIVEN ROWS OF THIS SEAT. 8 by the template 'for every input the law returns true; each argument reads behind the call as it read before'; 0 by the template 'total and deterministic' (their statements: YthkpnfoapjhleaaTotals.lean).
  GIVEN WITH THE SEED: the statements are not yours to turn. If you find one false, say at which input.
  Laid BY PROGRAM, IN A SANDBOX (cutbox-rows.mjs): the forced cells as the released guide's own fill.sh prints them over the translation 49a8019ff596a555… (all of the seat's roots in one cut). By AI agents, Wed Nov 11 2026. No macro, syntax, notation, axiom, sorry.
-/
import Derived.Test.YthkpnfoapjhleaaChecked
import GoSem.Claim
import GoSem.ClaimJoined
import GoSem.ClaimMapViews
import Derived.JoinedTies
import Derived.KernelRfl
namespace Go.Proofs.Ythkpnfoapjhleaa
/- THE CELL 'sum', in the pinned program and in every row, IS THE sha256 OF THE DUMP (.gsa) THAT YthkpnfoapjhleaaProg.lean LOADS. Nothing in Lean hashes anything: it is a label: what it is worth is what the hold of that sum in a sandbox is worth. -/
noncomputable def Try.pinned : Pinned := { name := "ythkpnfoapjhleaa", sum := "49a8019ff596a55586ac1917e636b54513c46e9c95c4555d7fb0bbc5b41abda0", checked := Try.checked }
namespace Rows
def none {H : Type} : Left H := { results := [], args := [] }

/-- 'laws.FnExactLogOf': WHATEVER THE INPUT: true; the input reads as it did. -/
def fnExactLogOfSpec : ChangeSpec := { name := "fnExactLogOf", fn := fun _ => fun
  | [d] => { results := [.lit (.bool true)], args := [d] }
  | _ => none }
def fnExactLogOfRow : OpenClaim := { program := "ythkpnfoapjhleaa", sum := "49a8019ff596a55586ac1917e636b54513c46e9c95c4555d7fb0bbc5b41abda0", func := "loop.example/g01300/laws.FnExactLogOf", spec := "fnExactLogOf", apart := false }
def FnExactLogOfSaid : Prop := fnExactLogOfRow.holds Try.pinned (OpenSpec.ofChange fnExactLogOfSpec)

/-- ITS FALSE NEIGHBOUR: 'it returns false'. Refute it at one input. -/
def fnExactLogOfWrong : ChangeSpec := { name := "fnExactLogOf", fn := fun _ => fun
  | [d] => { results := [.lit (.bool false)], args := [d] }
  | _ => none }
def FnExactLogOfWrongFalsely : Prop := fnExactLogOfRow.holds Try.pinned (OpenSpec.ofChange fnExactLogOfWrong)

/-- 'laws.FnExactDifferingSpots': WHATEVER THE INPUT: true; the input reads as it did. -/
def fnExactDifferingSpotsSpec : ChangeSpec := { name := "fnExactDifferingSpots", fn := fun _ => fun
  | [d1, d2] => { results := [.lit (.bool true)], args := [d1, d2] }
  | _ => none }
def fnExactDifferingSpotsRow : OpenClaim := { program := "ythkpnfoapjhleaa", sum := "49a8019ff596a55586ac1917e636b54513c46e9c95c4555d7fb0bbc5b41abda0", func := "loop.example/g01300/laws.FnExactDifferingSpots", spec := "fnExactDifferingSpots", unfollowed := true, recurses := true, apart := false }
def FnExactDifferingSpotsSaid : Prop := fnExactDifferingSpotsRow.holds Try.pinned (OpenSpec.ofChange fnExactDifferingSpotsSpec)

/-- ITS FALSE NEIGHBOUR: 'it returns false'. Refute it at one input. -/
def fnExactDifferingSpotsWrong : ChangeSpec := { name := "fnExactDifferingSpots", fn := fun _ => fun
  | [d1, d2] => { results := [.lit (.bool false)], args := [d1, d2] }
  | _ => none }
def FnExactDifferingSpotsWrongFalsely : Prop := fnExactDifferingSpotsRow.holds Try.pinned (OpenSpec.ofChange fnExactDifferingSpotsWrong)

/-- 'laws.FnExactRepairAt': WHATEVER THE INPUT: true; the input reads as it did. -/
def fnExactRepairAtSpec : ChangeSpec := { name := "fnExactRepairAt", fn := fun _ => fun
  | [d1, d2, d3] => { results := [.lit (.bool true)], args := [d1, d2, d3] }
  | _ => none }
def fnExactRepairAtRow : OpenClaim := { program := "ythkpnfoapjhleaa", sum := "49a8019ff596a55586ac1917e636b54513c46e9c95c4555d7fb0bbc5b41abda0", func := "loop.example/g01300/laws.FnExactRepairAt", spec := "fnExactRepairAt", unfollowed := true, recurses := true, apart := false }
def FnExactRepairAtSaid : Prop := fnExactRepairAtRow.holds Try.pinned (OpenSpec.ofChange fnExactRepairAtSpec)

/-- ITS FALSE NEIGHBOUR: 'it returns false'. Refute it at one input. -/
def fnExactRepairAtWrong : ChangeSpec := { name := "fnExactRepairAt", fn := fun _ => fun
  | [d1, d2, d3] => { results := [.lit (.bool false)], args := [d1, d2, d3] }
  | _ => none }
def FnExactRepairAtWrongFalsely : Prop := fnExactRepairAtRow.holds Try.pinned (OpenSpec.ofChange fnExactRepairAtWrong)

/-- 'laws.FnExactSameSpots': WHATEVER THE INPUT: true; the input reads as it did. -/
def fnExactSameSpotsSpec : ChangeSpec := { name := "fnExactSameSpots", fn := fun _ => fun
  | [d1, d2] => { results := [.lit (.bool true)], args := [d1, d2] }
  | _ => none }
def fnExactSameSpotsRow : OpenClaim := { program := "ythkpnfoapjhleaa", sum := "49a8019ff596a55586ac1917e636b54513c46e9c95c4555d7fb0bbc5b41abda0", func := "loop.example/g01300/laws.FnExactSameSpots", spec := "fnExactSameSpots", apart := false }
def FnExactSameSpotsSaid : Prop := fnExactSameSpotsRow.holds Try.pinned (OpenSpec.ofChange fnExactSameSpotsSpec)

/-- ITS FALSE NEIGHBOUR: 'it returns false'. Refute it at one input. -/
def fnExactSameSpotsWrong : ChangeSpec := { name := "fnExactSameSpots", fn := fun _ => fun
  | [d1, d2] => { results := [.lit (.bool false)], args := [d1, d2] }
  | _ => none }
def FnExactSameSpotsWrongFalsely : Prop := fnExactSameSpotsRow.holds Try.pinned (OpenSpec.ofChange fnExactSameSpotsWrong)

/-- 'laws.FnExactLikeliestPath': WHATEVER THE INPUT: true; the input reads as it did. -/
def fnExactLikeliestPathSpec : ChangeSpec := { name := "fnExactLikeliestPath", fn := fun _ => fun
  | [d1, d2, d3, d4, d5] => { results := [.lit (.bool true)], args := [d1, d2, d3, d4, d5] }
  | _ => none }
def fnExactLikeliestPathRow : OpenClaim := { program := "ythkpnfoapjhleaa", sum := "49a8019ff596a55586ac1917e636b54513c46e9c95c4555d7fb0bbc5b41abda0", func := "loop.example/g01300/laws.FnExactLikeliestPath", spec := "fnExactLikeliestPath", unfollowed := true, recurses := true, apart := false }
def FnExactLikeliestPathSaid : Prop := fnExactLikeliestPathRow.holds Try.pinned (OpenSpec.ofChange fnExactLikeliestPathSpec)

/-- ITS FALSE NEIGHBOUR: 'it returns false'. Refute it at one input. -/
def fnExactLikeliestPathWrong : ChangeSpec := { name := "fnExactLikeliestPath", fn := fun _ => fun
  | [d1, d2, d3, d4, d5] => { results := [.lit (.bool false)], args := [d1, d2, d3, d4, d5] }
  | _ => none }
def FnExactLikeliestPathWrongFalsely : Prop := fnExactLikeliestPathRow.holds Try.pinned (OpenSpec.ofChange fnExactLikeliestPathWrong)

/-- 'laws.FnExactPathParts': WHATEVER THE INPUT: true; the input reads as it did. -/
def fnExactPathPartsSpec : ChangeSpec := { name := "fnExactPathParts", fn := fun _ => fun
  | [d1, d2, d3] => { results := [.lit (.bool true)], args := [d1, d2, d3] }
  | _ => none }
def fnExactPathPartsRow : OpenClaim := { program := "ythkpnfoapjhleaa", sum := "49a8019ff596a55586ac1917e636b54513c46e9c95c4555d7fb0bbc5b41abda0", func := "loop.example/g01300/laws.FnExactPathParts", spec := "fnExactPathParts", unfollowed := true, recurses := true, apart := false }
def FnExactPathPartsSaid : Prop := fnExactPathPartsRow.holds Try.pinned (OpenSpec.ofChange fnExactPathPartsSpec)

/-- ITS FALSE NEIGHBOUR: 'it returns false'. Refute it at one input. -/
def fnExactPathPartsWrong : ChangeSpec := { name := "fnExactPathParts", fn := fun _ => fun
  | [d1, d2, d3] => { results := [.lit (.bool false)], args := [d1, d2, d3] }
  | _ => none }
def FnExactPathPartsWrongFalsely : Prop := fnExactPathPartsRow.holds Try.pinned (OpenSpec.ofChange fnExactPathPartsWrong)

/-- 'laws.FnExactDriftBottle': WHATEVER THE INPUT: true; the input reads as it did. -/
def fnExactDriftBottleSpec : ChangeSpec := { name := "fnExactDriftBottle", fn := fun _ => fun
  | [d1, d2, d3, d4, d5] => { results := [.lit (.bool true)], args := [d1, d2, d3, d4, d5] }
  | _ => none }
def fnExactDriftBottleRow : OpenClaim := { program := "ythkpnfoapjhleaa", sum := "49a8019ff596a55586ac1917e636b54513c46e9c95c4555d7fb0bbc5b41abda0", func := "loop.example/g01300/laws.FnExactDriftBottle", spec := "fnExactDriftBottle", unfollowed := true, recurses := true, apart := false }
def FnExactDriftBottleSaid : Prop := fnExactDriftBottleRow.holds Try.pinned (OpenSpec.ofChange fnExactDriftBottleSpec)

/-- ITS FALSE NEIGHBOUR: 'it returns false'. Refute it at one input. -/
def fnExactDriftBottleWrong : ChangeSpec := { name := "fnExactDriftBottle", fn := fun _ => fun
  | [d1, d2, d3, d4, d5] => { results := [.lit (.bool false)], args := [d1, d2, d3, d4, d5] }
  | _ => none }
def FnExactDriftBottleWrongFalsely : Prop := fnExactDriftBottleRow.holds Try.pinned (OpenSpec.ofChange fnExactDriftBottleWrong)

/-- 'laws.FnExactCountDrifts': WHATEVER THE INPUT: true; the input reads as it did. -/
def fnExactCountDriftsSpec : ChangeSpec := { name := "fnExactCountDrifts", fn := fun _ => fun
  | [d1, d2, d3, d4, d5, d6] => { results := [.lit (.bool true)], args := [d1, d2, d3, d4, d5, d6] }
  | _ => none }
def fnExactCountDriftsRow : OpenClaim := { program := "ythkpnfoapjhleaa", sum := "49a8019ff596a55586ac1917e636b54513c46e9c95c4555d7fb0bbc5b41abda0", func := "loop.example/g01300/laws.FnExactCountDrifts", spec := "fnExactCountDrifts", unfollowed := true, recurses := true, apart := false }
def FnExactCountDriftsSaid : Prop := fnExactCountDriftsRow.holds Try.pinned (OpenSpec.ofChange fnExactCountDriftsSpec)

/-- ITS FALSE NEIGHBOUR: 'it returns false'. Refute it at one input. -/
def fnExactCountDriftsWrong : ChangeSpec := { name := "fnExactCountDrifts", fn := fun _ => fun
  | [d1, d2, d3, d4, d5, d6] => { results := [.lit (.bool false)], args := [d1, d2, d3, d4, d5, d6] }
  | _ => none }
def FnExactCountDriftsWrongFalsely : Prop := fnExactCountDriftsRow.holds Try.pinned (OpenSpec.ofChange fnExactCountDriftsWrong)

/- THE SECOND FORM. 'bulk': how many values and letters a reading holds, each counted each time it is reached (what is shared counts as often as it is met; a slice's spare places count too). A statement '..UptoSaid' is the law's where the arguments, and the package variables that the reading takes, are together of bulk at most 1048576: NARROWER than '..Said'. Prove '..Said' where nothing that the law and all that it calls make is longer than what came in: it says more and counts as full. Else prove '..UptoSaid'. A law counts once. -/
mutual
def uptoBulk {H : Type} : DataW H → Nat
  | .lit (.string bytes) => bytes.length + 1
  | .lit _ => 1
  | .nil => 1
  | .ptr d => uptoBulk d + 1
  | .slice elems spare => uptoBulkAll elems + uptoBulkAll spare + 1
  | .agg parts => uptoBulkAll parts + 1
  | .iface _ d => uptoBulk d + 1
  | .map entries => uptoBulkEntries entries + 1
  | .held _ => 1
def uptoBulkAll {H : Type} : List (DataW H) → Nat
  | [] => 0
  | d :: r => uptoBulk d + uptoBulkAll r
def uptoBulkEntries {H : Type} : List (Lit × DataW H) → Nat
  | [] => 0
  | x :: r => uptoBulkEntry x + uptoBulkEntries r
def uptoBulkEntry {H : Type} : Lit × DataW H → Nat
  | (.string bytes, d) => bytes.length + uptoBulk d + 1
  | (_, d) => uptoBulk d + 1
 end
def uptoSmall : (H : Type) → List (DataW H) → Bool := fun _ ds => decide (uptoBulkAll ds ≤ 1048576)
def OpenSpec.upto (s : _root_.Go.ChangeSpec) : _root_.Go.OpenSpec := { _root_.Go.OpenSpec.ofChange s with cond := some uptoSmall }

/-- 'laws.FnExactLogOf', WHERE WHAT IT READS IS OF BULK AT MOST 1048576: true; the input reads as it did. -/
def fnExactLogOfUptoRow : OpenClaim := { program := "ythkpnfoapjhleaa", sum := "49a8019ff596a55586ac1917e636b54513c46e9c95c4555d7fb0bbc5b41abda0", func := "loop.example/g01300/laws.FnExactLogOf", spec := "fnExactLogOf", apart := false, narrowed := true }
def FnExactLogOfUptoSaid : Prop := fnExactLogOfUptoRow.holds Try.pinned (OpenSpec.upto fnExactLogOfSpec)

/-- 'laws.FnExactDifferingSpots', WHERE WHAT IT READS IS OF BULK AT MOST 1048576: true; the input reads as it did. -/
def fnExactDifferingSpotsUptoRow : OpenClaim := { program := "ythkpnfoapjhleaa", sum := "49a8019ff596a55586ac1917e636b54513c46e9c95c4555d7fb0bbc5b41abda0", func := "loop.example/g01300/laws.FnExactDifferingSpots", spec := "fnExactDifferingSpots", unfollowed := true, recurses := true, apart := false, narrowed := true }
def FnExactDifferingSpotsUptoSaid : Prop := fnExactDifferingSpotsUptoRow.holds Try.pinned (OpenSpec.upto fnExactDifferingSpotsSpec)

/-- 'laws.FnExactRepairAt', WHERE WHAT IT READS IS OF BULK AT MOST 1048576: true; the input reads as it did. -/
def fnExactRepairAtUptoRow : OpenClaim := { program := "ythkpnfoapjhleaa", sum := "49a8019ff596a55586ac1917e636b54513c46e9c95c4555d7fb0bbc5b41abda0", func := "loop.example/g01300/laws.FnExactRepairAt", spec := "fnExactRepairAt", unfollowed := true, recurses := true, apart := false, narrowed := true }
def FnExactRepairAtUptoSaid : Prop := fnExactRepairAtUptoRow.holds Try.pinned (OpenSpec.upto fnExactRepairAtSpec)

/-- 'laws.FnExactSameSpots', WHERE WHAT IT READS IS OF BULK AT MOST 1048576: true; the input reads as it did. -/
def fnExactSameSpotsUptoRow : OpenClaim := { program := "ythkpnfoapjhleaa", sum := "49a8019ff596a55586ac1917e636b54513c46e9c95c4555d7fb0bbc5b41abda0", func := "loop.example/g01300/laws.FnExactSameSpots", spec := "fnExactSameSpots", apart := false, narrowed := true }
def FnExactSameSpotsUptoSaid : Prop := fnExactSameSpotsUptoRow.holds Try.pinned (OpenSpec.upto fnExactSameSpotsSpec)

/-- 'laws.FnExactLikeliestPath', WHERE WHAT IT READS IS OF BULK AT MOST 1048576: true; the input reads as it did. -/
def fnExactLikeliestPathUptoRow : OpenClaim := { program := "ythkpnfoapjhleaa", sum := "49a8019ff596a55586ac1917e636b54513c46e9c95c4555d7fb0bbc5b41abda0", func := "loop.example/g01300/laws.FnExactLikeliestPath", spec := "fnExactLikeliestPath", unfollowed := true, recurses := true, apart := false, narrowed := true }
def FnExactLikeliestPathUptoSaid : Prop := fnExactLikeliestPathUptoRow.holds Try.pinned (OpenSpec.upto fnExactLikeliestPathSpec)

/-- 'laws.FnExactPathParts', WHERE WHAT IT READS IS OF BULK AT MOST 1048576: true; the input reads as it did. -/
def fnExactPathPartsUptoRow : OpenClaim := { program := "ythkpnfoapjhleaa", sum := "49a8019ff596a55586ac1917e636b54513c46e9c95c4555d7fb0bbc5b41abda0", func := "loop.example/g01300/laws.FnExactPathParts", spec := "fnExactPathParts", unfollowed := true, recurses := true, apart := false, narrowed := true }
def FnExactPathPartsUptoSaid : Prop := fnExactPathPartsUptoRow.holds Try.pinned (OpenSpec.upto fnExactPathPartsSpec)

/-- 'laws.FnExactDriftBottle', WHERE WHAT IT READS IS OF BULK AT MOST 1048576: true; the input reads as it did. -/
def fnExactDriftBottleUptoRow : OpenClaim := { program := "ythkpnfoapjhleaa", sum := "49a8019ff596a55586ac1917e636b54513c46e9c95c4555d7fb0bbc5b41abda0", func := "loop.example/g01300/laws.FnExactDriftBottle", spec := "fnExactDriftBottle", unfollowed := true, recurses := true, apart := false, narrowed := true }
def FnExactDriftBottleUptoSaid : Prop := fnExactDriftBottleUptoRow.holds Try.pinned (OpenSpec.upto fnExactDriftBottleSpec)

/-- 'laws.FnExactCountDrifts', WHERE WHAT IT READS IS OF BULK AT MOST 1048576: true; the input reads as it did. -/
def fnExactCountDriftsUptoRow : OpenClaim := { program := "ythkpnfoapjhleaa", sum := "49a8019ff596a55586ac1917e636b54513c46e9c95c4555d7fb0bbc5b41abda0", func := "loop.example/g01300/laws.FnExactCountDrifts", spec := "fnExactCountDrifts", unfollowed := true, recurses := true, apart := false, narrowed := true }
def FnExactCountDriftsUptoSaid : Prop := fnExactCountDriftsUptoRow.holds Try.pinned (OpenSpec.upto fnExactCountDriftsSpec)

end Rows
end Go.Proofs.Ythkpnfoapjhleaa
