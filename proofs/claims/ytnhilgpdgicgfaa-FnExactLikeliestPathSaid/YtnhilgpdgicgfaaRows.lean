/-
  No cell of these rows narrows 'for every input' (looked for: loops, veiled, ifaces, maps, wideKeys, modest, calm, conditions, laid).
  DERIVED. THE GIVEN ROWS OF THIS SEAT. 7 by the template 'for every input the law returns true; each argument reads behind the call as it read before'; 0 by the template 'total and deterministic' (their statements: YtnhilgpdgicgfaaTotals.lean).
  GIVEN WITH THE SEED: the statements are not yours to turn. If you find one false, say at which input.
  Laid BY PROGRAM, IN A SANDBOX (cutbox-rows.mjs): the forced cells as the released guide's own fill.sh prints them over the translation 5c2d82820efefc87… (all of the seat's roots in one cut). By AI agents, Wed Nov 11 2026. No macro, syntax, notation, axiom, sorry.
-/
import Derived.Test.YtnhilgpdgicgfaaChecked
import GoSem.Claim
import GoSem.ClaimJoined
import GoSem.ClaimMapViews
import Derived.JoinedTies
import Derived.KernelRfl
namespace Go.Proofs.Ytnhilgpdgicgfaa
/- THE CELL 'sum', in the pinned program and in every row, IS THE sha256 OF THE DUMP (.gsa) THAT YtnhilgpdgicgfaaProg.lean LOADS. Nothing in Lean hashes anything: it is a label: what it is worth is what the hold of that sum in a sandbox is worth. -/
noncomputable def Try.pinned : Pinned := { name := "ytnhilgpdgicgfaa", sum := "5c2d82820efefc875a4df42f3cfa52bed7be43cde853337f9353f7ce8d690477", checked := Try.checked }
namespace Rows
def none {H : Type} : Left H := { results := [], args := [] }

/-- 'laws.FnExactDriftBottle': WHATEVER THE INPUT: true; the input reads as it did. -/
def fnExactDriftBottleSpec : ChangeSpec := { name := "fnExactDriftBottle", fn := fun _ => fun
  | [d1, d2, d3, d4, d5] => { results := [.lit (.bool true)], args := [d1, d2, d3, d4, d5] }
  | _ => none }
def fnExactDriftBottleRow : OpenClaim := { program := "ytnhilgpdgicgfaa", sum := "5c2d82820efefc875a4df42f3cfa52bed7be43cde853337f9353f7ce8d690477", func := "loop.example/g01300/laws.FnExactDriftBottle", spec := "fnExactDriftBottle", unfollowed := true, recurses := true, plainKeys := false, apart := false }
def FnExactDriftBottleSaid : Prop := fnExactDriftBottleRow.holds Try.pinned (OpenSpec.ofChange fnExactDriftBottleSpec)

/-- ITS FALSE NEIGHBOUR: 'it returns false'. Refute it at one input. -/
def fnExactDriftBottleWrong : ChangeSpec := { name := "fnExactDriftBottle", fn := fun _ => fun
  | [d1, d2, d3, d4, d5] => { results := [.lit (.bool false)], args := [d1, d2, d3, d4, d5] }
  | _ => none }
def FnExactDriftBottleWrongFalsely : Prop := fnExactDriftBottleRow.holds Try.pinned (OpenSpec.ofChange fnExactDriftBottleWrong)

/-- 'laws.FnExactCountDrifts': WHATEVER THE INPUT: true; the input reads as it did. -/
def fnExactCountDriftsSpec : ChangeSpec := { name := "fnExactCountDrifts", fn := fun _ => fun
  | [d1, d2, d3, d4, d5, d6] => { results := [.lit (.bool true)], args := [d1, d2, d3, d4, d5, d6] }
  | _ => none }
def fnExactCountDriftsRow : OpenClaim := { program := "ytnhilgpdgicgfaa", sum := "5c2d82820efefc875a4df42f3cfa52bed7be43cde853337f9353f7ce8d690477", func := "loop.example/g01300/laws.FnExactCountDrifts", spec := "fnExactCountDrifts", unfollowed := true, recurses := true, plainKeys := false, apart := false }
def FnExactCountDriftsSaid : Prop := fnExactCountDriftsRow.holds Try.pinned (OpenSpec.ofChange fnExactCountDriftsSpec)

/-- ITS FALSE NEIGHBOUR: 'it returns false'. Refute it at one input. -/
def fnExactCountDriftsWrong : ChangeSpec := { name := "fnExactCountDrifts", fn := fun _ => fun
  | [d1, d2, d3, d4, d5, d6] => { results := [.lit (.bool false)], args := [d1, d2, d3, d4, d5, d6] }
  | _ => none }
def FnExactCountDriftsWrongFalsely : Prop := fnExactCountDriftsRow.holds Try.pinned (OpenSpec.ofChange fnExactCountDriftsWrong)

/-- 'laws.FnExactLikeliestPath': WHATEVER THE INPUT: true; the input reads as it did. -/
def fnExactLikeliestPathSpec : ChangeSpec := { name := "fnExactLikeliestPath", fn := fun _ => fun
  | [d1, d2, d3, d4, d5] => { results := [.lit (.bool true)], args := [d1, d2, d3, d4, d5] }
  | _ => none }
def fnExactLikeliestPathRow : OpenClaim := { program := "ytnhilgpdgicgfaa", sum := "5c2d82820efefc875a4df42f3cfa52bed7be43cde853337f9353f7ce8d690477", func := "loop.example/g01300/laws.FnExactLikeliestPath", spec := "fnExactLikeliestPath", unfollowed := true, recurses := true, plainKeys := false, apart := false }
def FnExactLikeliestPathSaid : Prop := fnExactLikeliestPathRow.holds Try.pinned (OpenSpec.ofChange fnExactLikeliestPathSpec)

/-- ITS FALSE NEIGHBOUR: 'it returns false'. Refute it at one input. -/
def fnExactLikeliestPathWrong : ChangeSpec := { name := "fnExactLikeliestPath", fn := fun _ => fun
  | [d1, d2, d3, d4, d5] => { results := [.lit (.bool false)], args := [d1, d2, d3, d4, d5] }
  | _ => none }
def FnExactLikeliestPathWrongFalsely : Prop := fnExactLikeliestPathRow.holds Try.pinned (OpenSpec.ofChange fnExactLikeliestPathWrong)

/-- 'laws.FnExactCanStrand': WHATEVER THE INPUT: true; the input reads as it did. -/
def fnExactCanStrandSpec : ChangeSpec := { name := "fnExactCanStrand", fn := fun _ => fun
  | [d] => { results := [.lit (.bool true)], args := [d] }
  | _ => none }
def fnExactCanStrandRow : OpenClaim := { program := "ytnhilgpdgicgfaa", sum := "5c2d82820efefc875a4df42f3cfa52bed7be43cde853337f9353f7ce8d690477", func := "loop.example/g01300/laws.FnExactCanStrand", spec := "fnExactCanStrand", unfollowed := true, recurses := true, plainKeys := false, apart := false }
def FnExactCanStrandSaid : Prop := fnExactCanStrandRow.holds Try.pinned (OpenSpec.ofChange fnExactCanStrandSpec)

/-- ITS FALSE NEIGHBOUR: 'it returns false'. Refute it at one input. -/
def fnExactCanStrandWrong : ChangeSpec := { name := "fnExactCanStrand", fn := fun _ => fun
  | [d] => { results := [.lit (.bool false)], args := [d] }
  | _ => none }
def FnExactCanStrandWrongFalsely : Prop := fnExactCanStrandRow.holds Try.pinned (OpenSpec.ofChange fnExactCanStrandWrong)

/-- 'laws.FnExactCanBeLost': WHATEVER THE INPUT: true; the input reads as it did. -/
def fnExactCanBeLostSpec : ChangeSpec := { name := "fnExactCanBeLost", fn := fun _ => fun
  | [d] => { results := [.lit (.bool true)], args := [d] }
  | _ => none }
def fnExactCanBeLostRow : OpenClaim := { program := "ytnhilgpdgicgfaa", sum := "5c2d82820efefc875a4df42f3cfa52bed7be43cde853337f9353f7ce8d690477", func := "loop.example/g01300/laws.FnExactCanBeLost", spec := "fnExactCanBeLost", unfollowed := true, recurses := true, plainKeys := false, apart := false }
def FnExactCanBeLostSaid : Prop := fnExactCanBeLostRow.holds Try.pinned (OpenSpec.ofChange fnExactCanBeLostSpec)

/-- ITS FALSE NEIGHBOUR: 'it returns false'. Refute it at one input. -/
def fnExactCanBeLostWrong : ChangeSpec := { name := "fnExactCanBeLost", fn := fun _ => fun
  | [d] => { results := [.lit (.bool false)], args := [d] }
  | _ => none }
def FnExactCanBeLostWrongFalsely : Prop := fnExactCanBeLostRow.holds Try.pinned (OpenSpec.ofChange fnExactCanBeLostWrong)

/-- 'laws.FnExactNeverEnds': WHATEVER THE INPUT: true; the input reads as it did. -/
def fnExactNeverEndsSpec : ChangeSpec := { name := "fnExactNeverEnds", fn := fun _ => fun
  | [d] => { results := [.lit (.bool true)], args := [d] }
  | _ => none }
def fnExactNeverEndsRow : OpenClaim := { program := "ytnhilgpdgicgfaa", sum := "5c2d82820efefc875a4df42f3cfa52bed7be43cde853337f9353f7ce8d690477", func := "loop.example/g01300/laws.FnExactNeverEnds", spec := "fnExactNeverEnds", unfollowed := true, recurses := true, plainKeys := false, apart := false }
def FnExactNeverEndsSaid : Prop := fnExactNeverEndsRow.holds Try.pinned (OpenSpec.ofChange fnExactNeverEndsSpec)

/-- ITS FALSE NEIGHBOUR: 'it returns false'. Refute it at one input. -/
def fnExactNeverEndsWrong : ChangeSpec := { name := "fnExactNeverEnds", fn := fun _ => fun
  | [d] => { results := [.lit (.bool false)], args := [d] }
  | _ => none }
def FnExactNeverEndsWrongFalsely : Prop := fnExactNeverEndsRow.holds Try.pinned (OpenSpec.ofChange fnExactNeverEndsWrong)

/-- 'laws.FnExactOpenFates': WHATEVER THE INPUT: true; the input reads as it did. -/
def fnExactOpenFatesSpec : ChangeSpec := { name := "fnExactOpenFates", fn := fun _ => fun
  | [d] => { results := [.lit (.bool true)], args := [d] }
  | _ => none }
def fnExactOpenFatesRow : OpenClaim := { program := "ytnhilgpdgicgfaa", sum := "5c2d82820efefc875a4df42f3cfa52bed7be43cde853337f9353f7ce8d690477", func := "loop.example/g01300/laws.FnExactOpenFates", spec := "fnExactOpenFates", unfollowed := true, recurses := true, plainKeys := false, apart := false }
def FnExactOpenFatesSaid : Prop := fnExactOpenFatesRow.holds Try.pinned (OpenSpec.ofChange fnExactOpenFatesSpec)

/-- ITS FALSE NEIGHBOUR: 'it returns false'. Refute it at one input. -/
def fnExactOpenFatesWrong : ChangeSpec := { name := "fnExactOpenFates", fn := fun _ => fun
  | [d] => { results := [.lit (.bool false)], args := [d] }
  | _ => none }
def FnExactOpenFatesWrongFalsely : Prop := fnExactOpenFatesRow.holds Try.pinned (OpenSpec.ofChange fnExactOpenFatesWrong)

/- THE SECOND FORM. 'bulk': how many values and letters a reading holds, each counted each time it is reached (what is shared counts as often as it is met; a slice's spare places count too). A statement '..UptoSaid' is the law's where the arguments, and the package variables that the reading takes, are together of bulk at most 1048576: NARROWER than '..Said'. Prove '..Said' where nothing that the law and all that it calls make is longer than what came in: it says more and counts as full. Else prove '..UptoSaid'. A law counts once. -/
mutual
def uptoBulk {H : Type} : DataW H → Nat
  | .lit (.string bytes) => bytes.length + 1
  | .lit _ => 1
  | .nil => 1
  | .ptr d => uptoBulk d + 1
  | .slice elems spare => uptoBulkAll elems + uptoBulkAll spare + 1
  | .agg parts => uptoBulkAll parts + 1
  | .iface _ d => uptoBulk d + 1
  | .map entries => uptoBulkEntries entries + 1
  | .held _ => 1
def uptoBulkAll {H : Type} : List (DataW H) → Nat
  | [] => 0
  | d :: r => uptoBulk d + uptoBulkAll r
def uptoBulkEntries {H : Type} : List (Lit × DataW H) → Nat
  | [] => 0
  | x :: r => uptoBulkEntry x + uptoBulkEntries r
def uptoBulkEntry {H : Type} : Lit × DataW H → Nat
  | (.string bytes, d) => bytes.length + uptoBulk d + 1
  | (_, d) => uptoBulk d + 1
 end
def uptoSmall : (H : Type) → List (DataW H) → Bool := fun _ ds => decide (uptoBulkAll ds ≤ 1048576)
def OpenSpec.upto (s : _root_.Go.ChangeSpec) : _root_.Go.OpenSpec := { _root_.Go.OpenSpec.ofChange s with cond := some uptoSmall }

/-- 'laws.FnExactDriftBottle', WHERE WHAT IT READS IS OF BULK AT MOST 1048576: true; the input reads as it did. -/
def fnExactDriftBottleUptoRow : OpenClaim := { program := "ytnhilgpdgicgfaa", sum := "5c2d82820efefc875a4df42f3cfa52bed7be43cde853337f9353f7ce8d690477", func := "loop.example/g01300/laws.FnExactDriftBottle", spec := "fnExactDriftBottle", unfollowed := true, recurses := true, plainKeys := false, apart := false, narrowed := true }
def FnExactDriftBottleUptoSaid : Prop := fnExactDriftBottleUptoRow.holds Try.pinned (OpenSpec.upto fnExactDriftBottleSpec)

/-- 'laws.FnExactCountDrifts', WHERE WHAT IT READS IS OF BULK AT MOST 1048576: true; the input reads as it did. -/
def fnExactCountDriftsUptoRow : OpenClaim := { program := "ytnhilgpdgicgfaa", sum := "5c2d82820efefc875a4df42f3cfa52bed7be43cde853337f9353f7ce8d690477", func := "loop.example/g01300/laws.FnExactCountDrifts", spec := "fnExactCountDrifts", unfollowed := true, recurses := true, plainKeys := false, apart := false, narrowed := true }
def FnExactCountDriftsUptoSaid : Prop := fnExactCountDriftsUptoRow.holds Try.pinned (OpenSpec.upto fnExactCountDriftsSpec)

/-- 'laws.FnExactLikeliestPath', WHERE WHAT IT READS IS OF BULK AT MOST 1048576: true; the input reads as it did. -/
def fnExactLikeliestPathUptoRow : OpenClaim := { program := "ytnhilgpdgicgfaa", sum := "5c2d82820efefc875a4df42f3cfa52bed7be43cde853337f9353f7ce8d690477", func := "loop.example/g01300/laws.FnExactLikeliestPath", spec := "fnExactLikeliestPath", unfollowed := true, recurses := true, plainKeys := false, apart := false, narrowed := true }
def FnExactLikeliestPathUptoSaid : Prop := fnExactLikeliestPathUptoRow.holds Try.pinned (OpenSpec.upto fnExactLikeliestPathSpec)

/-- 'laws.FnExactCanStrand', WHERE WHAT IT READS IS OF BULK AT MOST 1048576: true; the input reads as it did. -/
def fnExactCanStrandUptoRow : OpenClaim := { program := "ytnhilgpdgicgfaa", sum := "5c2d82820efefc875a4df42f3cfa52bed7be43cde853337f9353f7ce8d690477", func := "loop.example/g01300/laws.FnExactCanStrand", spec := "fnExactCanStrand", unfollowed := true, recurses := true, plainKeys := false, apart := false, narrowed := true }
def FnExactCanStrandUptoSaid : Prop := fnExactCanStrandUptoRow.holds Try.pinned (OpenSpec.upto fnExactCanStrandSpec)

/-- 'laws.FnExactCanBeLost', WHERE WHAT IT READS IS OF BULK AT MOST 1048576: true; the input reads as it did. -/
def fnExactCanBeLostUptoRow : OpenClaim := { program := "ytnhilgpdgicgfaa", sum := "5c2d82820efefc875a4df42f3cfa52bed7be43cde853337f9353f7ce8d690477", func := "loop.example/g01300/laws.FnExactCanBeLost", spec := "fnExactCanBeLost", unfollowed := true, recurses := true, plainKeys := false, apart := false, narrowed := true }
def FnExactCanBeLostUptoSaid : Prop := fnExactCanBeLostUptoRow.holds Try.pinned (OpenSpec.upto fnExactCanBeLostSpec)

/-- 'laws.FnExactNeverEnds', WHERE WHAT IT READS IS OF BULK AT MOST 1048576: true; the input reads as it did. -/
def fnExactNeverEndsUptoRow : OpenClaim := { program := "ytnhilgpdgicgfaa", sum := "5c2d82820efefc875a4df42f3cfa52bed7be43cde853337f9353f7ce8d690477", func := "loop.example/g01300/laws.FnExactNeverEnds", spec := "fnExactNeverEnds", unfollowed := true, recurses := true, plainKeys := false, apart := false, narrowed := true }
def FnExactNeverEndsUptoSaid : Prop := fnExactNeverEndsUptoRow.holds Try.pinned (OpenSpec.upto fnExactNeverEndsSpec)

/-- 'laws.FnExactOpenFates', WHERE WHAT IT READS IS OF BULK AT MOST 1048576: true; the input reads as it did. -/
def fnExactOpenFatesUptoRow : OpenClaim := { program := "ytnhilgpdgicgfaa", sum := "5c2d82820efefc875a4df42f3cfa52bed7be43cde853337f9353f7ce8d690477", func := "loop.example/g01300/laws.FnExactOpenFates", spec := "fnExactOpenFates", unfollowed := true, recurses := true, plainKeys := false, apart := false, narrowed := true }
def FnExactOpenFatesUptoSaid : Prop := fnExactOpenFatesUptoRow.holds Try.pinned (OpenSpec.upto fnExactOpenFatesSpec)

end Rows
end Go.Proofs.Ytnhilgpdgicgfaa
