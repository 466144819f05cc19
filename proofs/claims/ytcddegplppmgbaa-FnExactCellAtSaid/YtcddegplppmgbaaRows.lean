/-
  No cell of these rows narrows 'for every input' (looked for: loops, veiled, ifaces, maps, wideKeys, modest, calm, conditions, laid).
  DERIVED. THE GIVEN ROWS OF THIS SEAT. 6 by the template 'for every input the law returns true; each argument reads behind the call as it read before'; 0 by the template 'total and deterministic' (their statements: YtcddegplppmgbaaTotals.lean).
  GIVEN WITH THE SEED: the statements are not yours to turn. If you find one false, say at which input.
  Laid BY PROGRAM, IN A SANDBOX (cutbox-rows.mjs): the forced cells as the released guide's own fill.sh prints them over the translation d75a9a22769be955… (all of the seat's roots in one cut). By AI agents, Wed Nov 11 2026. No macro, syntax, notation, axiom, sorry.
-/
import Derived.Test.YtcddegplppmgbaaChecked
import GoSem.Claim
import GoSem.ClaimJoined
import GoSem.ClaimMapViews
import Derived.JoinedTies
import Derived.KernelRfl
namespace Go.Proofs.Ytcddegplppmgbaa
/- THE CELL 'sum', in the pinned program and in every row, IS THE sha256 OF THE DUMP (.gsa) THAT YtcddegplppmgbaaProg.lean LOADS. Nothing in Lean hashes anything: it is a label: what it is worth is what the hold of that sum in a sandbox is worth. -/
noncomputable def Try.pinned : Pinned := { name := "ytcddegplppmgbaa", sum := "d75a9a22769be955a43ee46fca4cda294735cf70252ac969c52c673424a7ba9a", checked := Try.checked }
namespace Rows
def none {H : Type} : Left H := { results := [], args := [] }

/-- 'laws.FnExactCodeName': WHATEVER THE INPUT: true; the input reads as it did. -/
def fnExactCodeNameSpec : ChangeSpec := { name := "fnExactCodeName", fn := fun _ => fun
  | [d] => { results := [.lit (.bool true)], args := [d] }
  | _ => none }
def fnExactCodeNameRow : OpenClaim := { program := "ytcddegplppmgbaa", sum := "d75a9a22769be955a43ee46fca4cda294735cf70252ac969c52c673424a7ba9a", func := "loop.example/g01300/laws.FnExactCodeName", spec := "fnExactCodeName", apart := false }
def FnExactCodeNameSaid : Prop := fnExactCodeNameRow.holds Try.pinned (OpenSpec.ofChange fnExactCodeNameSpec)

/-- ITS FALSE NEIGHBOUR: 'it returns false'. Refute it at one input. -/
def fnExactCodeNameWrong : ChangeSpec := { name := "fnExactCodeName", fn := fun _ => fun
  | [d] => { results := [.lit (.bool false)], args := [d] }
  | _ => none }
def FnExactCodeNameWrongFalsely : Prop := fnExactCodeNameRow.holds Try.pinned (OpenSpec.ofChange fnExactCodeNameWrong)

/-- 'laws.FnExactValidChances': WHATEVER THE INPUT: true; the input reads as it did. -/
def fnExactValidChancesSpec : ChangeSpec := { name := "fnExactValidChances", fn := fun _ => fun
  | [d] => { results := [.lit (.bool true)], args := [d] }
  | _ => none }
def fnExactValidChancesRow : OpenClaim := { program := "ytcddegplppmgbaa", sum := "d75a9a22769be955a43ee46fca4cda294735cf70252ac969c52c673424a7ba9a", func := "loop.example/g01300/laws.FnExactValidChances", spec := "fnExactValidChances", apart := false }
def FnExactValidChancesSaid : Prop := fnExactValidChancesRow.holds Try.pinned (OpenSpec.ofChange fnExactValidChancesSpec)

/-- ITS FALSE NEIGHBOUR: 'it returns false'. Refute it at one input. -/
def fnExactValidChancesWrong : ChangeSpec := { name := "fnExactValidChances", fn := fun _ => fun
  | [d] => { results := [.lit (.bool false)], args := [d] }
  | _ => none }
def FnExactValidChancesWrongFalsely : Prop := fnExactValidChancesRow.holds Try.pinned (OpenSpec.ofChange fnExactValidChancesWrong)

/-- 'laws.FnExactSameSea': WHATEVER THE INPUT: true; the input reads as it did. -/
def fnExactSameSeaSpec : ChangeSpec := { name := "fnExactSameSea", fn := fun _ => fun
  | [d1, d2] => { results := [.lit (.bool true)], args := [d1, d2] }
  | _ => none }
def fnExactSameSeaRow : OpenClaim := { program := "ytcddegplppmgbaa", sum := "d75a9a22769be955a43ee46fca4cda294735cf70252ac969c52c673424a7ba9a", func := "loop.example/g01300/laws.FnExactSameSea", spec := "fnExactSameSea", apart := false }
def FnExactSameSeaSaid : Prop := fnExactSameSeaRow.holds Try.pinned (OpenSpec.ofChange fnExactSameSeaSpec)

/-- ITS FALSE NEIGHBOUR: 'it returns false'. Refute it at one input. -/
def fnExactSameSeaWrong : ChangeSpec := { name := "fnExactSameSea", fn := fun _ => fun
  | [d1, d2] => { results := [.lit (.bool false)], args := [d1, d2] }
  | _ => none }
def FnExactSameSeaWrongFalsely : Prop := fnExactSameSeaRow.holds Try.pinned (OpenSpec.ofChange fnExactSameSeaWrong)

/-- 'laws.FnExactStillSea': WHATEVER THE INPUT: true; the input reads as it did. -/
def fnExactStillSeaSpec : ChangeSpec := { name := "fnExactStillSea", fn := fun _ => fun
  | [d1, d2, d3] => { results := [.lit (.bool true)], args := [d1, d2, d3] }
  | _ => none }
def fnExactStillSeaRow : OpenClaim := { program := "ytcddegplppmgbaa", sum := "d75a9a22769be955a43ee46fca4cda294735cf70252ac969c52c673424a7ba9a", func := "loop.example/g01300/laws.FnExactStillSea", spec := "fnExactStillSea", unfollowed := true, recurses := true, apart := false }
def FnExactStillSeaSaid : Prop := fnExactStillSeaRow.holds Try.pinned (OpenSpec.ofChange fnExactStillSeaSpec)

/-- ITS FALSE NEIGHBOUR: 'it returns false'. Refute it at one input. -/
def fnExactStillSeaWrong : ChangeSpec := { name := "fnExactStillSea", fn := fun _ => fun
  | [d1, d2, d3] => { results := [.lit (.bool false)], args := [d1, d2, d3] }
  | _ => none }
def FnExactStillSeaWrongFalsely : Prop := fnExactStillSeaRow.holds Try.pinned (OpenSpec.ofChange fnExactStillSeaWrong)

/-- 'laws.FnExactValidSea': WHATEVER THE INPUT: true; the input reads as it did. -/
def fnExactValidSeaSpec : ChangeSpec := { name := "fnExactValidSea", fn := fun _ => fun
  | [d] => { results := [.lit (.bool true)], args := [d] }
  | _ => none }
def fnExactValidSeaRow : OpenClaim := { program := "ytcddegplppmgbaa", sum := "d75a9a22769be955a43ee46fca4cda294735cf70252ac969c52c673424a7ba9a", func := "loop.example/g01300/laws.FnExactValidSea", spec := "fnExactValidSea", unfollowed := true, recurses := true, apart := false }
def FnExactValidSeaSaid : Prop := fnExactValidSeaRow.holds Try.pinned (OpenSpec.ofChange fnExactValidSeaSpec)

/-- ITS FALSE NEIGHBOUR: 'it returns false'. Refute it at one input. -/
def fnExactValidSeaWrong : ChangeSpec := { name := "fnExactValidSea", fn := fun _ => fun
  | [d] => { results := [.lit (.bool false)], args := [d] }
  | _ => none }
def FnExactValidSeaWrongFalsely : Prop := fnExactValidSeaRow.holds Try.pinned (OpenSpec.ofChange fnExactValidSeaWrong)

/-- 'laws.FnExactCellAt': WHATEVER THE INPUT: true; the input reads as it did. -/
def fnExactCellAtSpec : ChangeSpec := { name := "fnExactCellAt", fn := fun _ => fun
  | [d1, d2, d3] => { results := [.lit (.bool true)], args := [d1, d2, d3] }
  | _ => none }
def fnExactCellAtRow : OpenClaim := { program := "ytcddegplppmgbaa", sum := "d75a9a22769be955a43ee46fca4cda294735cf70252ac969c52c673424a7ba9a", func := "loop.example/g01300/laws.FnExactCellAt", spec := "fnExactCellAt", unfollowed := true, recurses := true, apart := false }
def FnExactCellAtSaid : Prop := fnExactCellAtRow.holds Try.pinned (OpenSpec.ofChange fnExactCellAtSpec)

/-- ITS FALSE NEIGHBOUR: 'it returns false'. Refute it at one input. -/
def fnExactCellAtWrong : ChangeSpec := { name := "fnExactCellAt", fn := fun _ => fun
  | [d1, d2, d3] => { results := [.lit (.bool false)], args := [d1, d2, d3] }
  | _ => none }
def FnExactCellAtWrongFalsely : Prop := fnExactCellAtRow.holds Try.pinned (OpenSpec.ofChange fnExactCellAtWrong)

/- THE SECOND FORM. 'bulk': how many values and letters a reading holds, each counted each time it is reached (what is shared counts as often as it is met; a slice's spare places count too). A statement '..UptoSaid' is the law's where the arguments, and the package variables that the reading takes, are together of bulk at most 1048576: NARROWER than '..Said'. Prove '..Said' where nothing that the law and all that it calls make is longer than what came in: it says more and counts as full. Else prove '..UptoSaid'. A law counts once. -/
mutual
def uptoBulk {H : Type} : DataW H → Nat
  | .lit (.string bytes) => bytes.length + 1
  | .lit _ => 1
  | .nil => 1
  | .ptr d => uptoBulk d + 1
  | .slice elems spare => uptoBulkAll elems + uptoBulkAll spare + 1
  | .agg parts => uptoBulkAll parts + 1
  | .iface _ d => uptoBulk d + 1
  | .map entries => uptoBulkEntries entries + 1
  | .held _ => 1
def uptoBulkAll {H : Type} : List (DataW H) → Nat
  | [] => 0
  | d :: r => uptoBulk d + uptoBulkAll r
def uptoBulkEntries {H : Type} : List (Lit × DataW H) → Nat
  | [] => 0
  | x :: r => uptoBulkEntry x + uptoBulkEntries r
def uptoBulkEntry {H : Type} : Lit × DataW H → Nat
  | (.string bytes, d) => bytes.length + uptoBulk d + 1
  | (_, d) => uptoBulk d + 1
 end
def uptoSmall : (H : Type) → List (DataW H) → Bool := fun _ ds => decide (uptoBulkAll ds ≤ 1048576)
def OpenSpec.upto (s : _root_.Go.ChangeSpec) : _root_.Go.OpenSpec := { _root_.Go.OpenSpec.ofChange s with cond := some uptoSmall }

/-- 'laws.FnExactCodeName', WHERE WHAT IT READS IS OF BULK AT MOST 1048576: true; the input reads as it did. -/
def fnExactCodeNameUptoRow : OpenClaim := { program := "ytcddegplppmgbaa", sum := "d75a9a22769be955a43ee46fca4cda294735cf70252ac969c52c673424a7ba9a", func := "loop.example/g01300/laws.FnExactCodeName", spec := "fnExactCodeName", apart := false, narrowed := true }
def FnExactCodeNameUptoSaid : Prop := fnExactCodeNameUptoRow.holds Try.pinned (OpenSpec.upto fnExactCodeNameSpec)

/-- 'laws.FnExactValidChances', WHERE WHAT IT READS IS OF BULK AT MOST 1048576: true; the input reads as it did. -/
def fnExactValidChancesUptoRow : OpenClaim := { program := "ytcddegplppmgbaa", sum := "d75a9a22769be955a43ee46fca4cda294735cf70252ac969c52c673424a7ba9a", func := "loop.example/g01300/laws.FnExactValidChances", spec := "fnExactValidChances", apart := false, narrowed := true }
def FnExactValidChancesUptoSaid : Prop := fnExactValidChancesUptoRow.holds Try.pinned (OpenSpec.upto fnExactValidChancesSpec)

/-- 'laws.FnExactSameSea', WHERE WHAT IT READS IS OF BULK AT MOST 1048576: true; the input reads as it did. -/
def fnExactSameSeaUptoRow : OpenClaim := { program := "ytcddegplppmgbaa", sum := "d75a9a22769be955a43ee46fca4cda294735cf70252ac969c52c673424a7ba9a", func := "loop.example/g01300/laws.FnExactSameSea", spec := "fnExactSameSea", apart := false, narrowed := true }
def FnExactSameSeaUptoSaid : Prop := fnExactSameSeaUptoRow.holds Try.pinned (OpenSpec.upto fnExactSameSeaSpec)

/-- 'laws.FnExactStillSea', WHERE WHAT IT READS IS OF BULK AT MOST 1048576: true; the input reads as it did. -/
def fnExactStillSeaUptoRow : OpenClaim := { program := "ytcddegplppmgbaa", sum := "d75a9a22769be955a43ee46fca4cda294735cf70252ac969c52c673424a7ba9a", func := "loop.example/g01300/laws.FnExactStillSea", spec := "fnExactStillSea", unfollowed := true, recurses := true, apart := false, narrowed := true }
def FnExactStillSeaUptoSaid : Prop := fnExactStillSeaUptoRow.holds Try.pinned (OpenSpec.upto fnExactStillSeaSpec)

/-- 'laws.FnExactValidSea', WHERE WHAT IT READS IS OF BULK AT MOST 1048576: true; the input reads as it did. -/
def fnExactValidSeaUptoRow : OpenClaim := { program := "ytcddegplppmgbaa", sum := "d75a9a22769be955a43ee46fca4cda294735cf70252ac969c52c673424a7ba9a", func := "loop.example/g01300/laws.FnExactValidSea", spec := "fnExactValidSea", unfollowed := true, recurses := true, apart := false, narrowed := true }
def FnExactValidSeaUptoSaid : Prop := fnExactValidSeaUptoRow.holds Try.pinned (OpenSpec.upto fnExactValidSeaSpec)

/-- 'laws.FnExactCellAt', WHERE WHAT IT READS IS OF BULK AT MOST 1048576: true; the input reads as it did. -/
def fnExactCellAtUptoRow : OpenClaim := { program := "ytcddegplppmgbaa", sum := "d75a9a22769be955a43ee46fca4cda294735cf70252ac969c52c673424a7ba9a", func := "loop.example/g01300/laws.FnExactCellAt", spec := "fnExactCellAt", unfollowed := true, recurses := true, apart := false, narrowed := true }
def FnExactCellAtUptoSaid : Prop := fnExactCellAtUptoRow.holds Try.pinned (OpenSpec.upto fnExactCellAtSpec)

end Rows
end Go.Proofs.Ytcddegplppmgbaa
