/-
  DERIVED. GIVEN WITH THE SEED: THE CARDS: each row of YtefjogahegolbaaDoorRows.lean that lists a variable, with what it lists TIED to the program's text (the seventh form; the later family's looks); each row that meets fmt, with fmt's text TOLD by the authors' own Lean function (tested against real Go, not proved from fmt's source: count such statements apart). THE CARD IS WHAT COUNTS. Prove the row's statement (the work); the ties are given (YtefjogahegolbaaDoorTie.lean); close each card by the builder's one call (the guide's Derived/Test/ToyasCard.lean, 'card_holds'). Laid BY PROGRAM, IN A SANDBOX (cutbox-door.mjs). By AI agents, Wed Nov 11 2026. No macro, syntax, notation, axiom, sorry.
-/
import Derived.Test.YtefjogahegolbaaDoorRows
import GoSem.ClaimSeven
namespace Go.Proofs.YtefjogahegolbaaDoor
namespace Rows

/-- THE TIED CARD OF 'laws.FnExactEarliestFind'. -/
def fnExactEarliestFindCard : Claim7 := { stood := { row := fnExactEarliestFindRow, standIns := [], harness := (true, "cc71cdf5d88d8f15ef12e6dc5492b7d0ff5100b80794408fcb9ed586746156eb"), looks := true }, kinds := [], alts := [], goes := true, laidByText := true, laidKinds := [.sentinel, .sentinel, .sentinel, .sentinel, .sentinel], laidTests := true, laidLooks := .later }
def FnExactEarliestFindCardSaid : Prop := Claim7.holds Tryd.pinned (.plain (OpenSpec.ofChange fnExactEarliestFindSpec)) fnExactEarliestFindCard

/-- THE TIED CARD OF 'laws.FnExactTellingFind'. -/
def fnExactTellingFindCard : Claim7 := { stood := { row := fnExactTellingFindRow, standIns := [], harness := (true, "cc71cdf5d88d8f15ef12e6dc5492b7d0ff5100b80794408fcb9ed586746156eb"), looks := true }, kinds := [], alts := [], goes := true, laidByText := true, laidKinds := [.sentinel, .sentinel, .sentinel, .sentinel, .sentinel], laidTests := true, laidLooks := .later }
def FnExactTellingFindCardSaid : Prop := Claim7.holds Tryd.pinned (.plain (OpenSpec.ofChange fnExactTellingFindSpec)) fnExactTellingFindCard

/-- THE SECOND FORM's CARD OF 'laws.FnExactEarliestFind'. -/
def fnExactEarliestFindUptoCard : Claim7 := { stood := { row := fnExactEarliestFindUptoRow, standIns := [], harness := (true, "cc71cdf5d88d8f15ef12e6dc5492b7d0ff5100b80794408fcb9ed586746156eb"), looks := true }, kinds := [], alts := [], goes := true, laidByText := true, laidKinds := [.sentinel, .sentinel, .sentinel, .sentinel, .sentinel], laidTests := true, laidLooks := .later }
def FnExactEarliestFindUptoCardSaid : Prop := Claim7.holds Tryd.pinned (.plain (OpenSpec.upto fnExactEarliestFindSpec)) fnExactEarliestFindUptoCard

/-- THE SECOND FORM's CARD OF 'laws.FnExactTellingFind'. -/
def fnExactTellingFindUptoCard : Claim7 := { stood := { row := fnExactTellingFindUptoRow, standIns := [], harness := (true, "cc71cdf5d88d8f15ef12e6dc5492b7d0ff5100b80794408fcb9ed586746156eb"), looks := true }, kinds := [], alts := [], goes := true, laidByText := true, laidKinds := [.sentinel, .sentinel, .sentinel, .sentinel, .sentinel], laidTests := true, laidLooks := .later }
def FnExactTellingFindUptoCardSaid : Prop := Claim7.holds Tryd.pinned (.plain (OpenSpec.upto fnExactTellingFindSpec)) fnExactTellingFindUptoCard
end Rows
end Go.Proofs.YtefjogahegolbaaDoor
