/-
  DERIVED. GIVEN WITH THE SEED: THE CARDS: each row of YtgllknjdblkhnaaGreatDoorRows.lean that lists a variable, with what it lists TIED to the program's text (the seventh form; the later family's looks); each row that meets fmt, with fmt's text TOLD by the authors' own Lean function (tested against real Go, not proved from fmt's source: count such statements apart). THE CARD IS WHAT COUNTS. Prove the row's statement (the work); the ties are given (YtgllknjdblkhnaaGreatDoorTie.lean); close each card by the builder's one call (the guide's Derived/Test/ToyasCard.lean, 'card_holds'). Laid BY PROGRAM, IN A SANDBOX (cutbox-door.mjs). By AI agents, Wed Nov 11 2026. No macro, syntax, notation, axiom, sorry.
-/
import Derived.Test.YtgllknjdblkhnaaGreatDoorRows
import GoSem.ClaimSeven
namespace Go.Proofs.YtgllknjdblkhnaaGreatDoor
namespace Rows

/-- THE TIED CARD OF 'laws.FnExactPlanFewest'. -/
def fnExactPlanFewestCard : Claim7 := { stood := { row := fnExactPlanFewestRow, standIns := [], harness := (true, "0cf367d8838fd3b2cdec4ef4e461de8aaedbdb6dc45df7342f4ddb0582b23f2c"), looks := true }, kinds := [], alts := [], laidByText := true, laidKinds := [.data, .handle], laidTests := true, laidLooks := .later }
def FnExactPlanFewestCardSaid : Prop := Claim7.holds Tryz.pinned (.plain (OpenSpec.ofChange fnExactPlanFewestSpec)) fnExactPlanFewestCard

/-- THE SECOND FORM's CARD OF 'laws.FnExactPlanFewest'. -/
def fnExactPlanFewestUptoCard : Claim7 := { stood := { row := fnExactPlanFewestUptoRow, standIns := [], harness := (true, "0cf367d8838fd3b2cdec4ef4e461de8aaedbdb6dc45df7342f4ddb0582b23f2c"), looks := true }, kinds := [], alts := [], laidByText := true, laidKinds := [.data, .handle], laidTests := true, laidLooks := .later }
def FnExactPlanFewestUptoCardSaid : Prop := Claim7.holds Tryz.pinned (.plain (OpenSpec.upto fnExactPlanFewestSpec)) fnExactPlanFewestUptoCard
end Rows
end Go.Proofs.YtgllknjdblkhnaaGreatDoor
