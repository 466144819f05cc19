/-
  DERIVED. GIVEN WITH THE SEED: THE CARDS: each row of YtgllknjdblkhnaaDoorRows.lean that lists a variable, with what it lists TIED to the program's text (the seventh form; the later family's looks); each row that meets fmt, with fmt's text TOLD by the authors' own Lean function (tested against real Go, not proved from fmt's source: count such statements apart). THE CARD IS WHAT COUNTS. Prove the row's statement (the work); the ties are given (YtgllknjdblkhnaaDoorTie.lean); close each card by the builder's one call (the guide's Derived/Test/ToyasCard.lean, 'card_holds'). Laid BY PROGRAM, IN A SANDBOX (cutbox-door.mjs). By AI agents, Wed Nov 11 2026. No macro, syntax, notation, axiom, sorry.
-/
import Derived.Test.YtgllknjdblkhnaaDoorRows
import GoSem.ClaimSeven
namespace Go.Proofs.YtgllknjdblkhnaaDoor
namespace Rows

/-- THE TIED CARD OF 'laws.FnExactFewestCells'. -/
def fnExactFewestCellsCard : Claim7 := { stood := { row := fnExactFewestCellsRow, standIns := [], harness := (true, "4dd173622b85f3ed727db096ea9d66403bbb1c3ba19d0457ce24b2546a774564"), looks := true }, kinds := [], alts := [], laidByText := true, laidKinds := [.data, .handle], laidTests := true, laidLooks := .later }
def FnExactFewestCellsCardSaid : Prop := Claim7.holds Tryd.pinned (.plain (OpenSpec.ofChange fnExactFewestCellsSpec)) fnExactFewestCellsCard

/-- THE TIED CARD OF 'laws.FnExactMergeReleases'. -/
def fnExactMergeReleasesCard : Claim7 := { stood := { row := fnExactMergeReleasesRow, standIns := [], harness := (true, "4dd173622b85f3ed727db096ea9d66403bbb1c3ba19d0457ce24b2546a774564"), looks := true }, kinds := [], alts := [], laidByText := true, laidKinds := [.handle], laidTests := true, laidLooks := .later }
def FnExactMergeReleasesCardSaid : Prop := Claim7.holds Tryd.pinned (.plain (OpenSpec.ofChange fnExactMergeReleasesSpec)) fnExactMergeReleasesCard

/-- THE SECOND FORM's CARD OF 'laws.FnExactFewestCells'. -/
def fnExactFewestCellsUptoCard : Claim7 := { stood := { row := fnExactFewestCellsUptoRow, standIns := [], harness := (true, "4dd173622b85f3ed727db096ea9d66403bbb1c3ba19d0457ce24b2546a774564"), looks := true }, kinds := [], alts := [], laidByText := true, laidKinds := [.data, .handle], laidTests := true, laidLooks := .later }
def FnExactFewestCellsUptoCardSaid : Prop := Claim7.holds Tryd.pinned (.plain (OpenSpec.upto fnExactFewestCellsSpec)) fnExactFewestCellsUptoCard

/-- THE SECOND FORM's CARD OF 'laws.FnExactMergeReleases'. -/
def fnExactMergeReleasesUptoCard : Claim7 := { stood := { row := fnExactMergeReleasesUptoRow, standIns := [], harness := (true, "4dd173622b85f3ed727db096ea9d66403bbb1c3ba19d0457ce24b2546a774564"), looks := true }, kinds := [], alts := [], laidByText := true, laidKinds := [.handle], laidTests := true, laidLooks := .later }
def FnExactMergeReleasesUptoCardSaid : Prop := Claim7.holds Tryd.pinned (.plain (OpenSpec.upto fnExactMergeReleasesSpec)) fnExactMergeReleasesUptoCard
end Rows
end Go.Proofs.YtgllknjdblkhnaaDoor
