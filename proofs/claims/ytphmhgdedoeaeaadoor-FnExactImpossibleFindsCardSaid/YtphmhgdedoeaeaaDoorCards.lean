/-
  DERIVED. GIVEN WITH THE SEED: THE CARDS: each row of YtphmhgdedoeaeaaDoorRows.lean that lists a variable, with what it lists TIED to the program's text (the seventh form; the later family's looks); each row that meets fmt, with fmt's text TOLD by the authors' own Lean function (tested against real Go, not proved from fmt's source: count such statements apart). THE CARD IS WHAT COUNTS. Prove the row's statement (the work); the ties are given (YtphmhgdedoeaeaaDoorTie.lean); close each card by the builder's one call (the guide's Derived/Test/ToyasCard.lean, 'card_holds'). Laid BY PROGRAM, IN A SANDBOX (cutbox-door.mjs). By AI agents, Wed Nov 11 2026. No macro, syntax, notation, axiom, sorry.
-/
import Derived.Test.YtphmhgdedoeaeaaDoorRows
import GoSem.ClaimSeven
namespace Go.Proofs.YtphmhgdedoeaeaaDoor
namespace Rows

/-- THE TIED CARD OF 'laws.FnExactStrandsIn'. -/
def fnExactStrandsInCard : Claim7 := { stood := { row := fnExactStrandsInRow, standIns := [], harness := (true, "2ca244dfc2969a558c4955253ac5b2a8657f018b1cca99049505e83621a7c1bf"), looks := true }, kinds := [], alts := [], goes := true, laidByText := true, laidKinds := [.sentinel, .sentinel, .sentinel, .sentinel, .sentinel], laidTests := true, laidLooks := .later }
def FnExactStrandsInCardSaid : Prop := Claim7.holds Tryd.pinned (.plain (OpenSpec.ofChange fnExactStrandsInSpec)) fnExactStrandsInCard

/-- THE TIED CARD OF 'laws.FnExactStrandedBy'. -/
def fnExactStrandedByCard : Claim7 := { stood := { row := fnExactStrandedByRow, standIns := [], harness := (true, "2ca244dfc2969a558c4955253ac5b2a8657f018b1cca99049505e83621a7c1bf"), looks := true }, kinds := [], alts := [], goes := true, laidByText := true, laidKinds := [.sentinel, .sentinel, .sentinel, .sentinel, .sentinel], laidTests := true, laidLooks := .later }
def FnExactStrandedByCardSaid : Prop := Claim7.holds Tryd.pinned (.plain (OpenSpec.ofChange fnExactStrandedBySpec)) fnExactStrandedByCard

/-- THE TIED CARD OF 'laws.FnExactFindShare'. -/
def fnExactFindShareCard : Claim7 := { stood := { row := fnExactFindShareRow, standIns := [], harness := (true, "2ca244dfc2969a558c4955253ac5b2a8657f018b1cca99049505e83621a7c1bf"), looks := true }, kinds := [], alts := [], goes := true, laidByText := true, laidKinds := [.sentinel, .sentinel, .sentinel, .sentinel, .sentinel], laidTests := true, laidLooks := .later }
def FnExactFindShareCardSaid : Prop := Claim7.holds Tryd.pinned (.plain (OpenSpec.ofChange fnExactFindShareSpec)) fnExactFindShareCard

/-- THE TIED CARD OF 'laws.FnExactCanBeFound'. -/
def fnExactCanBeFoundCard : Claim7 := { stood := { row := fnExactCanBeFoundRow, standIns := [], harness := (true, "2ca244dfc2969a558c4955253ac5b2a8657f018b1cca99049505e83621a7c1bf"), looks := true }, kinds := [], alts := [], goes := true, laidByText := true, laidKinds := [.sentinel, .sentinel, .sentinel, .sentinel, .sentinel], laidTests := true, laidLooks := .later }
def FnExactCanBeFoundCardSaid : Prop := Claim7.holds Tryd.pinned (.plain (OpenSpec.ofChange fnExactCanBeFoundSpec)) fnExactCanBeFoundCard

/-- THE TIED CARD OF 'laws.FnExactEarliestFind'. -/
def fnExactEarliestFindCard : Claim7 := { stood := { row := fnExactEarliestFindRow, standIns := [], harness := (true, "2ca244dfc2969a558c4955253ac5b2a8657f018b1cca99049505e83621a7c1bf"), looks := true }, kinds := [], alts := [], goes := true, laidByText := true, laidKinds := [.sentinel, .sentinel, .sentinel, .sentinel, .sentinel], laidTests := true, laidLooks := .later }
def FnExactEarliestFindCardSaid : Prop := Claim7.holds Tryd.pinned (.plain (OpenSpec.ofChange fnExactEarliestFindSpec)) fnExactEarliestFindCard

/-- THE TIED CARD OF 'laws.FnExactImpossibleFinds'. -/
def fnExactImpossibleFindsCard : Claim7 := { stood := { row := fnExactImpossibleFindsRow, standIns := [], harness := (true, "2ca244dfc2969a558c4955253ac5b2a8657f018b1cca99049505e83621a7c1bf"), looks := true }, kinds := [], alts := [], goes := true, laidByText := true, laidKinds := [.sentinel, .sentinel, .sentinel, .sentinel, .sentinel], laidTests := true, laidLooks := .later }
def FnExactImpossibleFindsCardSaid : Prop := Claim7.holds Tryd.pinned (.plain (OpenSpec.ofChange fnExactImpossibleFindsSpec)) fnExactImpossibleFindsCard

/-- THE TIED CARD OF 'laws.FnExactReachedBeaches'. -/
def fnExactReachedBeachesCard : Claim7 := { stood := { row := fnExactReachedBeachesRow, standIns := [], harness := (true, "2ca244dfc2969a558c4955253ac5b2a8657f018b1cca99049505e83621a7c1bf"), looks := true }, kinds := [], alts := [], goes := true, laidByText := true, laidKinds := [.sentinel, .sentinel, .sentinel, .sentinel, .sentinel], laidTests := true, laidLooks := .later }
def FnExactReachedBeachesCardSaid : Prop := Claim7.holds Tryd.pinned (.plain (OpenSpec.ofChange fnExactReachedBeachesSpec)) fnExactReachedBeachesCard

/-- THE TIED CARD OF 'laws.FnExactCollectedAt'. -/
def fnExactCollectedAtCard : Claim7 := { stood := { row := fnExactCollectedAtRow, standIns := [], harness := (true, "2ca244dfc2969a558c4955253ac5b2a8657f018b1cca99049505e83621a7c1bf"), looks := true }, kinds := [], alts := [], goes := true, laidByText := true, laidKinds := [.sentinel, .sentinel, .sentinel, .sentinel, .sentinel], laidTests := true, laidLooks := .later }
def FnExactCollectedAtCardSaid : Prop := Claim7.holds Tryd.pinned (.plain (OpenSpec.ofChange fnExactCollectedAtSpec)) fnExactCollectedAtCard

/-- THE TIED CARD OF 'laws.FnExactMapDistance'. -/
def fnExactMapDistanceCard : Claim7 := { stood := { row := fnExactMapDistanceRow, standIns := [], harness := (true, "2ca244dfc2969a558c4955253ac5b2a8657f018b1cca99049505e83621a7c1bf"), looks := true }, kinds := [], alts := [], goes := true, laidByText := true, laidKinds := [.sentinel, .sentinel, .sentinel, .sentinel, .sentinel], laidTests := true, laidLooks := .later }
def FnExactMapDistanceCardSaid : Prop := Claim7.holds Tryd.pinned (.plain (OpenSpec.ofChange fnExactMapDistanceSpec)) fnExactMapDistanceCard

/-- THE TIED CARD OF 'laws.FnExactTellingFind'. -/
def fnExactTellingFindCard : Claim7 := { stood := { row := fnExactTellingFindRow, standIns := [], harness := (true, "2ca244dfc2969a558c4955253ac5b2a8657f018b1cca99049505e83621a7c1bf"), looks := true }, kinds := [], alts := [], goes := true, laidByText := true, laidKinds := [.sentinel, .sentinel, .sentinel, .sentinel, .sentinel], laidTests := true, laidLooks := .later }
def FnExactTellingFindCardSaid : Prop := Claim7.holds Tryd.pinned (.plain (OpenSpec.ofChange fnExactTellingFindSpec)) fnExactTellingFindCard

/-- THE SECOND FORM's CARD OF 'laws.FnExactStrandsIn'. -/
def fnExactStrandsInUptoCard : Claim7 := { stood := { row := fnExactStrandsInUptoRow, standIns := [], harness := (true, "2ca244dfc2969a558c4955253ac5b2a8657f018b1cca99049505e83621a7c1bf"), looks := true }, kinds := [], alts := [], goes := true, laidByText := true, laidKinds := [.sentinel, .sentinel, .sentinel, .sentinel, .sentinel], laidTests := true, laidLooks := .later }
def FnExactStrandsInUptoCardSaid : Prop := Claim7.holds Tryd.pinned (.plain (OpenSpec.upto fnExactStrandsInSpec)) fnExactStrandsInUptoCard

/-- THE SECOND FORM's CARD OF 'laws.FnExactStrandedBy'. -/
def fnExactStrandedByUptoCard : Claim7 := { stood := { row := fnExactStrandedByUptoRow, standIns := [], harness := (true, "2ca244dfc2969a558c4955253ac5b2a8657f018b1cca99049505e83621a7c1bf"), looks := true }, kinds := [], alts := [], goes := true, laidByText := true, laidKinds := [.sentinel, .sentinel, .sentinel, .sentinel, .sentinel], laidTests := true, laidLooks := .later }
def FnExactStrandedByUptoCardSaid : Prop := Claim7.holds Tryd.pinned (.plain (OpenSpec.upto fnExactStrandedBySpec)) fnExactStrandedByUptoCard

/-- THE SECOND FORM's CARD OF 'laws.FnExactFindShare'. -/
def fnExactFindShareUptoCard : Claim7 := { stood := { row := fnExactFindShareUptoRow, standIns := [], harness := (true, "2ca244dfc2969a558c4955253ac5b2a8657f018b1cca99049505e83621a7c1bf"), looks := true }, kinds := [], alts := [], goes := true, laidByText := true, laidKinds := [.sentinel, .sentinel, .sentinel, .sentinel, .sentinel], laidTests := true, laidLooks := .later }
def FnExactFindShareUptoCardSaid : Prop := Claim7.holds Tryd.pinned (.plain (OpenSpec.upto fnExactFindShareSpec)) fnExactFindShareUptoCard

/-- THE SECOND FORM's CARD OF 'laws.FnExactCanBeFound'. -/
def fnExactCanBeFoundUptoCard : Claim7 := { stood := { row := fnExactCanBeFoundUptoRow, standIns := [], harness := (true, "2ca244dfc2969a558c4955253ac5b2a8657f018b1cca99049505e83621a7c1bf"), looks := true }, kinds := [], alts := [], goes := true, laidByText := true, laidKinds := [.sentinel, .sentinel, .sentinel, .sentinel, .sentinel], laidTests := true, laidLooks := .later }
def FnExactCanBeFoundUptoCardSaid : Prop := Claim7.holds Tryd.pinned (.plain (OpenSpec.upto fnExactCanBeFoundSpec)) fnExactCanBeFoundUptoCard

/-- THE SECOND FORM's CARD OF 'laws.FnExactEarliestFind'. -/
def fnExactEarliestFindUptoCard : Claim7 := { stood := { row := fnExactEarliestFindUptoRow, standIns := [], harness := (true, "2ca244dfc2969a558c4955253ac5b2a8657f018b1cca99049505e83621a7c1bf"), looks := true }, kinds := [], alts := [], goes := true, laidByText := true, laidKinds := [.sentinel, .sentinel, .sentinel, .sentinel, .sentinel], laidTests := true, laidLooks := .later }
def FnExactEarliestFindUptoCardSaid : Prop := Claim7.holds Tryd.pinned (.plain (OpenSpec.upto fnExactEarliestFindSpec)) fnExactEarliestFindUptoCard

/-- THE SECOND FORM's CARD OF 'laws.FnExactImpossibleFinds'. -/
def fnExactImpossibleFindsUptoCard : Claim7 := { stood := { row := fnExactImpossibleFindsUptoRow, standIns := [], harness := (true, "2ca244dfc2969a558c4955253ac5b2a8657f018b1cca99049505e83621a7c1bf"), looks := true }, kinds := [], alts := [], goes := true, laidByText := true, laidKinds := [.sentinel, .sentinel, .sentinel, .sentinel, .sentinel], laidTests := true, laidLooks := .later }
def FnExactImpossibleFindsUptoCardSaid : Prop := Claim7.holds Tryd.pinned (.plain (OpenSpec.upto fnExactImpossibleFindsSpec)) fnExactImpossibleFindsUptoCard

/-- THE SECOND FORM's CARD OF 'laws.FnExactReachedBeaches'. -/
def fnExactReachedBeachesUptoCard : Claim7 := { stood := { row := fnExactReachedBeachesUptoRow, standIns := [], harness := (true, "2ca244dfc2969a558c4955253ac5b2a8657f018b1cca99049505e83621a7c1bf"), looks := true }, kinds := [], alts := [], goes := true, laidByText := true, laidKinds := [.sentinel, .sentinel, .sentinel, .sentinel, .sentinel], laidTests := true, laidLooks := .later }
def FnExactReachedBeachesUptoCardSaid : Prop := Claim7.holds Tryd.pinned (.plain (OpenSpec.upto fnExactReachedBeachesSpec)) fnExactReachedBeachesUptoCard

/-- THE SECOND FORM's CARD OF 'laws.FnExactCollectedAt'. -/
def fnExactCollectedAtUptoCard : Claim7 := { stood := { row := fnExactCollectedAtUptoRow, standIns := [], harness := (true, "2ca244dfc2969a558c4955253ac5b2a8657f018b1cca99049505e83621a7c1bf"), looks := true }, kinds := [], alts := [], goes := true, laidByText := true, laidKinds := [.sentinel, .sentinel, .sentinel, .sentinel, .sentinel], laidTests := true, laidLooks := .later }
def FnExactCollectedAtUptoCardSaid : Prop := Claim7.holds Tryd.pinned (.plain (OpenSpec.upto fnExactCollectedAtSpec)) fnExactCollectedAtUptoCard

/-- THE SECOND FORM's CARD OF 'laws.FnExactMapDistance'. -/
def fnExactMapDistanceUptoCard : Claim7 := { stood := { row := fnExactMapDistanceUptoRow, standIns := [], harness := (true, "2ca244dfc2969a558c4955253ac5b2a8657f018b1cca99049505e83621a7c1bf"), looks := true }, kinds := [], alts := [], goes := true, laidByText := true, laidKinds := [.sentinel, .sentinel, .sentinel, .sentinel, .sentinel], laidTests := true, laidLooks := .later }
def FnExactMapDistanceUptoCardSaid : Prop := Claim7.holds Tryd.pinned (.plain (OpenSpec.upto fnExactMapDistanceSpec)) fnExactMapDistanceUptoCard

/-- THE SECOND FORM's CARD OF 'laws.FnExactTellingFind'. -/
def fnExactTellingFindUptoCard : Claim7 := { stood := { row := fnExactTellingFindUptoRow, standIns := [], harness := (true, "2ca244dfc2969a558c4955253ac5b2a8657f018b1cca99049505e83621a7c1bf"), looks := true }, kinds := [], alts := [], goes := true, laidByText := true, laidKinds := [.sentinel, .sentinel, .sentinel, .sentinel, .sentinel], laidTests := true, laidLooks := .later }
def FnExactTellingFindUptoCardSaid : Prop := Claim7.holds Tryd.pinned (.plain (OpenSpec.upto fnExactTellingFindSpec)) fnExactTellingFindUptoCard
end Rows
end Go.Proofs.YtphmhgdedoeaeaaDoor
