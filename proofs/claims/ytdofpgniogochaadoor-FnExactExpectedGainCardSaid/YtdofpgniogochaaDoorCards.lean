/-
  DERIVED. GIVEN WITH THE SEED: THE CARDS: each row of YtdofpgniogochaaDoorRows.lean that lists a variable, with what it lists TIED to the program's text (the seventh form; the later family's looks); each row that meets fmt, with fmt's text TOLD by the authors' own Lean function (tested against real Go, not proved from fmt's source: count such statements apart). THE CARD IS WHAT COUNTS. Prove the row's statement (the work); the ties are given (YtdofpgniogochaaDoorTie.lean); close each card by the builder's one call (the guide's Derived/Test/ToyasCard.lean, 'card_holds'). Laid BY PROGRAM, IN A SANDBOX (cutbox-door.mjs). By AI agents, Wed Nov 11 2026. No macro, syntax, notation, axiom, sorry.
-/
import Derived.Test.YtdofpgniogochaaDoorRows
import GoSem.ClaimSeven
namespace Go.Proofs.YtdofpgniogochaaDoor
namespace Rows

/-- THE TIED CARD OF 'laws.FnExactMapDistance'. -/
def fnExactMapDistanceCard : Claim7 := { stood := { row := fnExactMapDistanceRow, standIns := [], harness := (true, "f87d42208749737b0093056551e02804e59f6621f6f015767bde71a4ad2785d2"), looks := true }, kinds := [], alts := [], goes := true, laidByText := true, laidKinds := [.sentinel, .sentinel, .sentinel, .sentinel, .sentinel], laidTests := true, laidLooks := .later }
def FnExactMapDistanceCardSaid : Prop := Claim7.holds Tryd.pinned (.plain (OpenSpec.ofChange fnExactMapDistanceSpec)) fnExactMapDistanceCard

/-- THE TIED CARD OF 'laws.FnExactTellingFind'. -/
def fnExactTellingFindCard : Claim7 := { stood := { row := fnExactTellingFindRow, standIns := [], harness := (true, "f87d42208749737b0093056551e02804e59f6621f6f015767bde71a4ad2785d2"), looks := true }, kinds := [], alts := [], goes := true, laidByText := true, laidKinds := [.sentinel, .sentinel, .sentinel, .sentinel, .sentinel], laidTests := true, laidLooks := .later }
def FnExactTellingFindCardSaid : Prop := Claim7.holds Tryd.pinned (.plain (OpenSpec.ofChange fnExactTellingFindSpec)) fnExactTellingFindCard

/-- THE TIED CARD OF 'laws.FnExactEarliestFind'. -/
def fnExactEarliestFindCard : Claim7 := { stood := { row := fnExactEarliestFindRow, standIns := [], harness := (true, "f87d42208749737b0093056551e02804e59f6621f6f015767bde71a4ad2785d2"), looks := true }, kinds := [], alts := [], goes := true, laidByText := true, laidKinds := [.sentinel, .sentinel, .sentinel, .sentinel, .sentinel], laidTests := true, laidLooks := .later }
def FnExactEarliestFindCardSaid : Prop := Claim7.holds Tryd.pinned (.plain (OpenSpec.ofChange fnExactEarliestFindSpec)) fnExactEarliestFindCard

/-- THE TIED CARD OF 'laws.FnExactExpectedGain'. -/
def fnExactExpectedGainCard : Claim7 := { stood := { row := fnExactExpectedGainRow, standIns := [], harness := (true, "f87d42208749737b0093056551e02804e59f6621f6f015767bde71a4ad2785d2"), looks := true }, kinds := [], alts := [], goes := true, laidByText := true, laidKinds := [.sentinel, .sentinel, .sentinel, .sentinel, .sentinel], laidTests := true, laidLooks := .later }
def FnExactExpectedGainCardSaid : Prop := Claim7.holds Tryd.pinned (.plain (OpenSpec.ofChange fnExactExpectedGainSpec)) fnExactExpectedGainCard

/-- THE TIED CARD OF 'laws.FnExactFindsNeeded'. -/
def fnExactFindsNeededCard : Claim7 := { stood := { row := fnExactFindsNeededRow, standIns := [], harness := (true, "f87d42208749737b0093056551e02804e59f6621f6f015767bde71a4ad2785d2"), looks := true }, kinds := [], alts := [], goes := true, laidByText := true, laidKinds := [.sentinel, .sentinel, .sentinel, .sentinel, .sentinel], laidTests := true, laidLooks := .later }
def FnExactFindsNeededCardSaid : Prop := Claim7.holds Tryd.pinned (.plain (OpenSpec.ofChange fnExactFindsNeededSpec)) fnExactFindsNeededCard

/-- THE TIED CARD OF 'laws.FnExactSpreadOfPlan'. -/
def fnExactSpreadOfPlanCard : Claim7 := { stood := { row := fnExactSpreadOfPlanRow, standIns := [], harness := (true, "f87d42208749737b0093056551e02804e59f6621f6f015767bde71a4ad2785d2"), looks := true }, kinds := [], alts := [], goes := true, laidByText := true, laidKinds := [.handle], laidTests := true, laidLooks := .later }
def FnExactSpreadOfPlanCardSaid : Prop := Claim7.holds Tryd.pinned (.plain (OpenSpec.ofChange fnExactSpreadOfPlanSpec)) fnExactSpreadOfPlanCard

/-- THE TIED CARD OF 'laws.FnExactReachedBy'. -/
def fnExactReachedByCard : Claim7 := { stood := { row := fnExactReachedByRow, standIns := [], harness := (true, "f87d42208749737b0093056551e02804e59f6621f6f015767bde71a4ad2785d2"), looks := true }, kinds := [], alts := [], goes := true, laidByText := true, laidKinds := [.handle], laidTests := true, laidLooks := .later }
def FnExactReachedByCardSaid : Prop := Claim7.holds Tryd.pinned (.plain (OpenSpec.ofChange fnExactReachedBySpec)) fnExactReachedByCard

/-- THE TIED CARD OF 'laws.FnExactPlanCovers'. -/
def fnExactPlanCoversCard : Claim7 := { stood := { row := fnExactPlanCoversRow, standIns := [], harness := (true, "f87d42208749737b0093056551e02804e59f6621f6f015767bde71a4ad2785d2"), looks := true }, kinds := [], alts := [], goes := true, laidByText := true, laidKinds := [.handle], laidTests := true, laidLooks := .later }
def FnExactPlanCoversCardSaid : Prop := Claim7.holds Tryd.pinned (.plain (OpenSpec.ofChange fnExactPlanCoversSpec)) fnExactPlanCoversCard

/-- THE SECOND FORM's CARD OF 'laws.FnExactMapDistance'. -/
def fnExactMapDistanceUptoCard : Claim7 := { stood := { row := fnExactMapDistanceUptoRow, standIns := [], harness := (true, "f87d42208749737b0093056551e02804e59f6621f6f015767bde71a4ad2785d2"), looks := true }, kinds := [], alts := [], goes := true, laidByText := true, laidKinds := [.sentinel, .sentinel, .sentinel, .sentinel, .sentinel], laidTests := true, laidLooks := .later }
def FnExactMapDistanceUptoCardSaid : Prop := Claim7.holds Tryd.pinned (.plain (OpenSpec.upto fnExactMapDistanceSpec)) fnExactMapDistanceUptoCard

/-- THE SECOND FORM's CARD OF 'laws.FnExactTellingFind'. -/
def fnExactTellingFindUptoCard : Claim7 := { stood := { row := fnExactTellingFindUptoRow, standIns := [], harness := (true, "f87d42208749737b0093056551e02804e59f6621f6f015767bde71a4ad2785d2"), looks := true }, kinds := [], alts := [], goes := true, laidByText := true, laidKinds := [.sentinel, .sentinel, .sentinel, .sentinel, .sentinel], laidTests := true, laidLooks := .later }
def FnExactTellingFindUptoCardSaid : Prop := Claim7.holds Tryd.pinned (.plain (OpenSpec.upto fnExactTellingFindSpec)) fnExactTellingFindUptoCard

/-- THE SECOND FORM's CARD OF 'laws.FnExactEarliestFind'. -/
def fnExactEarliestFindUptoCard : Claim7 := { stood := { row := fnExactEarliestFindUptoRow, standIns := [], harness := (true, "f87d42208749737b0093056551e02804e59f6621f6f015767bde71a4ad2785d2"), looks := true }, kinds := [], alts := [], goes := true, laidByText := true, laidKinds := [.sentinel, .sentinel, .sentinel, .sentinel, .sentinel], laidTests := true, laidLooks := .later }
def FnExactEarliestFindUptoCardSaid : Prop := Claim7.holds Tryd.pinned (.plain (OpenSpec.upto fnExactEarliestFindSpec)) fnExactEarliestFindUptoCard

/-- THE SECOND FORM's CARD OF 'laws.FnExactExpectedGain'. -/
def fnExactExpectedGainUptoCard : Claim7 := { stood := { row := fnExactExpectedGainUptoRow, standIns := [], harness := (true, "f87d42208749737b0093056551e02804e59f6621f6f015767bde71a4ad2785d2"), looks := true }, kinds := [], alts := [], goes := true, laidByText := true, laidKinds := [.sentinel, .sentinel, .sentinel, .sentinel, .sentinel], laidTests := true, laidLooks := .later }
def FnExactExpectedGainUptoCardSaid : Prop := Claim7.holds Tryd.pinned (.plain (OpenSpec.upto fnExactExpectedGainSpec)) fnExactExpectedGainUptoCard

/-- THE SECOND FORM's CARD OF 'laws.FnExactFindsNeeded'. -/
def fnExactFindsNeededUptoCard : Claim7 := { stood := { row := fnExactFindsNeededUptoRow, standIns := [], harness := (true, "f87d42208749737b0093056551e02804e59f6621f6f015767bde71a4ad2785d2"), looks := true }, kinds := [], alts := [], goes := true, laidByText := true, laidKinds := [.sentinel, .sentinel, .sentinel, .sentinel, .sentinel], laidTests := true, laidLooks := .later }
def FnExactFindsNeededUptoCardSaid : Prop := Claim7.holds Tryd.pinned (.plain (OpenSpec.upto fnExactFindsNeededSpec)) fnExactFindsNeededUptoCard

/-- THE SECOND FORM's CARD OF 'laws.FnExactSpreadOfPlan'. -/
def fnExactSpreadOfPlanUptoCard : Claim7 := { stood := { row := fnExactSpreadOfPlanUptoRow, standIns := [], harness := (true, "f87d42208749737b0093056551e02804e59f6621f6f015767bde71a4ad2785d2"), looks := true }, kinds := [], alts := [], goes := true, laidByText := true, laidKinds := [.handle], laidTests := true, laidLooks := .later }
def FnExactSpreadOfPlanUptoCardSaid : Prop := Claim7.holds Tryd.pinned (.plain (OpenSpec.upto fnExactSpreadOfPlanSpec)) fnExactSpreadOfPlanUptoCard

/-- THE SECOND FORM's CARD OF 'laws.FnExactReachedBy'. -/
def fnExactReachedByUptoCard : Claim7 := { stood := { row := fnExactReachedByUptoRow, standIns := [], harness := (true, "f87d42208749737b0093056551e02804e59f6621f6f015767bde71a4ad2785d2"), looks := true }, kinds := [], alts := [], goes := true, laidByText := true, laidKinds := [.handle], laidTests := true, laidLooks := .later }
def FnExactReachedByUptoCardSaid : Prop := Claim7.holds Tryd.pinned (.plain (OpenSpec.upto fnExactReachedBySpec)) fnExactReachedByUptoCard

/-- THE SECOND FORM's CARD OF 'laws.FnExactPlanCovers'. -/
def fnExactPlanCoversUptoCard : Claim7 := { stood := { row := fnExactPlanCoversUptoRow, standIns := [], harness := (true, "f87d42208749737b0093056551e02804e59f6621f6f015767bde71a4ad2785d2"), looks := true }, kinds := [], alts := [], goes := true, laidByText := true, laidKinds := [.handle], laidTests := true, laidLooks := .later }
def FnExactPlanCoversUptoCardSaid : Prop := Claim7.holds Tryd.pinned (.plain (OpenSpec.upto fnExactPlanCoversSpec)) fnExactPlanCoversUptoCard
end Rows
end Go.Proofs.YtdofpgniogochaaDoor
