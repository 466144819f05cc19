/-
  DERIVED. GIVEN WITH THE SEED: THE CARDS: each row of YtefjogahegolbaaGreatDoorRows.lean that lists a variable, with what it lists TIED to the program's text (the seventh form; the later family's looks); each row that meets fmt, with fmt's text TOLD by the authors' own Lean function (tested against real Go, not proved from fmt's source: count such statements apart). THE CARD IS WHAT COUNTS. Prove the row's statement (the work); the ties are given (YtefjogahegolbaaGreatDoorTie.lean); close each card by the builder's one call (the guide's Derived/Test/ToyasCard.lean, 'card_holds'). Laid BY PROGRAM, IN A SANDBOX (cutbox-door.mjs). By AI agents, Wed Nov 11 2026. No macro, syntax, notation, axiom, sorry.
-/
import Derived.Test.YtefjogahegolbaaGreatDoorRows
import GoSem.ClaimSeven
namespace Go.Proofs.YtefjogahegolbaaGreatDoor
namespace Rows

/-- THE TIED CARD OF 'laws.FnExactScoresOf'. -/
def fnExactScoresOfCard : Claim7 := { stood := { row := fnExactScoresOfRow, standIns := [], harness := (true, "748dca5a3ae3baf9d848406d883ceac9eafe4e003c16fab22d63fa6499c4d516"), looks := true }, kinds := [], alts := [], goes := true, laidByText := true, laidKinds := [.sentinel, .sentinel, .sentinel, .sentinel, .sentinel], laidTests := true, laidLooks := .later }
def FnExactScoresOfCardSaid : Prop := Claim7.holds Tryz.pinned (.plain (OpenSpec.ofChange fnExactScoresOfSpec)) fnExactScoresOfCard

/-- THE TIED CARD OF 'laws.FnExactScoreOf'. -/
def fnExactScoreOfCard : Claim7 := { stood := { row := fnExactScoreOfRow, standIns := [], harness := (true, "748dca5a3ae3baf9d848406d883ceac9eafe4e003c16fab22d63fa6499c4d516"), looks := true }, kinds := [], alts := [], goes := true, laidByText := true, laidKinds := [.sentinel, .sentinel, .sentinel, .sentinel, .sentinel], laidTests := true, laidLooks := .later }
def FnExactScoreOfCardSaid : Prop := Claim7.holds Tryz.pinned (.plain (OpenSpec.ofChange fnExactScoreOfSpec)) fnExactScoreOfCard

/-- THE TIED CARD OF 'laws.FnExactWorstFind'. -/
def fnExactWorstFindCard : Claim7 := { stood := { row := fnExactWorstFindRow, standIns := [], harness := (true, "748dca5a3ae3baf9d848406d883ceac9eafe4e003c16fab22d63fa6499c4d516"), looks := true }, kinds := [], alts := [], goes := true, laidByText := true, laidKinds := [.sentinel, .sentinel, .sentinel, .sentinel, .sentinel], laidTests := true, laidLooks := .later }
def FnExactWorstFindCardSaid : Prop := Claim7.holds Tryz.pinned (.plain (OpenSpec.ofChange fnExactWorstFindSpec)) fnExactWorstFindCard

/-- THE TIED CARD OF 'laws.FnExactBetterMap'. -/
def fnExactBetterMapCard : Claim7 := { stood := { row := fnExactBetterMapRow, standIns := [], harness := (true, "748dca5a3ae3baf9d848406d883ceac9eafe4e003c16fab22d63fa6499c4d516"), looks := true }, kinds := [], alts := [], goes := true, laidByText := true, laidKinds := [.sentinel, .sentinel, .sentinel, .sentinel, .sentinel], laidTests := true, laidLooks := .later }
def FnExactBetterMapCardSaid : Prop := Claim7.holds Tryz.pinned (.plain (OpenSpec.ofChange fnExactBetterMapSpec)) fnExactBetterMapCard

/-- THE TIED CARD OF 'laws.FnExactBestRepair'. -/
def fnExactBestRepairCard : Claim7 := { stood := { row := fnExactBestRepairRow, standIns := [], harness := (true, "748dca5a3ae3baf9d848406d883ceac9eafe4e003c16fab22d63fa6499c4d516"), looks := true }, kinds := [], alts := [], goes := true, laidByText := true, laidKinds := [.sentinel, .sentinel, .sentinel, .sentinel, .sentinel], laidTests := true, laidLooks := .later }
def FnExactBestRepairCardSaid : Prop := Claim7.holds Tryz.pinned (.plain (OpenSpec.ofChange fnExactBestRepairSpec)) fnExactBestRepairCard

/-- THE TIED CARD OF 'laws.FnExactRepairMap'. -/
def fnExactRepairMapCard : Claim7 := { stood := { row := fnExactRepairMapRow, standIns := [], harness := (true, "748dca5a3ae3baf9d848406d883ceac9eafe4e003c16fab22d63fa6499c4d516"), looks := true }, kinds := [], alts := [], goes := true, laidByText := true, laidKinds := [.sentinel, .sentinel, .sentinel, .sentinel, .sentinel], laidTests := true, laidLooks := .later }
def FnExactRepairMapCardSaid : Prop := Claim7.holds Tryz.pinned (.plain (OpenSpec.ofChange fnExactRepairMapSpec)) fnExactRepairMapCard

/-- THE SECOND FORM's CARD OF 'laws.FnExactScoresOf'. -/
def fnExactScoresOfUptoCard : Claim7 := { stood := { row := fnExactScoresOfUptoRow, standIns := [], harness := (true, "748dca5a3ae3baf9d848406d883ceac9eafe4e003c16fab22d63fa6499c4d516"), looks := true }, kinds := [], alts := [], goes := true, laidByText := true, laidKinds := [.sentinel, .sentinel, .sentinel, .sentinel, .sentinel], laidTests := true, laidLooks := .later }
def FnExactScoresOfUptoCardSaid : Prop := Claim7.holds Tryz.pinned (.plain (OpenSpec.upto fnExactScoresOfSpec)) fnExactScoresOfUptoCard

/-- THE SECOND FORM's CARD OF 'laws.FnExactScoreOf'. -/
def fnExactScoreOfUptoCard : Claim7 := { stood := { row := fnExactScoreOfUptoRow, standIns := [], harness := (true, "748dca5a3ae3baf9d848406d883ceac9eafe4e003c16fab22d63fa6499c4d516"), looks := true }, kinds := [], alts := [], goes := true, laidByText := true, laidKinds := [.sentinel, .sentinel, .sentinel, .sentinel, .sentinel], laidTests := true, laidLooks := .later }
def FnExactScoreOfUptoCardSaid : Prop := Claim7.holds Tryz.pinned (.plain (OpenSpec.upto fnExactScoreOfSpec)) fnExactScoreOfUptoCard

/-- THE SECOND FORM's CARD OF 'laws.FnExactWorstFind'. -/
def fnExactWorstFindUptoCard : Claim7 := { stood := { row := fnExactWorstFindUptoRow, standIns := [], harness := (true, "748dca5a3ae3baf9d848406d883ceac9eafe4e003c16fab22d63fa6499c4d516"), looks := true }, kinds := [], alts := [], goes := true, laidByText := true, laidKinds := [.sentinel, .sentinel, .sentinel, .sentinel, .sentinel], laidTests := true, laidLooks := .later }
def FnExactWorstFindUptoCardSaid : Prop := Claim7.holds Tryz.pinned (.plain (OpenSpec.upto fnExactWorstFindSpec)) fnExactWorstFindUptoCard

/-- THE SECOND FORM's CARD OF 'laws.FnExactBetterMap'. -/
def fnExactBetterMapUptoCard : Claim7 := { stood := { row := fnExactBetterMapUptoRow, standIns := [], harness := (true, "748dca5a3ae3baf9d848406d883ceac9eafe4e003c16fab22d63fa6499c4d516"), looks := true }, kinds := [], alts := [], goes := true, laidByText := true, laidKinds := [.sentinel, .sentinel, .sentinel, .sentinel, .sentinel], laidTests := true, laidLooks := .later }
def FnExactBetterMapUptoCardSaid : Prop := Claim7.holds Tryz.pinned (.plain (OpenSpec.upto fnExactBetterMapSpec)) fnExactBetterMapUptoCard

/-- THE SECOND FORM's CARD OF 'laws.FnExactBestRepair'. -/
def fnExactBestRepairUptoCard : Claim7 := { stood := { row := fnExactBestRepairUptoRow, standIns := [], harness := (true, "748dca5a3ae3baf9d848406d883ceac9eafe4e003c16fab22d63fa6499c4d516"), looks := true }, kinds := [], alts := [], goes := true, laidByText := true, laidKinds := [.sentinel, .sentinel, .sentinel, .sentinel, .sentinel], laidTests := true, laidLooks := .later }
def FnExactBestRepairUptoCardSaid : Prop := Claim7.holds Tryz.pinned (.plain (OpenSpec.upto fnExactBestRepairSpec)) fnExactBestRepairUptoCard

/-- THE SECOND FORM's CARD OF 'laws.FnExactRepairMap'. -/
def fnExactRepairMapUptoCard : Claim7 := { stood := { row := fnExactRepairMapUptoRow, standIns := [], harness := (true, "748dca5a3ae3baf9d848406d883ceac9eafe4e003c16fab22d63fa6499c4d516"), looks := true }, kinds := [], alts := [], goes := true, laidByText := true, laidKinds := [.sentinel, .sentinel, .sentinel, .sentinel, .sentinel], laidTests := true, laidLooks := .later }
def FnExactRepairMapUptoCardSaid : Prop := Claim7.holds Tryz.pinned (.plain (OpenSpec.upto fnExactRepairMapSpec)) fnExactRepairMapUptoCard
end Rows
end Go.Proofs.YtefjogahegolbaaGreatDoor
