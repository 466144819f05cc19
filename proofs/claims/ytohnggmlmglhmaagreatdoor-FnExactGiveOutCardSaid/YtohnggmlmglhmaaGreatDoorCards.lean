/-
  DERIVED. GIVEN WITH THE SEED: THE CARDS: each row of YtohnggmlmglhmaaGreatDoorRows.lean that lists a variable, with what it lists TIED to the program's text (the seventh form; the later family's looks); each row that meets fmt, with fmt's text TOLD by the authors' own Lean function (tested against real Go, not proved from fmt's source: count such statements apart). THE CARD IS WHAT COUNTS. Prove the row's statement (the work); the ties are given (YtohnggmlmglhmaaGreatDoorTie.lean); close each card by the builder's one call (the guide's Derived/Test/ToyasCard.lean, 'card_holds'). Laid BY PROGRAM, IN A SANDBOX (cutbox-door.mjs). By AI agents, Wed Nov 11 2026. No macro, syntax, notation, axiom, sorry.
-/
import Derived.Test.YtohnggmlmglhmaaGreatDoorRows
import GoSem.ClaimSeven
namespace Go.Proofs.YtohnggmlmglhmaaGreatDoor
namespace Rows

/-- THE TIED CARD OF 'laws.FnExactBestHour'. -/
def fnExactBestHourCard : Claim7 := { stood := { row := fnExactBestHourRow, standIns := [], harness := (true, "4f2bd831c2782164a158d42da1169750c7ee8b8aadbb36a13d2ec663851c3945"), looks := true }, kinds := [], alts := [], laidByText := true, laidKinds := [.data, .handle], laidTests := true, laidLooks := .later }
def FnExactBestHourCardSaid : Prop := Claim7.holds Tryz.pinned (.plain (OpenSpec.ofChange fnExactBestHourSpec)) fnExactBestHourCard

/-- THE TIED CARD OF 'laws.FnExactBestCell'. -/
def fnExactBestCellCard : Claim7 := { stood := { row := fnExactBestCellRow, standIns := [], harness := (true, "4f2bd831c2782164a158d42da1169750c7ee8b8aadbb36a13d2ec663851c3945"), looks := true }, kinds := [], alts := [], laidByText := true, laidKinds := [.data, .handle], laidTests := true, laidLooks := .later }
def FnExactBestCellCardSaid : Prop := Claim7.holds Tryz.pinned (.plain (OpenSpec.ofChange fnExactBestCellSpec)) fnExactBestCellCard

/-- THE TIED CARD OF 'laws.FnExactPlanFewest'. -/
def fnExactPlanFewestCard : Claim7 := { stood := { row := fnExactPlanFewestRow, standIns := [], harness := (true, "4f2bd831c2782164a158d42da1169750c7ee8b8aadbb36a13d2ec663851c3945"), looks := true }, kinds := [], alts := [], laidByText := true, laidKinds := [.data, .handle], laidTests := true, laidLooks := .later }
def FnExactPlanFewestCardSaid : Prop := Claim7.holds Tryz.pinned (.plain (OpenSpec.ofChange fnExactPlanFewestSpec)) fnExactPlanFewestCard

/-- THE TIED CARD OF 'laws.FnExactGiveOut'. -/
def fnExactGiveOutCard : Claim7 := { stood := { row := fnExactGiveOutRow, standIns := [], harness := (true, "4f2bd831c2782164a158d42da1169750c7ee8b8aadbb36a13d2ec663851c3945"), looks := true }, kinds := [], alts := [], laidByText := true, laidKinds := [.data, .handle], laidTests := true, laidLooks := .later }
def FnExactGiveOutCardSaid : Prop := Claim7.holds Tryz.pinned (.plain (OpenSpec.ofChange fnExactGiveOutSpec)) fnExactGiveOutCard

/-- THE SECOND FORM's CARD OF 'laws.FnExactBestHour'. -/
def fnExactBestHourUptoCard : Claim7 := { stood := { row := fnExactBestHourUptoRow, standIns := [], harness := (true, "4f2bd831c2782164a158d42da1169750c7ee8b8aadbb36a13d2ec663851c3945"), looks := true }, kinds := [], alts := [], laidByText := true, laidKinds := [.data, .handle], laidTests := true, laidLooks := .later }
def FnExactBestHourUptoCardSaid : Prop := Claim7.holds Tryz.pinned (.plain (OpenSpec.upto fnExactBestHourSpec)) fnExactBestHourUptoCard

/-- THE SECOND FORM's CARD OF 'laws.FnExactBestCell'. -/
def fnExactBestCellUptoCard : Claim7 := { stood := { row := fnExactBestCellUptoRow, standIns := [], harness := (true, "4f2bd831c2782164a158d42da1169750c7ee8b8aadbb36a13d2ec663851c3945"), looks := true }, kinds := [], alts := [], laidByText := true, laidKinds := [.data, .handle], laidTests := true, laidLooks := .later }
def FnExactBestCellUptoCardSaid : Prop := Claim7.holds Tryz.pinned (.plain (OpenSpec.upto fnExactBestCellSpec)) fnExactBestCellUptoCard

/-- THE SECOND FORM's CARD OF 'laws.FnExactPlanFewest'. -/
def fnExactPlanFewestUptoCard : Claim7 := { stood := { row := fnExactPlanFewestUptoRow, standIns := [], harness := (true, "4f2bd831c2782164a158d42da1169750c7ee8b8aadbb36a13d2ec663851c3945"), looks := true }, kinds := [], alts := [], laidByText := true, laidKinds := [.data, .handle], laidTests := true, laidLooks := .later }
def FnExactPlanFewestUptoCardSaid : Prop := Claim7.holds Tryz.pinned (.plain (OpenSpec.upto fnExactPlanFewestSpec)) fnExactPlanFewestUptoCard

/-- THE SECOND FORM's CARD OF 'laws.FnExactGiveOut'. -/
def fnExactGiveOutUptoCard : Claim7 := { stood := { row := fnExactGiveOutUptoRow, standIns := [], harness := (true, "4f2bd831c2782164a158d42da1169750c7ee8b8aadbb36a13d2ec663851c3945"), looks := true }, kinds := [], alts := [], laidByText := true, laidKinds := [.data, .handle], laidTests := true, laidLooks := .later }
def FnExactGiveOutUptoCardSaid : Prop := Claim7.holds Tryz.pinned (.plain (OpenSpec.upto fnExactGiveOutSpec)) fnExactGiveOutUptoCard
end Rows
end Go.Proofs.YtohnggmlmglhmaaGreatDoor
