/-
  DERIVED. GIVEN WITH THE SEED: THE CARDS: each row of YtflnjkpejbohjaaDoorRows.lean that lists a variable, with what it lists TIED to the program's text (the seventh form; the later family's looks); each row that meets fmt, with fmt's text TOLD by the authors' own Lean function (tested against real Go, not proved from fmt's source: count such statements apart). THE CARD IS WHAT COUNTS. Prove the row's statement (the work); the ties are given (YtflnjkpejbohjaaDoorTie.lean); close each card by the builder's one call (the guide's Derived/Test/ToyasCard.lean, 'card_holds'). Laid BY PROGRAM, IN A SANDBOX (cutbox-door.mjs). By AI agents, Wed Nov 11 2026. No macro, syntax, notation, axiom, sorry.
-/
import Derived.Test.YtflnjkpejbohjaaDoorRows
import GoSem.ClaimSeven
namespace Go.Proofs.YtflnjkpejbohjaaDoor
namespace Rows

/-- THE TIED CARD OF 'laws.FnExactSpreadOfPlan'. -/
def fnExactSpreadOfPlanCard : Claim7 := { stood := { row := fnExactSpreadOfPlanRow, standIns := [], harness := (true, "ad6a9ebeb1e81185edf53ec8627d7cb5c85d8440c76e2ddc6719cdab0ca663dc"), looks := true }, kinds := [], alts := [], goes := true, laidByText := true, laidKinds := [.handle], laidTests := true, laidLooks := .later }
def FnExactSpreadOfPlanCardSaid : Prop := Claim7.holds Tryd.pinned (.plain (OpenSpec.ofChange fnExactSpreadOfPlanSpec)) fnExactSpreadOfPlanCard

/-- THE TIED CARD OF 'laws.FnExactReachedBy'. -/
def fnExactReachedByCard : Claim7 := { stood := { row := fnExactReachedByRow, standIns := [], harness := (true, "ad6a9ebeb1e81185edf53ec8627d7cb5c85d8440c76e2ddc6719cdab0ca663dc"), looks := true }, kinds := [], alts := [], goes := true, laidByText := true, laidKinds := [.handle], laidTests := true, laidLooks := .later }
def FnExactReachedByCardSaid : Prop := Claim7.holds Tryd.pinned (.plain (OpenSpec.ofChange fnExactReachedBySpec)) fnExactReachedByCard

/-- THE TIED CARD OF 'laws.FnExactPlanCovers'. -/
def fnExactPlanCoversCard : Claim7 := { stood := { row := fnExactPlanCoversRow, standIns := [], harness := (true, "ad6a9ebeb1e81185edf53ec8627d7cb5c85d8440c76e2ddc6719cdab0ca663dc"), looks := true }, kinds := [], alts := [], goes := true, laidByText := true, laidKinds := [.handle], laidTests := true, laidLooks := .later }
def FnExactPlanCoversCardSaid : Prop := Claim7.holds Tryd.pinned (.plain (OpenSpec.ofChange fnExactPlanCoversSpec)) fnExactPlanCoversCard

/-- THE TIED CARD OF 'laws.FnExactEarliestFind'. -/
def fnExactEarliestFindCard : Claim7 := { stood := { row := fnExactEarliestFindRow, standIns := [], harness := (true, "ad6a9ebeb1e81185edf53ec8627d7cb5c85d8440c76e2ddc6719cdab0ca663dc"), looks := true }, kinds := [], alts := [], goes := true, laidByText := true, laidKinds := [.sentinel, .sentinel, .sentinel, .sentinel, .sentinel], laidTests := true, laidLooks := .later }
def FnExactEarliestFindCardSaid : Prop := Claim7.holds Tryd.pinned (.plain (OpenSpec.ofChange fnExactEarliestFindSpec)) fnExactEarliestFindCard

/-- THE SECOND FORM's CARD OF 'laws.FnExactSpreadOfPlan'. -/
def fnExactSpreadOfPlanUptoCard : Claim7 := { stood := { row := fnExactSpreadOfPlanUptoRow, standIns := [], harness := (true, "ad6a9ebeb1e81185edf53ec8627d7cb5c85d8440c76e2ddc6719cdab0ca663dc"), looks := true }, kinds := [], alts := [], goes := true, laidByText := true, laidKinds := [.handle], laidTests := true, laidLooks := .later }
def FnExactSpreadOfPlanUptoCardSaid : Prop := Claim7.holds Tryd.pinned (.plain (OpenSpec.upto fnExactSpreadOfPlanSpec)) fnExactSpreadOfPlanUptoCard

/-- THE SECOND FORM's CARD OF 'laws.FnExactReachedBy'. -/
def fnExactReachedByUptoCard : Claim7 := { stood := { row := fnExactReachedByUptoRow, standIns := [], harness := (true, "ad6a9ebeb1e81185edf53ec8627d7cb5c85d8440c76e2ddc6719cdab0ca663dc"), looks := true }, kinds := [], alts := [], goes := true, laidByText := true, laidKinds := [.handle], laidTests := true, laidLooks := .later }
def FnExactReachedByUptoCardSaid : Prop := Claim7.holds Tryd.pinned (.plain (OpenSpec.upto fnExactReachedBySpec)) fnExactReachedByUptoCard

/-- THE SECOND FORM's CARD OF 'laws.FnExactPlanCovers'. -/
def fnExactPlanCoversUptoCard : Claim7 := { stood := { row := fnExactPlanCoversUptoRow, standIns := [], harness := (true, "ad6a9ebeb1e81185edf53ec8627d7cb5c85d8440c76e2ddc6719cdab0ca663dc"), looks := true }, kinds := [], alts := [], goes := true, laidByText := true, laidKinds := [.handle], laidTests := true, laidLooks := .later }
def FnExactPlanCoversUptoCardSaid : Prop := Claim7.holds Tryd.pinned (.plain (OpenSpec.upto fnExactPlanCoversSpec)) fnExactPlanCoversUptoCard

/-- THE SECOND FORM's CARD OF 'laws.FnExactEarliestFind'. -/
def fnExactEarliestFindUptoCard : Claim7 := { stood := { row := fnExactEarliestFindUptoRow, standIns := [], harness := (true, "ad6a9ebeb1e81185edf53ec8627d7cb5c85d8440c76e2ddc6719cdab0ca663dc"), looks := true }, kinds := [], alts := [], goes := true, laidByText := true, laidKinds := [.sentinel, .sentinel, .sentinel, .sentinel, .sentinel], laidTests := true, laidLooks := .later }
def FnExactEarliestFindUptoCardSaid : Prop := Claim7.holds Tryd.pinned (.plain (OpenSpec.upto fnExactEarliestFindSpec)) fnExactEarliestFindUptoCard
end Rows
end Go.Proofs.YtflnjkpejbohjaaDoor
