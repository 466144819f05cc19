/-
  DERIVED. GIVEN WITH THE SEED: THE CARDS: each row of YtflnjkpejbohjaaGreatDoorRows.lean that lists a variable, with what it lists TIED to the program's text (the seventh form; the later family's looks); each row that meets fmt, with fmt's text TOLD by the authors' own Lean function (tested against real Go, not proved from fmt's source: count such statements apart). THE CARD IS WHAT COUNTS. Prove the row's statement (the work); the ties are given (YtflnjkpejbohjaaGreatDoorTie.lean); close each card by the builder's one call (the guide's Derived/Test/ToyasCard.lean, 'card_holds'). Laid BY PROGRAM, IN A SANDBOX (cutbox-door.mjs). By AI agents, Wed Nov 11 2026. No macro, syntax, notation, axiom, sorry.
-/
import Derived.Test.YtflnjkpejbohjaaGreatDoorRows
import GoSem.ClaimSeven
namespace Go.Proofs.YtflnjkpejbohjaaGreatDoor
namespace Rows

/-- THE TIED CARD OF 'laws.FnExactFoundOn'. -/
def fnExactFoundOnCard : Claim7 := { stood := { row := fnExactFoundOnRow, standIns := [], harness := (true, "dff5c76da17b7f8506b9d974031913debb015259a232308bbde3d16c2f5b48fa"), looks := true }, kinds := [], alts := [], goes := true, laidByText := true, laidKinds := [.handle], laidTests := true, laidLooks := .later }
def FnExactFoundOnCardSaid : Prop := Claim7.holds Tryz.pinned (.plain (OpenSpec.ofChange fnExactFoundOnSpec)) fnExactFoundOnCard

/-- THE TIED CARD OF 'laws.FnExactPoorestBeach'. -/
def fnExactPoorestBeachCard : Claim7 := { stood := { row := fnExactPoorestBeachRow, standIns := [], harness := (true, "dff5c76da17b7f8506b9d974031913debb015259a232308bbde3d16c2f5b48fa"), looks := true }, kinds := [], alts := [], goes := true, laidByText := true, laidKinds := [.data, .handle], laidTests := true, laidLooks := .later }
def FnExactPoorestBeachCardSaid : Prop := Claim7.holds Tryz.pinned (.plain (OpenSpec.ofChange fnExactPoorestBeachSpec)) fnExactPoorestBeachCard

/-- THE TIED CARD OF 'laws.FnExactNeedlessRelease'. -/
def fnExactNeedlessReleaseCard : Claim7 := { stood := { row := fnExactNeedlessReleaseRow, standIns := [], harness := (true, "dff5c76da17b7f8506b9d974031913debb015259a232308bbde3d16c2f5b48fa"), looks := true }, kinds := [], alts := [], goes := true, laidByText := true, laidKinds := [.handle], laidTests := true, laidLooks := .later }
def FnExactNeedlessReleaseCardSaid : Prop := Claim7.holds Tryz.pinned (.plain (OpenSpec.ofChange fnExactNeedlessReleaseSpec)) fnExactNeedlessReleaseCard

/-- THE SECOND FORM's CARD OF 'laws.FnExactFoundOn'. -/
def fnExactFoundOnUptoCard : Claim7 := { stood := { row := fnExactFoundOnUptoRow, standIns := [], harness := (true, "dff5c76da17b7f8506b9d974031913debb015259a232308bbde3d16c2f5b48fa"), looks := true }, kinds := [], alts := [], goes := true, laidByText := true, laidKinds := [.handle], laidTests := true, laidLooks := .later }
def FnExactFoundOnUptoCardSaid : Prop := Claim7.holds Tryz.pinned (.plain (OpenSpec.upto fnExactFoundOnSpec)) fnExactFoundOnUptoCard

/-- THE SECOND FORM's CARD OF 'laws.FnExactPoorestBeach'. -/
def fnExactPoorestBeachUptoCard : Claim7 := { stood := { row := fnExactPoorestBeachUptoRow, standIns := [], harness := (true, "dff5c76da17b7f8506b9d974031913debb015259a232308bbde3d16c2f5b48fa"), looks := true }, kinds := [], alts := [], goes := true, laidByText := true, laidKinds := [.data, .handle], laidTests := true, laidLooks := .later }
def FnExactPoorestBeachUptoCardSaid : Prop := Claim7.holds Tryz.pinned (.plain (OpenSpec.upto fnExactPoorestBeachSpec)) fnExactPoorestBeachUptoCard

/-- THE SECOND FORM's CARD OF 'laws.FnExactNeedlessRelease'. -/
def fnExactNeedlessReleaseUptoCard : Claim7 := { stood := { row := fnExactNeedlessReleaseUptoRow, standIns := [], harness := (true, "dff5c76da17b7f8506b9d974031913debb015259a232308bbde3d16c2f5b48fa"), looks := true }, kinds := [], alts := [], goes := true, laidByText := true, laidKinds := [.handle], laidTests := true, laidLooks := .later }
def FnExactNeedlessReleaseUptoCardSaid : Prop := Claim7.holds Tryz.pinned (.plain (OpenSpec.upto fnExactNeedlessReleaseSpec)) fnExactNeedlessReleaseUptoCard
end Rows
end Go.Proofs.YtflnjkpejbohjaaGreatDoor
