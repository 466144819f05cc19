/-
  DERIVED. GIVEN WITH THE SEED: THE CARDS: each row of YtmkkckhfghomfaaDoorRows.lean that lists a variable, with what it lists TIED to the program's text (the seventh form; the later family's looks); each row that meets fmt, with fmt's text TOLD by the authors' own Lean function (tested against real Go, not proved from fmt's source: count such statements apart). THE CARD IS WHAT COUNTS. Prove the row's statement (the work); the ties are given (YtmkkckhfghomfaaDoorTie.lean); close each card by the builder's one call (the guide's Derived/Test/ToyasCard.lean, 'card_holds'). Laid BY PROGRAM, IN A SANDBOX (cutbox-door.mjs). By AI agents, Wed Nov 11 2026. No macro, syntax, notation, axiom, sorry.
-/
import Derived.Test.YtmkkckhfghomfaaDoorRows
import GoSem.ClaimSeven
namespace Go.Proofs.YtmkkckhfghomfaaDoor
namespace Rows

/-- THE TIED CARD OF 'laws.FnExactSeenAtVisits'. -/
def fnExactSeenAtVisitsCard : Claim7 := { stood := { row := fnExactSeenAtVisitsRow, standIns := [], harness := (true, "d1f7cc190d4f68095787391bcdf7a4ee93261bbabce2337c3d8e0f049c3ec37f"), looks := true }, kinds := [], alts := [], laidByText := true, laidKinds := [.sentinel, .sentinel, .sentinel, .sentinel, .sentinel], laidTests := true, laidLooks := .later }
def FnExactSeenAtVisitsCardSaid : Prop := Claim7.holds Tryd.pinned (.plain (OpenSpec.ofChange fnExactSeenAtVisitsSpec)) fnExactSeenAtVisitsCard

/-- THE TIED CARD OF 'laws.FnExactMeanHour'. -/
def fnExactMeanHourCard : Claim7 := { stood := { row := fnExactMeanHourRow, standIns := [], harness := (true, "d1f7cc190d4f68095787391bcdf7a4ee93261bbabce2337c3d8e0f049c3ec37f"), looks := true }, kinds := [], alts := [], laidByText := true, laidKinds := [.sentinel, .sentinel, .sentinel, .sentinel, .sentinel], laidTests := true, laidLooks := .later }
def FnExactMeanHourCardSaid : Prop := Claim7.holds Tryd.pinned (.plain (OpenSpec.ofChange fnExactMeanHourSpec)) fnExactMeanHourCard

/-- THE TIED CARD OF 'laws.FnExactSortFinds'. -/
def fnExactSortFindsCard : Claim7 := { stood := { row := fnExactSortFindsRow, standIns := [], harness := (true, "d1f7cc190d4f68095787391bcdf7a4ee93261bbabce2337c3d8e0f049c3ec37f"), looks := true }, kinds := [], alts := [], laidByText := true, laidKinds := [.sentinel, .sentinel, .sentinel, .sentinel, .sentinel], laidTests := true, laidLooks := .later }
def FnExactSortFindsCardSaid : Prop := Claim7.holds Tryd.pinned (.plain (OpenSpec.ofChange fnExactSortFindsSpec)) fnExactSortFindsCard

/-- THE TIED CARD OF 'laws.FnExactMergeFinds'. -/
def fnExactMergeFindsCard : Claim7 := { stood := { row := fnExactMergeFindsRow, standIns := [], harness := (true, "d1f7cc190d4f68095787391bcdf7a4ee93261bbabce2337c3d8e0f049c3ec37f"), looks := true }, kinds := [], alts := [], laidByText := true, laidKinds := [.sentinel, .sentinel, .sentinel, .sentinel, .sentinel], laidTests := true, laidLooks := .later }
def FnExactMergeFindsCardSaid : Prop := Claim7.holds Tryd.pinned (.plain (OpenSpec.ofChange fnExactMergeFindsSpec)) fnExactMergeFindsCard

/-- THE SECOND FORM's CARD OF 'laws.FnExactSeenAtVisits'. -/
def fnExactSeenAtVisitsUptoCard : Claim7 := { stood := { row := fnExactSeenAtVisitsUptoRow, standIns := [], harness := (true, "d1f7cc190d4f68095787391bcdf7a4ee93261bbabce2337c3d8e0f049c3ec37f"), looks := true }, kinds := [], alts := [], laidByText := true, laidKinds := [.sentinel, .sentinel, .sentinel, .sentinel, .sentinel], laidTests := true, laidLooks := .later }
def FnExactSeenAtVisitsUptoCardSaid : Prop := Claim7.holds Tryd.pinned (.plain (OpenSpec.upto fnExactSeenAtVisitsSpec)) fnExactSeenAtVisitsUptoCard

/-- THE SECOND FORM's CARD OF 'laws.FnExactMeanHour'. -/
def fnExactMeanHourUptoCard : Claim7 := { stood := { row := fnExactMeanHourUptoRow, standIns := [], harness := (true, "d1f7cc190d4f68095787391bcdf7a4ee93261bbabce2337c3d8e0f049c3ec37f"), looks := true }, kinds := [], alts := [], laidByText := true, laidKinds := [.sentinel, .sentinel, .sentinel, .sentinel, .sentinel], laidTests := true, laidLooks := .later }
def FnExactMeanHourUptoCardSaid : Prop := Claim7.holds Tryd.pinned (.plain (OpenSpec.upto fnExactMeanHourSpec)) fnExactMeanHourUptoCard

/-- THE SECOND FORM's CARD OF 'laws.FnExactSortFinds'. -/
def fnExactSortFindsUptoCard : Claim7 := { stood := { row := fnExactSortFindsUptoRow, standIns := [], harness := (true, "d1f7cc190d4f68095787391bcdf7a4ee93261bbabce2337c3d8e0f049c3ec37f"), looks := true }, kinds := [], alts := [], laidByText := true, laidKinds := [.sentinel, .sentinel, .sentinel, .sentinel, .sentinel], laidTests := true, laidLooks := .later }
def FnExactSortFindsUptoCardSaid : Prop := Claim7.holds Tryd.pinned (.plain (OpenSpec.upto fnExactSortFindsSpec)) fnExactSortFindsUptoCard

/-- THE SECOND FORM's CARD OF 'laws.FnExactMergeFinds'. -/
def fnExactMergeFindsUptoCard : Claim7 := { stood := { row := fnExactMergeFindsUptoRow, standIns := [], harness := (true, "d1f7cc190d4f68095787391bcdf7a4ee93261bbabce2337c3d8e0f049c3ec37f"), looks := true }, kinds := [], alts := [], laidByText := true, laidKinds := [.sentinel, .sentinel, .sentinel, .sentinel, .sentinel], laidTests := true, laidLooks := .later }
def FnExactMergeFindsUptoCardSaid : Prop := Claim7.holds Tryd.pinned (.plain (OpenSpec.upto fnExactMergeFindsSpec)) fnExactMergeFindsUptoCard
end Rows
end Go.Proofs.YtmkkckhfghomfaaDoor
