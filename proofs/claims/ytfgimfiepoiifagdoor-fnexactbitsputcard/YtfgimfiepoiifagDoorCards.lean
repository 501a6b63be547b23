/-
  DERIVED. GIVEN WITH THE SEED: THE CARDS: each row of YtfgimfiepoiifagDoorRows.lean that lists a variable, with what it lists TIED to the program's text (the seventh form; the later family's looks); each row that meets fmt, with fmt's text TOLD by the authors' own Lean function (tested against real Go, not proved from fmt's source: count such statements apart). THE CARD IS WHAT COUNTS. Prove the row's statement (the work); the ties are given (YtfgimfiepoiifagDoorTie.lean); close each card by the builder's one call (the guide's Derived/Test/ToyasCard.lean, 'card_holds'). Laid BY PROGRAM, IN A SANDBOX (cutbox-door.mjs). By AI agents, Wed Nov 11 2026. No macro, syntax, notation, axiom, sorry.
-/
import Derived.Test.YtfgimfiepoiifagDoorRows
import GoSem.ClaimSeven
namespace Go.Proofs.YtfgimfiepoiifagDoor
namespace Rows

/-- THE TIED CARD OF 'laws.FnExactBitsPut'. -/
def fnExactBitsPutCard : Claim7 := { stood := { row := fnExactBitsPutRow, standIns := [], harness := (true, "418a43ac731a594457f95f083a617ca30fd3af70077a6d85fb6a7574c5086564"), looks := false }, kinds := [], alts := [], laidByText := true, laidKinds := [.sentinel, .sentinel], laidTests := true, laidLooks := .later }
def FnExactBitsPutCardSaid : Prop := Claim7.holds Tryd.pinned (.plain (OpenSpec.ofChange fnExactBitsPutSpec)) fnExactBitsPutCard

/-- THE TIED CARD OF 'laws.FnExactBitsGet'. -/
def fnExactBitsGetCard : Claim7 := { stood := { row := fnExactBitsGetRow, standIns := [], harness := (true, "418a43ac731a594457f95f083a617ca30fd3af70077a6d85fb6a7574c5086564"), looks := false }, kinds := [], alts := [], laidByText := true, laidKinds := [.sentinel, .sentinel], laidTests := true, laidLooks := .later }
def FnExactBitsGetCardSaid : Prop := Claim7.holds Tryd.pinned (.plain (OpenSpec.ofChange fnExactBitsGetSpec)) fnExactBitsGetCard

/-- THE TIED CARD OF 'laws.FnExactBackGet'. -/
def fnExactBackGetCard : Claim7 := { stood := { row := fnExactBackGetRow, standIns := [], harness := (true, "418a43ac731a594457f95f083a617ca30fd3af70077a6d85fb6a7574c5086564"), looks := false }, kinds := [], alts := [], laidByText := true, laidKinds := [.sentinel, .sentinel], laidTests := true, laidLooks := .later }
def FnExactBackGetCardSaid : Prop := Claim7.holds Tryd.pinned (.plain (OpenSpec.ofChange fnExactBackGetSpec)) fnExactBackGetCard

/-- THE SECOND FORM's CARD OF 'laws.FnExactBitsPut'. -/
def fnExactBitsPutUptoCard : Claim7 := { stood := { row := fnExactBitsPutUptoRow, standIns := [], harness := (true, "418a43ac731a594457f95f083a617ca30fd3af70077a6d85fb6a7574c5086564"), looks := false }, kinds := [], alts := [], laidByText := true, laidKinds := [.sentinel, .sentinel], laidTests := true, laidLooks := .later }
def FnExactBitsPutUptoCardSaid : Prop := Claim7.holds Tryd.pinned (.plain (OpenSpec.upto fnExactBitsPutSpec)) fnExactBitsPutUptoCard

/-- THE SECOND FORM's CARD OF 'laws.FnExactBitsGet'. -/
def fnExactBitsGetUptoCard : Claim7 := { stood := { row := fnExactBitsGetUptoRow, standIns := [], harness := (true, "418a43ac731a594457f95f083a617ca30fd3af70077a6d85fb6a7574c5086564"), looks := false }, kinds := [], alts := [], laidByText := true, laidKinds := [.sentinel, .sentinel], laidTests := true, laidLooks := .later }
def FnExactBitsGetUptoCardSaid : Prop := Claim7.holds Tryd.pinned (.plain (OpenSpec.upto fnExactBitsGetSpec)) fnExactBitsGetUptoCard

/-- THE SECOND FORM's CARD OF 'laws.FnExactBackGet'. -/
def fnExactBackGetUptoCard : Claim7 := { stood := { row := fnExactBackGetUptoRow, standIns := [], harness := (true, "418a43ac731a594457f95f083a617ca30fd3af70077a6d85fb6a7574c5086564"), looks := false }, kinds := [], alts := [], laidByText := true, laidKinds := [.sentinel, .sentinel], laidTests := true, laidLooks := .later }
def FnExactBackGetUptoCardSaid : Prop := Claim7.holds Tryd.pinned (.plain (OpenSpec.upto fnExactBackGetSpec)) fnExactBackGetUptoCard
end Rows
end Go.Proofs.YtfgimfiepoiifagDoor
