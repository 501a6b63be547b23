/-
  DERIVED. GIVEN WITH THE SEED: THE CARDS: each row of YtiabhcfcpkkhoaaGreatDoorRows.lean that lists a variable, with what it lists TIED to the program's text (the seventh form; the later family's looks); each row that meets fmt, with fmt's text TOLD by the authors' own Lean function (tested against real Go, not proved from fmt's source: count such statements apart). THE CARD IS WHAT COUNTS. Prove the row's statement (the work); the ties are given (YtiabhcfcpkkhoaaGreatDoorTie.lean); close each card by the builder's one call (the guide's Derived/Test/ToyasCard.lean, 'card_holds'). Laid BY PROGRAM, IN A SANDBOX (cutbox-door.mjs). By AI agents, Wed Nov 11 2026. No macro, syntax, notation, axiom, sorry.
-/
import Derived.Test.YtiabhcfcpkkhoaaGreatDoorRows
import GoSem.ClaimSeven
namespace Go.Proofs.YtiabhcfcpkkhoaaGreatDoor
namespace Rows

/-- THE TIED CARD OF 'laws.FnExactPackAdd'. -/
def fnExactPackAddCard : Claim7 := { stood := { row := fnExactPackAddRow, standIns := [], harness := (true, "c66f4257af742e7c0d5f089b30c659703b6f0835b8d434d2f8dbb0d5772cdba6"), looks := true }, kinds := [], alts := [], laidByText := true, laidKinds := [.sentinel, .sentinel, .sentinel, .sentinel, .sentinel, .sentinel, .sentinel, .sentinel, .sentinel, .sentinel, .sentinel, .sentinel, .sentinel, .sentinel, .sentinel, .sentinel, .sentinel, .sentinel], laidTests := true, laidLooks := .later }
def FnExactPackAddCardSaid : Prop := Claim7.holds Tryz.pinned (.plain (OpenSpec.ofChange fnExactPackAddSpec)) fnExactPackAddCard

/-- THE SECOND FORM's CARD OF 'laws.FnExactPackAdd'. -/
def fnExactPackAddUptoCard : Claim7 := { stood := { row := fnExactPackAddUptoRow, standIns := [], harness := (true, "c66f4257af742e7c0d5f089b30c659703b6f0835b8d434d2f8dbb0d5772cdba6"), looks := true }, kinds := [], alts := [], laidByText := true, laidKinds := [.sentinel, .sentinel, .sentinel, .sentinel, .sentinel, .sentinel, .sentinel, .sentinel, .sentinel, .sentinel, .sentinel, .sentinel, .sentinel, .sentinel, .sentinel, .sentinel, .sentinel, .sentinel], laidTests := true, laidLooks := .later }
def FnExactPackAddUptoCardSaid : Prop := Claim7.holds Tryz.pinned (.plain (OpenSpec.upto fnExactPackAddSpec)) fnExactPackAddUptoCard
end Rows
end Go.Proofs.YtiabhcfcpkkhoaaGreatDoor
