/-
  DERIVED. GIVEN WITH THE SEED: THE CARDS: each row of YtjeippleimlljaaGreatDoorRows.lean that lists a variable, with what it lists TIED to the program's text (the seventh form; the later family's looks); each row that meets fmt, with fmt's text TOLD by the authors' own Lean function (tested against real Go, not proved from fmt's source: count such statements apart). THE CARD IS WHAT COUNTS. Prove the row's statement (the work); the ties are given (YtjeippleimlljaaGreatDoorTie.lean); close each card by the builder's one call (the guide's Derived/Test/ToyasCard.lean, 'card_holds'). Laid BY PROGRAM, IN A SANDBOX (cutbox-door.mjs). By AI agents, Wed Nov 11 2026. No macro, syntax, notation, axiom, sorry.
-/
import Derived.Test.YtjeippleimlljaaGreatDoorRows
import GoSem.ClaimSeven
namespace Go.Proofs.YtjeippleimlljaaGreatDoor
namespace Rows

/-- THE TIED CARD OF 'laws.FnExactPackRead'. -/
def fnExactPackReadCard : Claim7 := { stood := { row := fnExactPackReadRow, standIns := [], harness := (true, "87a65b9b07e607cb94069a10c6fc2bab4b30c4bb0f9d4b0f1579e8a0d9e490a6"), looks := true }, kinds := [], alts := [], laidByText := true, laidKinds := [.sentinel, .sentinel, .sentinel, .sentinel, .sentinel, .sentinel, .sentinel, .sentinel, .sentinel, .sentinel, .sentinel, .sentinel, .sentinel, .sentinel, .sentinel, .sentinel, .sentinel, .sentinel, .sentinel, .sentinel, .sentinel, .sentinel, .sentinel], laidTests := true, laidLooks := .later }
def FnExactPackReadCardSaid : Prop := Claim7.holds Tryz.pinned (.plain (OpenSpec.ofChange fnExactPackReadSpec)) fnExactPackReadCard

/-- THE SECOND FORM's CARD OF 'laws.FnExactPackRead'. -/
def fnExactPackReadUptoCard : Claim7 := { stood := { row := fnExactPackReadUptoRow, standIns := [], harness := (true, "87a65b9b07e607cb94069a10c6fc2bab4b30c4bb0f9d4b0f1579e8a0d9e490a6"), looks := true }, kinds := [], alts := [], laidByText := true, laidKinds := [.sentinel, .sentinel, .sentinel, .sentinel, .sentinel, .sentinel, .sentinel, .sentinel, .sentinel, .sentinel, .sentinel, .sentinel, .sentinel, .sentinel, .sentinel, .sentinel, .sentinel, .sentinel, .sentinel, .sentinel, .sentinel, .sentinel, .sentinel], laidTests := true, laidLooks := .later }
def FnExactPackReadUptoCardSaid : Prop := Claim7.holds Tryz.pinned (.plain (OpenSpec.upto fnExactPackReadSpec)) fnExactPackReadUptoCard
end Rows
end Go.Proofs.YtjeippleimlljaaGreatDoor
