/-
  DERIVED. GIVEN WITH THE SEED: THE CARDS: each row of YtbapdnhmodklbaaGreatDoorRows.lean that lists a variable, with what it lists TIED to the program's text (the seventh form; the later family's looks); each row that meets fmt, with fmt's text TOLD by the authors' own Lean function (tested against real Go, not proved from fmt's source: count such statements apart). THE CARD IS WHAT COUNTS. Prove the row's statement (the work); the ties are given (YtbapdnhmodklbaaGreatDoorTie.lean); close each card by the builder's one call (the guide's Derived/Test/ToyasCard.lean, 'card_holds'). Laid BY PROGRAM, IN A SANDBOX (cutbox-door.mjs). By AI agents, Wed Nov 11 2026. No macro, syntax, notation, axiom, sorry.
-/
import Derived.Test.YtbapdnhmodklbaaGreatDoorRows
import GoSem.ClaimSeven
namespace Go.Proofs.YtbapdnhmodklbaaGreatDoor
namespace Rows

/-- THE TIED CARD OF 'laws.FnExactFree'. -/
def fnExactFreeCard : Claim7 := { stood := { row := fnExactFreeRow, standIns := [], harness := (true, "baac8ce5f2a1acd68c13d7c19cea10047f16cf552d7cdd6efb3438bb14c6633b"), looks := true }, kinds := [], alts := [], laidByText := true, laidKinds := [.sentinel, .sentinel, .sentinel, .sentinel, .sentinel, .sentinel, .sentinel, .sentinel, .sentinel, .sentinel, .sentinel, .sentinel, .sentinel, .sentinel, .sentinel, .sentinel, .sentinel, .sentinel], laidTests := true, laidLooks := .later }
def FnExactFreeCardSaid : Prop := Claim7.holds Tryz.pinned (.plain (OpenSpec.ofChange fnExactFreeSpec)) fnExactFreeCard

/-- THE SECOND FORM's CARD OF 'laws.FnExactFree'. -/
def fnExactFreeUptoCard : Claim7 := { stood := { row := fnExactFreeUptoRow, standIns := [], harness := (true, "baac8ce5f2a1acd68c13d7c19cea10047f16cf552d7cdd6efb3438bb14c6633b"), looks := true }, kinds := [], alts := [], laidByText := true, laidKinds := [.sentinel, .sentinel, .sentinel, .sentinel, .sentinel, .sentinel, .sentinel, .sentinel, .sentinel, .sentinel, .sentinel, .sentinel, .sentinel, .sentinel, .sentinel, .sentinel, .sentinel, .sentinel], laidTests := true, laidLooks := .later }
def FnExactFreeUptoCardSaid : Prop := Claim7.holds Tryz.pinned (.plain (OpenSpec.upto fnExactFreeSpec)) fnExactFreeUptoCard
end Rows
end Go.Proofs.YtbapdnhmodklbaaGreatDoor
