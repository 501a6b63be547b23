/-
  DERIVED. GIVEN WITH THE SEED: THE CARDS: each row of YtfgimfiepoiifahDoorRows.lean that lists a variable, with what it lists TIED to the program's text (the seventh form; the later family's looks); each row that meets fmt, with fmt's text TOLD by the authors' own Lean function (tested against real Go, not proved from fmt's source: count such statements apart). THE CARD IS WHAT COUNTS. Prove the row's statement (the work); the ties are given (YtfgimfiepoiifahDoorTie.lean); close each card by the builder's one call (the guide's Derived/Test/ToyasCard.lean, 'card_holds'). Laid BY PROGRAM, IN A SANDBOX (cutbox-door.mjs). By AI agents, Wed Nov 11 2026. No macro, syntax, notation, axiom, sorry.
-/
import Derived.Test.YtfgimfiepoiifahDoorRows
import GoSem.ClaimSeven
namespace Go.Proofs.YtfgimfiepoiifahDoor
namespace Rows

/-- THE TIED CARD OF 'laws.FnExactBitsJoin'. -/
def fnExactBitsJoinCard : Claim7 := { stood := { row := fnExactBitsJoinRow, standIns := [], harness := (true, "ad52b241c202a9c212775e002454e87b691a066fa70359b089ed7d50d0a9043d"), looks := true }, kinds := [], alts := [], laidByText := true, laidKinds := [.sentinel, .sentinel, .sentinel], laidTests := true, laidLooks := .later }
def FnExactBitsJoinCardSaid : Prop := Claim7.holds Tryd.pinned (.plain (OpenSpec.ofChange fnExactBitsJoinSpec)) fnExactBitsJoinCard

/-- THE TIED CARD OF 'laws.FnExactBitsSeal'. -/
def fnExactBitsSealCard : Claim7 := { stood := { row := fnExactBitsSealRow, standIns := [], harness := (true, "ad52b241c202a9c212775e002454e87b691a066fa70359b089ed7d50d0a9043d"), looks := true }, kinds := [], alts := [], laidByText := true, laidKinds := [.sentinel, .sentinel], laidTests := true, laidLooks := .later }
def FnExactBitsSealCardSaid : Prop := Claim7.holds Tryd.pinned (.plain (OpenSpec.ofChange fnExactBitsSealSpec)) fnExactBitsSealCard

/-- THE SECOND FORM's CARD OF 'laws.FnExactBitsJoin'. -/
def fnExactBitsJoinUptoCard : Claim7 := { stood := { row := fnExactBitsJoinUptoRow, standIns := [], harness := (true, "ad52b241c202a9c212775e002454e87b691a066fa70359b089ed7d50d0a9043d"), looks := true }, kinds := [], alts := [], laidByText := true, laidKinds := [.sentinel, .sentinel, .sentinel], laidTests := true, laidLooks := .later }
def FnExactBitsJoinUptoCardSaid : Prop := Claim7.holds Tryd.pinned (.plain (OpenSpec.upto fnExactBitsJoinSpec)) fnExactBitsJoinUptoCard

/-- THE SECOND FORM's CARD OF 'laws.FnExactBitsSeal'. -/
def fnExactBitsSealUptoCard : Claim7 := { stood := { row := fnExactBitsSealUptoRow, standIns := [], harness := (true, "ad52b241c202a9c212775e002454e87b691a066fa70359b089ed7d50d0a9043d"), looks := true }, kinds := [], alts := [], laidByText := true, laidKinds := [.sentinel, .sentinel], laidTests := true, laidLooks := .later }
def FnExactBitsSealUptoCardSaid : Prop := Claim7.holds Tryd.pinned (.plain (OpenSpec.upto fnExactBitsSealSpec)) fnExactBitsSealUptoCard
end Rows
end Go.Proofs.YtfgimfiepoiifahDoor
