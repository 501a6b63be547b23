/-
  DERIVED. GIVEN WITH THE SEED: THE CARDS: each row of YtpancccomdchnaaGreatDoorRows.lean that lists a variable, with what it lists TIED to the program's text (the seventh form; the later family's looks); each row that meets fmt, with fmt's text TOLD by the authors' own Lean function (tested against real Go, not proved from fmt's source: count such statements apart). THE CARD IS WHAT COUNTS. Prove the row's statement (the work); the ties are given (YtpancccomdchnaaGreatDoorTie.lean); close each card by the builder's one call (the guide's Derived/Test/ToyasCard.lean, 'card_holds'). Laid BY PROGRAM, IN A SANDBOX (cutbox-door.mjs). By AI agents, Wed Nov 11 2026. No macro, syntax, notation, axiom, sorry.
-/
import Derived.Test.YtpancccomdchnaaGreatDoorRows
import GoSem.ClaimSeven
namespace Go.Proofs.YtpancccomdchnaaGreatDoor
namespace Rows

/-- THE TIED CARD OF 'laws.FnExactPacked'. -/
def fnExactPackedCard : Claim7 := { stood := { row := fnExactPackedRow, standIns := [], harness := (true, "8d5284cb6ac63082a033fd87b887f62e0ef8ba990d67f7f5ac09b61ac3fb8c5b"), looks := true }, kinds := [], alts := [], laidByText := true, laidKinds := [.sentinel, .sentinel, .sentinel, .sentinel, .sentinel, .sentinel, .sentinel], laidTests := true, laidLooks := .later }
def FnExactPackedCardSaid : Prop := Claim7.holds Tryz.pinned (.plain (OpenSpec.ofChange fnExactPackedSpec)) fnExactPackedCard

/-- THE SECOND FORM's CARD OF 'laws.FnExactPacked'. -/
def fnExactPackedUptoCard : Claim7 := { stood := { row := fnExactPackedUptoRow, standIns := [], harness := (true, "8d5284cb6ac63082a033fd87b887f62e0ef8ba990d67f7f5ac09b61ac3fb8c5b"), looks := true }, kinds := [], alts := [], laidByText := true, laidKinds := [.sentinel, .sentinel, .sentinel, .sentinel, .sentinel, .sentinel, .sentinel], laidTests := true, laidLooks := .later }
def FnExactPackedUptoCardSaid : Prop := Claim7.holds Tryz.pinned (.plain (OpenSpec.upto fnExactPackedSpec)) fnExactPackedUptoCard
end Rows
end Go.Proofs.YtpancccomdchnaaGreatDoor
