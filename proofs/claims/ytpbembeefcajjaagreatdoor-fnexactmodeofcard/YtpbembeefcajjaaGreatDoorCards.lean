/-
  DERIVED. GIVEN WITH THE SEED: THE CARDS: each row of YtpbembeefcajjaaGreatDoorRows.lean that lists a variable, with what it lists TIED to the program's text (the seventh form; the later family's looks); each row that meets fmt, with fmt's text TOLD by the authors' own Lean function (tested against real Go, not proved from fmt's source: count such statements apart). THE CARD IS WHAT COUNTS. Prove the row's statement (the work); the ties are given (YtpbembeefcajjaaGreatDoorTie.lean); close each card by the builder's one call (the guide's Derived/Test/ToyasCard.lean, 'card_holds'). Laid BY PROGRAM, IN A SANDBOX (cutbox-door.mjs). By AI agents, Wed Nov 11 2026. No macro, syntax, notation, axiom, sorry.
-/
import Derived.Test.YtpbembeefcajjaaGreatDoorRows
import GoSem.ClaimSeven
namespace Go.Proofs.YtpbembeefcajjaaGreatDoor
namespace Rows

/-- THE TIED CARD OF 'laws.FnExactModeOf'. -/
def fnExactModeOfCard : Claim7 := { stood := { row := fnExactModeOfRow, standIns := [], harness := (true, "b2f3473f358d2b412a2b3b59d73d153cdf66c655c0755f34446415a60859ddbb"), looks := true }, kinds := [], alts := [], laidByText := true, laidKinds := [.sentinel, .sentinel, .sentinel, .sentinel, .sentinel, .sentinel, .sentinel, .sentinel, .sentinel, .sentinel, .sentinel, .sentinel, .sentinel, .sentinel, .sentinel, .sentinel, .sentinel, .sentinel], laidTests := true, laidLooks := .later }
def FnExactModeOfCardSaid : Prop := Claim7.holds Tryz.pinned (.plain (OpenSpec.ofChange fnExactModeOfSpec)) fnExactModeOfCard

/-- THE SECOND FORM's CARD OF 'laws.FnExactModeOf'. -/
def fnExactModeOfUptoCard : Claim7 := { stood := { row := fnExactModeOfUptoRow, standIns := [], harness := (true, "b2f3473f358d2b412a2b3b59d73d153cdf66c655c0755f34446415a60859ddbb"), looks := true }, kinds := [], alts := [], laidByText := true, laidKinds := [.sentinel, .sentinel, .sentinel, .sentinel, .sentinel, .sentinel, .sentinel, .sentinel, .sentinel, .sentinel, .sentinel, .sentinel, .sentinel, .sentinel, .sentinel, .sentinel, .sentinel, .sentinel], laidTests := true, laidLooks := .later }
def FnExactModeOfUptoCardSaid : Prop := Claim7.holds Tryz.pinned (.plain (OpenSpec.upto fnExactModeOfSpec)) fnExactModeOfUptoCard
end Rows
end Go.Proofs.YtpbembeefcajjaaGreatDoor
