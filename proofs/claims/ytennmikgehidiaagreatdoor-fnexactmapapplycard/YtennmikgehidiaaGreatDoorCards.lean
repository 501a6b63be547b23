/-
  DERIVED. GIVEN WITH THE SEED: THE CARDS: each row of YtennmikgehidiaaGreatDoorRows.lean that lists a variable, with what it lists TIED to the program's text (the seventh form; the later family's looks); each row that meets fmt, with fmt's text TOLD by the authors' own Lean function (tested against real Go, not proved from fmt's source: count such statements apart). THE CARD IS WHAT COUNTS. Prove the row's statement (the work); the ties are given (YtennmikgehidiaaGreatDoorTie.lean); close each card by the builder's one call (the guide's Derived/Test/ToyasCard.lean, 'card_holds'). Laid BY PROGRAM, IN A SANDBOX (cutbox-door.mjs). By AI agents, Wed Nov 11 2026. No macro, syntax, notation, axiom, sorry.
-/
import Derived.Test.YtennmikgehidiaaGreatDoorRows
import GoSem.ClaimSeven
namespace Go.Proofs.YtennmikgehidiaaGreatDoor
namespace Rows

/-- THE TIED CARD OF 'laws.FnExactMapApply'. -/
def fnExactMapApplyCard : Claim7 := { stood := { row := fnExactMapApplyRow, standIns := [], harness := (true, "54b798b0acd74383486a6a31f204e08d11a51e3660f0082230b59c16d5b75098"), looks := true }, kinds := [], alts := [], laidByText := true, laidKinds := [.sentinel, .sentinel, .sentinel, .sentinel, .sentinel, .sentinel, .sentinel, .sentinel, .sentinel, .sentinel, .sentinel, .sentinel, .sentinel, .sentinel, .sentinel, .sentinel, .sentinel, .sentinel], laidTests := true, laidLooks := .later }
def FnExactMapApplyCardSaid : Prop := Claim7.holds Tryz.pinned (.plain (OpenSpec.ofChange fnExactMapApplySpec)) fnExactMapApplyCard

/-- THE SECOND FORM's CARD OF 'laws.FnExactMapApply'. -/
def fnExactMapApplyUptoCard : Claim7 := { stood := { row := fnExactMapApplyUptoRow, standIns := [], harness := (true, "54b798b0acd74383486a6a31f204e08d11a51e3660f0082230b59c16d5b75098"), looks := true }, kinds := [], alts := [], laidByText := true, laidKinds := [.sentinel, .sentinel, .sentinel, .sentinel, .sentinel, .sentinel, .sentinel, .sentinel, .sentinel, .sentinel, .sentinel, .sentinel, .sentinel, .sentinel, .sentinel, .sentinel, .sentinel, .sentinel], laidTests := true, laidLooks := .later }
def FnExactMapApplyUptoCardSaid : Prop := Claim7.holds Tryz.pinned (.plain (OpenSpec.upto fnExactMapApplySpec)) fnExactMapApplyUptoCard
end Rows
end Go.Proofs.YtennmikgehidiaaGreatDoor
