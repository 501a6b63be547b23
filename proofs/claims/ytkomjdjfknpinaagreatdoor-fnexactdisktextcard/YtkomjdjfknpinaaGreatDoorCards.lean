/-
  DERIVED. GIVEN WITH THE SEED: THE CARDS: each row of YtkomjdjfknpinaaGreatDoorRows.lean that lists a variable, with what it lists TIED to the program's text (the seventh form; the later family's looks); each row that meets fmt, with fmt's text TOLD by the authors' own Lean function (tested against real Go, not proved from fmt's source: count such statements apart). THE CARD IS WHAT COUNTS. Prove the row's statement (the work); the ties are given (YtkomjdjfknpinaaGreatDoorTie.lean); close each card by the builder's one call (the guide's Derived/Test/ToyasCard.lean, 'card_holds'). Laid BY PROGRAM, IN A SANDBOX (cutbox-door.mjs). By AI agents, Wed Nov 11 2026. No macro, syntax, notation, axiom, sorry.
-/
import Derived.Test.YtkomjdjfknpinaaGreatDoorRows
import GoSem.ClaimSeven
namespace Go.Proofs.YtkomjdjfknpinaaGreatDoor
namespace Rows

/-- THE TIED CARD OF 'laws.FnExactDiskText'. -/
def fnExactDiskTextCard : Claim7 := { stood := { row := fnExactDiskTextRow, standIns := [], harness := (true, "39999c7a67eaf07f61c671d0fe7d6f12b3fb6a7a4674856f73114042ac5c0e99"), looks := true }, kinds := [], alts := [], laidByText := true, laidKinds := [.data, .data, .data, .sentinel, .sentinel, .sentinel, .sentinel, .sentinel, .sentinel, .sentinel, .sentinel, .sentinel, .sentinel, .sentinel, .sentinel, .sentinel, .sentinel, .sentinel, .sentinel, .sentinel, .sentinel, .sentinel, .sentinel, .sentinel, .sentinel, .sentinel], laidTests := true, laidLooks := .later }
def FnExactDiskTextCardSaid : Prop := Claim7.holds Tryz.pinned (.plain (OpenSpec.ofChange fnExactDiskTextSpec)) fnExactDiskTextCard

/-- THE SECOND FORM's CARD OF 'laws.FnExactDiskText'. -/
def fnExactDiskTextUptoCard : Claim7 := { stood := { row := fnExactDiskTextUptoRow, standIns := [], harness := (true, "39999c7a67eaf07f61c671d0fe7d6f12b3fb6a7a4674856f73114042ac5c0e99"), looks := true }, kinds := [], alts := [], laidByText := true, laidKinds := [.data, .data, .data, .sentinel, .sentinel, .sentinel, .sentinel, .sentinel, .sentinel, .sentinel, .sentinel, .sentinel, .sentinel, .sentinel, .sentinel, .sentinel, .sentinel, .sentinel, .sentinel, .sentinel, .sentinel, .sentinel, .sentinel, .sentinel, .sentinel, .sentinel], laidTests := true, laidLooks := .later }
def FnExactDiskTextUptoCardSaid : Prop := Claim7.holds Tryz.pinned (.plain (OpenSpec.upto fnExactDiskTextSpec)) fnExactDiskTextUptoCard
end Rows
end Go.Proofs.YtkomjdjfknpinaaGreatDoor
