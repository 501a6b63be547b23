/-
  DERIVED. GIVEN WITH THE SEED: THE CARDS: each row of YtmhpgkfaihcmeaaDoorRows.lean that lists a variable, with what it lists TIED to the program's text (the seventh form; the later family's looks); each row that meets fmt, with fmt's text TOLD by the authors' own Lean function (tested against real Go, not proved from fmt's source: count such statements apart). THE CARD IS WHAT COUNTS. Prove the row's statement (the work); the ties are given (YtmhpgkfaihcmeaaDoorTie.lean); close each card by the builder's one call (the guide's Derived/Test/ToyasCard.lean, 'card_holds'). Laid BY PROGRAM, IN A SANDBOX (cutbox-door.mjs). By AI agents, Wed Nov 11 2026. No macro, syntax, notation, axiom, sorry.
-/
import Derived.Test.YtmhpgkfaihcmeaaDoorRows
import GoSem.ClaimSeven
namespace Go.Proofs.YtmhpgkfaihcmeaaDoor
namespace Rows

/-- THE TIED CARD OF 'laws.FnFses'. -/
def fnFsesCard : Claim7 := { stood := { row := fnFsesRow, standIns := [], harness := (true, "4eca48f368e57b25dd473d72a1bd408d5948ee1e57e31eebe3edc1798c2bd43f"), looks := false }, kinds := [], alts := [], laidByText := true, laidKinds := [.sentinel, .sentinel, .sentinel, .sentinel, .sentinel], laidTests := true, laidLooks := .later }
def FnFsesCardSaid : Prop := Claim7.holds Tryd.pinned (.plain (OpenSpec.ofChange fnFsesSpec)) fnFsesCard

/-- THE TIED CARD OF 'laws.FnFseReads'. -/
def fnFseReadsCard : Claim7 := { stood := { row := fnFseReadsRow, standIns := [], harness := (true, "4eca48f368e57b25dd473d72a1bd408d5948ee1e57e31eebe3edc1798c2bd43f"), looks := false }, kinds := [], alts := [], laidByText := true, laidKinds := [.sentinel, .sentinel, .sentinel, .sentinel, .sentinel], laidTests := true, laidLooks := .later }
def FnFseReadsCardSaid : Prop := Claim7.holds Tryd.pinned (.plain (OpenSpec.ofChange fnFseReadsSpec)) fnFseReadsCard

/-- THE TIED CARD OF 'laws.FnNormBits'. -/
def fnNormBitsCard : Claim7 := { stood := { row := fnNormBitsRow, standIns := [], harness := (true, "4eca48f368e57b25dd473d72a1bd408d5948ee1e57e31eebe3edc1798c2bd43f"), looks := false }, kinds := [], alts := [], laidByText := true, laidKinds := [.sentinel, .sentinel, .sentinel, .sentinel], laidTests := true, laidLooks := .later }
def FnNormBitsCardSaid : Prop := Claim7.holds Tryd.pinned (.plain (OpenSpec.ofChange fnNormBitsSpec)) fnNormBitsCard

/-- THE SECOND FORM's CARD OF 'laws.FnFses'. -/
def fnFsesUptoCard : Claim7 := { stood := { row := fnFsesUptoRow, standIns := [], harness := (true, "4eca48f368e57b25dd473d72a1bd408d5948ee1e57e31eebe3edc1798c2bd43f"), looks := false }, kinds := [], alts := [], laidByText := true, laidKinds := [.sentinel, .sentinel, .sentinel, .sentinel, .sentinel], laidTests := true, laidLooks := .later }
def FnFsesUptoCardSaid : Prop := Claim7.holds Tryd.pinned (.plain (OpenSpec.upto fnFsesSpec)) fnFsesUptoCard

/-- THE SECOND FORM's CARD OF 'laws.FnFseReads'. -/
def fnFseReadsUptoCard : Claim7 := { stood := { row := fnFseReadsUptoRow, standIns := [], harness := (true, "4eca48f368e57b25dd473d72a1bd408d5948ee1e57e31eebe3edc1798c2bd43f"), looks := false }, kinds := [], alts := [], laidByText := true, laidKinds := [.sentinel, .sentinel, .sentinel, .sentinel, .sentinel], laidTests := true, laidLooks := .later }
def FnFseReadsUptoCardSaid : Prop := Claim7.holds Tryd.pinned (.plain (OpenSpec.upto fnFseReadsSpec)) fnFseReadsUptoCard

/-- THE SECOND FORM's CARD OF 'laws.FnNormBits'. -/
def fnNormBitsUptoCard : Claim7 := { stood := { row := fnNormBitsUptoRow, standIns := [], harness := (true, "4eca48f368e57b25dd473d72a1bd408d5948ee1e57e31eebe3edc1798c2bd43f"), looks := false }, kinds := [], alts := [], laidByText := true, laidKinds := [.sentinel, .sentinel, .sentinel, .sentinel], laidTests := true, laidLooks := .later }
def FnNormBitsUptoCardSaid : Prop := Claim7.holds Tryd.pinned (.plain (OpenSpec.upto fnNormBitsSpec)) fnNormBitsUptoCard
end Rows
end Go.Proofs.YtmhpgkfaihcmeaaDoor
