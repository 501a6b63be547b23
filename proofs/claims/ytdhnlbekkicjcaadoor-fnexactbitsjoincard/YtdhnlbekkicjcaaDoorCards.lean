/-
  DERIVED. GIVEN WITH THE SEED: THE CARDS: each row of YtdhnlbekkicjcaaDoorRows.lean that lists a variable, with what it lists TIED to the program's text (the seventh form; the later family's looks); each row that meets fmt, with fmt's text TOLD by the authors' own Lean function (tested against real Go, not proved from fmt's source: count such statements apart). THE CARD IS WHAT COUNTS. Prove the row's statement (the work); the ties are given (YtdhnlbekkicjcaaDoorTie.lean); close each card by the builder's one call (the guide's Derived/Test/ToyasCard.lean, 'card_holds'). Laid BY PROGRAM, IN A SANDBOX (cutbox-door.mjs). By AI agents, Wed Nov 11 2026. No macro, syntax, notation, axiom, sorry.
-/
import Derived.Test.YtdhnlbekkicjcaaDoorRows
import GoSem.ClaimSeven
namespace Go.Proofs.YtdhnlbekkicjcaaDoor
namespace Rows

/-- THE TIED CARD OF 'laws.FnBits'. -/
def fnBitsCard : Claim7 := { stood := { row := fnBitsRow, standIns := [], harness := (true, "0e2ededdced8a12a2023054a3a8ab852ea45682325c1cbf0058e0e88a57be224"), looks := true }, kinds := [], alts := [], laidByText := true, laidKinds := [.sentinel, .sentinel, .sentinel], laidTests := true, laidLooks := .later }
def FnBitsCardSaid : Prop := Claim7.holds Tryd.pinned (.plain (OpenSpec.ofChange fnBitsSpec)) fnBitsCard

/-- THE TIED CARD OF 'laws.FnSeals'. -/
def fnSealsCard : Claim7 := { stood := { row := fnSealsRow, standIns := [], harness := (true, "0e2ededdced8a12a2023054a3a8ab852ea45682325c1cbf0058e0e88a57be224"), looks := true }, kinds := [], alts := [], laidByText := true, laidKinds := [.sentinel, .sentinel, .sentinel], laidTests := true, laidLooks := .later }
def FnSealsCardSaid : Prop := Claim7.holds Tryd.pinned (.plain (OpenSpec.ofChange fnSealsSpec)) fnSealsCard

/-- THE TIED CARD OF 'laws.FnExactBitsPut'. -/
def fnExactBitsPutCard : Claim7 := { stood := { row := fnExactBitsPutRow, standIns := [], harness := (true, "0e2ededdced8a12a2023054a3a8ab852ea45682325c1cbf0058e0e88a57be224"), looks := true }, kinds := [], alts := [], laidByText := true, laidKinds := [.sentinel, .sentinel], laidTests := true, laidLooks := .later }
def FnExactBitsPutCardSaid : Prop := Claim7.holds Tryd.pinned (.plain (OpenSpec.ofChange fnExactBitsPutSpec)) fnExactBitsPutCard

/-- THE TIED CARD OF 'laws.FnExactBitsGet'. -/
def fnExactBitsGetCard : Claim7 := { stood := { row := fnExactBitsGetRow, standIns := [], harness := (true, "0e2ededdced8a12a2023054a3a8ab852ea45682325c1cbf0058e0e88a57be224"), looks := true }, kinds := [], alts := [], laidByText := true, laidKinds := [.sentinel, .sentinel], laidTests := true, laidLooks := .later }
def FnExactBitsGetCardSaid : Prop := Claim7.holds Tryd.pinned (.plain (OpenSpec.ofChange fnExactBitsGetSpec)) fnExactBitsGetCard

/-- THE TIED CARD OF 'laws.FnExactBackGet'. -/
def fnExactBackGetCard : Claim7 := { stood := { row := fnExactBackGetRow, standIns := [], harness := (true, "0e2ededdced8a12a2023054a3a8ab852ea45682325c1cbf0058e0e88a57be224"), looks := true }, kinds := [], alts := [], laidByText := true, laidKinds := [.sentinel, .sentinel], laidTests := true, laidLooks := .later }
def FnExactBackGetCardSaid : Prop := Claim7.holds Tryd.pinned (.plain (OpenSpec.ofChange fnExactBackGetSpec)) fnExactBackGetCard

/-- THE TIED CARD OF 'laws.FnExactBitsJoin'. -/
def fnExactBitsJoinCard : Claim7 := { stood := { row := fnExactBitsJoinRow, standIns := [], harness := (true, "0e2ededdced8a12a2023054a3a8ab852ea45682325c1cbf0058e0e88a57be224"), looks := true }, kinds := [], alts := [], laidByText := true, laidKinds := [.sentinel, .sentinel, .sentinel], laidTests := true, laidLooks := .later }
def FnExactBitsJoinCardSaid : Prop := Claim7.holds Tryd.pinned (.plain (OpenSpec.ofChange fnExactBitsJoinSpec)) fnExactBitsJoinCard

/-- THE TIED CARD OF 'laws.FnExactBitsSeal'. -/
def fnExactBitsSealCard : Claim7 := { stood := { row := fnExactBitsSealRow, standIns := [], harness := (true, "0e2ededdced8a12a2023054a3a8ab852ea45682325c1cbf0058e0e88a57be224"), looks := true }, kinds := [], alts := [], laidByText := true, laidKinds := [.sentinel, .sentinel], laidTests := true, laidLooks := .later }
def FnExactBitsSealCardSaid : Prop := Claim7.holds Tryd.pinned (.plain (OpenSpec.ofChange fnExactBitsSealSpec)) fnExactBitsSealCard

/-- THE SECOND FORM's CARD OF 'laws.FnBits'. -/
def fnBitsUptoCard : Claim7 := { stood := { row := fnBitsUptoRow, standIns := [], harness := (true, "0e2ededdced8a12a2023054a3a8ab852ea45682325c1cbf0058e0e88a57be224"), looks := true }, kinds := [], alts := [], laidByText := true, laidKinds := [.sentinel, .sentinel, .sentinel], laidTests := true, laidLooks := .later }
def FnBitsUptoCardSaid : Prop := Claim7.holds Tryd.pinned (.plain (OpenSpec.upto fnBitsSpec)) fnBitsUptoCard

/-- THE SECOND FORM's CARD OF 'laws.FnSeals'. -/
def fnSealsUptoCard : Claim7 := { stood := { row := fnSealsUptoRow, standIns := [], harness := (true, "0e2ededdced8a12a2023054a3a8ab852ea45682325c1cbf0058e0e88a57be224"), looks := true }, kinds := [], alts := [], laidByText := true, laidKinds := [.sentinel, .sentinel, .sentinel], laidTests := true, laidLooks := .later }
def FnSealsUptoCardSaid : Prop := Claim7.holds Tryd.pinned (.plain (OpenSpec.upto fnSealsSpec)) fnSealsUptoCard

/-- THE SECOND FORM's CARD OF 'laws.FnExactBitsPut'. -/
def fnExactBitsPutUptoCard : Claim7 := { stood := { row := fnExactBitsPutUptoRow, standIns := [], harness := (true, "0e2ededdced8a12a2023054a3a8ab852ea45682325c1cbf0058e0e88a57be224"), looks := true }, kinds := [], alts := [], laidByText := true, laidKinds := [.sentinel, .sentinel], laidTests := true, laidLooks := .later }
def FnExactBitsPutUptoCardSaid : Prop := Claim7.holds Tryd.pinned (.plain (OpenSpec.upto fnExactBitsPutSpec)) fnExactBitsPutUptoCard

/-- THE SECOND FORM's CARD OF 'laws.FnExactBitsGet'. -/
def fnExactBitsGetUptoCard : Claim7 := { stood := { row := fnExactBitsGetUptoRow, standIns := [], harness := (true, "0e2ededdced8a12a2023054a3a8ab852ea45682325c1cbf0058e0e88a57be224"), looks := true }, kinds := [], alts := [], laidByText := true, laidKinds := [.sentinel, .sentinel], laidTests := true, laidLooks := .later }
def FnExactBitsGetUptoCardSaid : Prop := Claim7.holds Tryd.pinned (.plain (OpenSpec.upto fnExactBitsGetSpec)) fnExactBitsGetUptoCard

/-- THE SECOND FORM's CARD OF 'laws.FnExactBackGet'. -/
def fnExactBackGetUptoCard : Claim7 := { stood := { row := fnExactBackGetUptoRow, standIns := [], harness := (true, "0e2ededdced8a12a2023054a3a8ab852ea45682325c1cbf0058e0e88a57be224"), looks := true }, kinds := [], alts := [], laidByText := true, laidKinds := [.sentinel, .sentinel], laidTests := true, laidLooks := .later }
def FnExactBackGetUptoCardSaid : Prop := Claim7.holds Tryd.pinned (.plain (OpenSpec.upto fnExactBackGetSpec)) fnExactBackGetUptoCard

/-- THE SECOND FORM's CARD OF 'laws.FnExactBitsJoin'. -/
def fnExactBitsJoinUptoCard : Claim7 := { stood := { row := fnExactBitsJoinUptoRow, standIns := [], harness := (true, "0e2ededdced8a12a2023054a3a8ab852ea45682325c1cbf0058e0e88a57be224"), looks := true }, kinds := [], alts := [], laidByText := true, laidKinds := [.sentinel, .sentinel, .sentinel], laidTests := true, laidLooks := .later }
def FnExactBitsJoinUptoCardSaid : Prop := Claim7.holds Tryd.pinned (.plain (OpenSpec.upto fnExactBitsJoinSpec)) fnExactBitsJoinUptoCard

/-- THE SECOND FORM's CARD OF 'laws.FnExactBitsSeal'. -/
def fnExactBitsSealUptoCard : Claim7 := { stood := { row := fnExactBitsSealUptoRow, standIns := [], harness := (true, "0e2ededdced8a12a2023054a3a8ab852ea45682325c1cbf0058e0e88a57be224"), looks := true }, kinds := [], alts := [], laidByText := true, laidKinds := [.sentinel, .sentinel], laidTests := true, laidLooks := .later }
def FnExactBitsSealUptoCardSaid : Prop := Claim7.holds Tryd.pinned (.plain (OpenSpec.upto fnExactBitsSealSpec)) fnExactBitsSealUptoCard
end Rows
end Go.Proofs.YtdhnlbekkicjcaaDoor
