/-
  DERIVED. GIVEN WITH THE SEED: THE CARDS: each row of YtdkffeemnenhdaaGreatDoorRows.lean that lists a variable, with what it lists TIED to the program's text (the seventh form; the later family's looks); each row that meets fmt, with fmt's text TOLD by the authors' own Lean function (tested against real Go, not proved from fmt's source: count such statements apart). THE CARD IS WHAT COUNTS. Prove the row's statement (the work); the ties are given (YtdkffeemnenhdaaGreatDoorTie.lean); close each card by the builder's one call (the guide's Derived/Test/ToyasCard.lean, 'card_holds'). Laid BY PROGRAM, IN A SANDBOX (cutbox-door.mjs). By AI agents, Wed Nov 11 2026. No macro, syntax, notation, axiom, sorry.
-/
import Derived.Test.YtdkffeemnenhdaaGreatDoorRows
import GoSem.ClaimSeven
namespace Go.Proofs.YtdkffeemnenhdaaGreatDoor
namespace Rows

/-- THE TIED CARD OF 'laws.FnExactPackOk'. -/
def fnExactPackOkCard : Claim7 := { stood := { row := fnExactPackOkRow, standIns := [], harness := (true, "2a79bb8de981550abf57cad3a5fb9e4e2f7ef5bd2bc20b1c62e98f8f6dbd4ef8"), looks := true }, kinds := [], alts := [], laidByText := true, laidKinds := [.sentinel, .sentinel, .sentinel, .sentinel, .sentinel, .sentinel, .sentinel, .sentinel, .sentinel, .sentinel, .sentinel, .sentinel, .sentinel, .sentinel, .sentinel, .sentinel, .sentinel, .sentinel], laidTests := true, laidLooks := .later }
def FnExactPackOkCardSaid : Prop := Claim7.holds Tryz.pinned (.plain (OpenSpec.ofChange fnExactPackOkSpec)) fnExactPackOkCard

/-- THE TIED CARD OF 'laws.FnExactPackSize'. -/
def fnExactPackSizeCard : Claim7 := { stood := { row := fnExactPackSizeRow, standIns := [], harness := (true, "2a79bb8de981550abf57cad3a5fb9e4e2f7ef5bd2bc20b1c62e98f8f6dbd4ef8"), looks := true }, kinds := [], alts := [], laidByText := true, laidKinds := [.sentinel, .sentinel, .sentinel, .sentinel, .sentinel, .sentinel, .sentinel, .sentinel, .sentinel, .sentinel, .sentinel, .sentinel, .sentinel, .sentinel, .sentinel, .sentinel, .sentinel, .sentinel], laidTests := true, laidLooks := .later }
def FnExactPackSizeCardSaid : Prop := Claim7.holds Tryz.pinned (.plain (OpenSpec.ofChange fnExactPackSizeSpec)) fnExactPackSizeCard

/-- THE TIED CARD OF 'laws.FnExactPackAdd'. -/
def fnExactPackAddCard : Claim7 := { stood := { row := fnExactPackAddRow, standIns := [], harness := (true, "2a79bb8de981550abf57cad3a5fb9e4e2f7ef5bd2bc20b1c62e98f8f6dbd4ef8"), looks := true }, kinds := [], alts := [], laidByText := true, laidKinds := [.sentinel, .sentinel, .sentinel, .sentinel, .sentinel, .sentinel, .sentinel, .sentinel, .sentinel, .sentinel, .sentinel, .sentinel, .sentinel, .sentinel, .sentinel, .sentinel, .sentinel, .sentinel], laidTests := true, laidLooks := .later }
def FnExactPackAddCardSaid : Prop := Claim7.holds Tryz.pinned (.plain (OpenSpec.ofChange fnExactPackAddSpec)) fnExactPackAddCard

/-- THE TIED CARD OF 'laws.FnExactPackFind'. -/
def fnExactPackFindCard : Claim7 := { stood := { row := fnExactPackFindRow, standIns := [], harness := (true, "2a79bb8de981550abf57cad3a5fb9e4e2f7ef5bd2bc20b1c62e98f8f6dbd4ef8"), looks := true }, kinds := [], alts := [], laidByText := true, laidKinds := [.sentinel, .sentinel, .sentinel, .sentinel, .sentinel, .sentinel, .sentinel, .sentinel, .sentinel, .sentinel, .sentinel, .sentinel, .sentinel, .sentinel, .sentinel, .sentinel, .sentinel, .sentinel], laidTests := true, laidLooks := .later }
def FnExactPackFindCardSaid : Prop := Claim7.holds Tryz.pinned (.plain (OpenSpec.ofChange fnExactPackFindSpec)) fnExactPackFindCard

/-- THE TIED CARD OF 'laws.FnExactPackBytes'. -/
def fnExactPackBytesCard : Claim7 := { stood := { row := fnExactPackBytesRow, standIns := [], harness := (true, "2a79bb8de981550abf57cad3a5fb9e4e2f7ef5bd2bc20b1c62e98f8f6dbd4ef8"), looks := true }, kinds := [], alts := [], laidByText := true, laidKinds := [.sentinel, .sentinel, .sentinel, .sentinel, .sentinel, .sentinel, .sentinel, .sentinel, .sentinel, .sentinel, .sentinel, .sentinel, .sentinel, .sentinel, .sentinel, .sentinel, .sentinel, .sentinel], laidTests := true, laidLooks := .later }
def FnExactPackBytesCardSaid : Prop := Claim7.holds Tryz.pinned (.plain (OpenSpec.ofChange fnExactPackBytesSpec)) fnExactPackBytesCard

/-- THE TIED CARD OF 'laws.FnExactPackRead'. -/
def fnExactPackReadCard : Claim7 := { stood := { row := fnExactPackReadRow, standIns := [], harness := (true, "2a79bb8de981550abf57cad3a5fb9e4e2f7ef5bd2bc20b1c62e98f8f6dbd4ef8"), looks := true }, kinds := [], alts := [], laidByText := true, laidKinds := [.sentinel, .sentinel, .sentinel, .sentinel, .sentinel, .sentinel, .sentinel, .sentinel, .sentinel, .sentinel, .sentinel, .sentinel, .sentinel, .sentinel, .sentinel, .sentinel, .sentinel, .sentinel, .sentinel, .sentinel, .sentinel, .sentinel, .sentinel], laidTests := true, laidLooks := .later }
def FnExactPackReadCardSaid : Prop := Claim7.holds Tryz.pinned (.plain (OpenSpec.ofChange fnExactPackReadSpec)) fnExactPackReadCard

/-- THE SECOND FORM's CARD OF 'laws.FnExactPackOk'. -/
def fnExactPackOkUptoCard : Claim7 := { stood := { row := fnExactPackOkUptoRow, standIns := [], harness := (true, "2a79bb8de981550abf57cad3a5fb9e4e2f7ef5bd2bc20b1c62e98f8f6dbd4ef8"), looks := true }, kinds := [], alts := [], laidByText := true, laidKinds := [.sentinel, .sentinel, .sentinel, .sentinel, .sentinel, .sentinel, .sentinel, .sentinel, .sentinel, .sentinel, .sentinel, .sentinel, .sentinel, .sentinel, .sentinel, .sentinel, .sentinel, .sentinel], laidTests := true, laidLooks := .later }
def FnExactPackOkUptoCardSaid : Prop := Claim7.holds Tryz.pinned (.plain (OpenSpec.upto fnExactPackOkSpec)) fnExactPackOkUptoCard

/-- THE SECOND FORM's CARD OF 'laws.FnExactPackSize'. -/
def fnExactPackSizeUptoCard : Claim7 := { stood := { row := fnExactPackSizeUptoRow, standIns := [], harness := (true, "2a79bb8de981550abf57cad3a5fb9e4e2f7ef5bd2bc20b1c62e98f8f6dbd4ef8"), looks := true }, kinds := [], alts := [], laidByText := true, laidKinds := [.sentinel, .sentinel, .sentinel, .sentinel, .sentinel, .sentinel, .sentinel, .sentinel, .sentinel, .sentinel, .sentinel, .sentinel, .sentinel, .sentinel, .sentinel, .sentinel, .sentinel, .sentinel], laidTests := true, laidLooks := .later }
def FnExactPackSizeUptoCardSaid : Prop := Claim7.holds Tryz.pinned (.plain (OpenSpec.upto fnExactPackSizeSpec)) fnExactPackSizeUptoCard

/-- THE SECOND FORM's CARD OF 'laws.FnExactPackAdd'. -/
def fnExactPackAddUptoCard : Claim7 := { stood := { row := fnExactPackAddUptoRow, standIns := [], harness := (true, "2a79bb8de981550abf57cad3a5fb9e4e2f7ef5bd2bc20b1c62e98f8f6dbd4ef8"), looks := true }, kinds := [], alts := [], laidByText := true, laidKinds := [.sentinel, .sentinel, .sentinel, .sentinel, .sentinel, .sentinel, .sentinel, .sentinel, .sentinel, .sentinel, .sentinel, .sentinel, .sentinel, .sentinel, .sentinel, .sentinel, .sentinel, .sentinel], laidTests := true, laidLooks := .later }
def FnExactPackAddUptoCardSaid : Prop := Claim7.holds Tryz.pinned (.plain (OpenSpec.upto fnExactPackAddSpec)) fnExactPackAddUptoCard

/-- THE SECOND FORM's CARD OF 'laws.FnExactPackFind'. -/
def fnExactPackFindUptoCard : Claim7 := { stood := { row := fnExactPackFindUptoRow, standIns := [], harness := (true, "2a79bb8de981550abf57cad3a5fb9e4e2f7ef5bd2bc20b1c62e98f8f6dbd4ef8"), looks := true }, kinds := [], alts := [], laidByText := true, laidKinds := [.sentinel, .sentinel, .sentinel, .sentinel, .sentinel, .sentinel, .sentinel, .sentinel, .sentinel, .sentinel, .sentinel, .sentinel, .sentinel, .sentinel, .sentinel, .sentinel, .sentinel, .sentinel], laidTests := true, laidLooks := .later }
def FnExactPackFindUptoCardSaid : Prop := Claim7.holds Tryz.pinned (.plain (OpenSpec.upto fnExactPackFindSpec)) fnExactPackFindUptoCard

/-- THE SECOND FORM's CARD OF 'laws.FnExactPackBytes'. -/
def fnExactPackBytesUptoCard : Claim7 := { stood := { row := fnExactPackBytesUptoRow, standIns := [], harness := (true, "2a79bb8de981550abf57cad3a5fb9e4e2f7ef5bd2bc20b1c62e98f8f6dbd4ef8"), looks := true }, kinds := [], alts := [], laidByText := true, laidKinds := [.sentinel, .sentinel, .sentinel, .sentinel, .sentinel, .sentinel, .sentinel, .sentinel, .sentinel, .sentinel, .sentinel, .sentinel, .sentinel, .sentinel, .sentinel, .sentinel, .sentinel, .sentinel], laidTests := true, laidLooks := .later }
def FnExactPackBytesUptoCardSaid : Prop := Claim7.holds Tryz.pinned (.plain (OpenSpec.upto fnExactPackBytesSpec)) fnExactPackBytesUptoCard

/-- THE SECOND FORM's CARD OF 'laws.FnExactPackRead'. -/
def fnExactPackReadUptoCard : Claim7 := { stood := { row := fnExactPackReadUptoRow, standIns := [], harness := (true, "2a79bb8de981550abf57cad3a5fb9e4e2f7ef5bd2bc20b1c62e98f8f6dbd4ef8"), looks := true }, kinds := [], alts := [], laidByText := true, laidKinds := [.sentinel, .sentinel, .sentinel, .sentinel, .sentinel, .sentinel, .sentinel, .sentinel, .sentinel, .sentinel, .sentinel, .sentinel, .sentinel, .sentinel, .sentinel, .sentinel, .sentinel, .sentinel, .sentinel, .sentinel, .sentinel, .sentinel, .sentinel], laidTests := true, laidLooks := .later }
def FnExactPackReadUptoCardSaid : Prop := Claim7.holds Tryz.pinned (.plain (OpenSpec.upto fnExactPackReadSpec)) fnExactPackReadUptoCard
end Rows
end Go.Proofs.YtdkffeemnenhdaaGreatDoor
