/-
  DERIVED. GIVEN WITH THE SEED: THE CARDS: each row of YtkjebacpmmfflaaDoorRows.lean that lists a variable, with what it lists TIED to the program's text (the seventh form; the later family's looks); each row that meets fmt, with fmt's text TOLD by the authors' own Lean function (tested against real Go, not proved from fmt's source: count such statements apart). THE CARD IS WHAT COUNTS. Prove the row's statement (the work); the ties are given (YtkjebacpmmfflaaDoorTie.lean); close each card by the builder's one call (the guide's Derived/Test/ToyasCard.lean, 'card_holds'). Laid BY PROGRAM, IN A SANDBOX (cutbox-door.mjs). By AI agents, Wed Nov 11 2026. No macro, syntax, notation, axiom, sorry.
-/
import Derived.Test.YtkjebacpmmfflaaDoorRows
import GoSem.ClaimSeven
namespace Go.Proofs.YtkjebacpmmfflaaDoor
namespace Rows

/-- THE TIED CARD OF 'laws.FnLens'. -/
def fnLensCard : Claim7 := { stood := { row := fnLensRow, standIns := [], harness := (true, "7f6ec6348a1fcae9a644aa4ebed21112d55d59285c2d8cca9643fc116778bfdd"), looks := true }, kinds := [], alts := [], laidByText := true, laidKinds := [.handle, .sentinel, .sentinel, .sentinel, .sentinel], laidTests := true, laidLooks := .later }
def FnLensCardSaid : Prop := Claim7.holds Tryd.pinned (.plain (OpenSpec.ofChange fnLensSpec)) fnLensCard

/-- THE TIED CARD OF 'laws.FnBest'. -/
def fnBestCard : Claim7 := { stood := { row := fnBestRow, standIns := [], harness := (true, "7f6ec6348a1fcae9a644aa4ebed21112d55d59285c2d8cca9643fc116778bfdd"), looks := true }, kinds := [], alts := [], laidByText := true, laidKinds := [.handle, .sentinel, .sentinel, .sentinel, .sentinel], laidTests := true, laidLooks := .later }
def FnBestCardSaid : Prop := Claim7.holds Tryd.pinned (.plain (OpenSpec.ofChange fnBestSpec)) fnBestCard

/-- THE TIED CARD OF 'laws.FnHuffs'. -/
def fnHuffsCard : Claim7 := { stood := { row := fnHuffsRow, standIns := [], harness := (true, "7f6ec6348a1fcae9a644aa4ebed21112d55d59285c2d8cca9643fc116778bfdd"), looks := true }, kinds := [], alts := [], laidByText := true, laidKinds := [.handle, .sentinel, .sentinel, .sentinel, .sentinel, .sentinel, .sentinel, .sentinel, .sentinel, .sentinel], laidTests := true, laidLooks := .later }
def FnHuffsCardSaid : Prop := Claim7.holds Tryd.pinned (.plain (OpenSpec.ofChange fnHuffsSpec)) fnHuffsCard

/-- THE TIED CARD OF 'laws.FnCodes'. -/
def fnCodesCard : Claim7 := { stood := { row := fnCodesRow, standIns := [], harness := (true, "7f6ec6348a1fcae9a644aa4ebed21112d55d59285c2d8cca9643fc116778bfdd"), looks := true }, kinds := [], alts := [], laidByText := true, laidKinds := [.handle, .sentinel, .sentinel, .sentinel, .sentinel], laidTests := true, laidLooks := .later }
def FnCodesCardSaid : Prop := Claim7.holds Tryd.pinned (.plain (OpenSpec.ofChange fnCodesSpec)) fnCodesCard

/-- THE TIED CARD OF 'laws.FnLensBits'. -/
def fnLensBitsCard : Claim7 := { stood := { row := fnLensBitsRow, standIns := [], harness := (true, "7f6ec6348a1fcae9a644aa4ebed21112d55d59285c2d8cca9643fc116778bfdd"), looks := true }, kinds := [], alts := [], laidByText := true, laidKinds := [.handle, .sentinel, .sentinel, .sentinel, .sentinel, .sentinel, .sentinel, .sentinel, .sentinel], laidTests := true, laidLooks := .later }
def FnLensBitsCardSaid : Prop := Claim7.holds Tryd.pinned (.plain (OpenSpec.ofChange fnLensBitsSpec)) fnLensBitsCard

/-- THE SECOND FORM's CARD OF 'laws.FnLens'. -/
def fnLensUptoCard : Claim7 := { stood := { row := fnLensUptoRow, standIns := [], harness := (true, "7f6ec6348a1fcae9a644aa4ebed21112d55d59285c2d8cca9643fc116778bfdd"), looks := true }, kinds := [], alts := [], laidByText := true, laidKinds := [.handle, .sentinel, .sentinel, .sentinel, .sentinel], laidTests := true, laidLooks := .later }
def FnLensUptoCardSaid : Prop := Claim7.holds Tryd.pinned (.plain (OpenSpec.upto fnLensSpec)) fnLensUptoCard

/-- THE SECOND FORM's CARD OF 'laws.FnBest'. -/
def fnBestUptoCard : Claim7 := { stood := { row := fnBestUptoRow, standIns := [], harness := (true, "7f6ec6348a1fcae9a644aa4ebed21112d55d59285c2d8cca9643fc116778bfdd"), looks := true }, kinds := [], alts := [], laidByText := true, laidKinds := [.handle, .sentinel, .sentinel, .sentinel, .sentinel], laidTests := true, laidLooks := .later }
def FnBestUptoCardSaid : Prop := Claim7.holds Tryd.pinned (.plain (OpenSpec.upto fnBestSpec)) fnBestUptoCard

/-- THE SECOND FORM's CARD OF 'laws.FnHuffs'. -/
def fnHuffsUptoCard : Claim7 := { stood := { row := fnHuffsUptoRow, standIns := [], harness := (true, "7f6ec6348a1fcae9a644aa4ebed21112d55d59285c2d8cca9643fc116778bfdd"), looks := true }, kinds := [], alts := [], laidByText := true, laidKinds := [.handle, .sentinel, .sentinel, .sentinel, .sentinel, .sentinel, .sentinel, .sentinel, .sentinel, .sentinel], laidTests := true, laidLooks := .later }
def FnHuffsUptoCardSaid : Prop := Claim7.holds Tryd.pinned (.plain (OpenSpec.upto fnHuffsSpec)) fnHuffsUptoCard

/-- THE SECOND FORM's CARD OF 'laws.FnCodes'. -/
def fnCodesUptoCard : Claim7 := { stood := { row := fnCodesUptoRow, standIns := [], harness := (true, "7f6ec6348a1fcae9a644aa4ebed21112d55d59285c2d8cca9643fc116778bfdd"), looks := true }, kinds := [], alts := [], laidByText := true, laidKinds := [.handle, .sentinel, .sentinel, .sentinel, .sentinel], laidTests := true, laidLooks := .later }
def FnCodesUptoCardSaid : Prop := Claim7.holds Tryd.pinned (.plain (OpenSpec.upto fnCodesSpec)) fnCodesUptoCard

/-- THE SECOND FORM's CARD OF 'laws.FnLensBits'. -/
def fnLensBitsUptoCard : Claim7 := { stood := { row := fnLensBitsUptoRow, standIns := [], harness := (true, "7f6ec6348a1fcae9a644aa4ebed21112d55d59285c2d8cca9643fc116778bfdd"), looks := true }, kinds := [], alts := [], laidByText := true, laidKinds := [.handle, .sentinel, .sentinel, .sentinel, .sentinel, .sentinel, .sentinel, .sentinel, .sentinel], laidTests := true, laidLooks := .later }
def FnLensBitsUptoCardSaid : Prop := Claim7.holds Tryd.pinned (.plain (OpenSpec.upto fnLensBitsSpec)) fnLensBitsUptoCard
end Rows
end Go.Proofs.YtkjebacpmmfflaaDoor
