/-
  DERIVED. GIVEN WITH THE SEED: THE CARDS: each row of YtkolfmjlkfkleaaDoorRows.lean that lists a variable, with what it lists TIED to the program's text (the seventh form; the later family's looks); each row that meets fmt, with fmt's text TOLD by the authors' own Lean function (tested against real Go, not proved from fmt's source: count such statements apart). THE CARD IS WHAT COUNTS. Prove the row's statement (the work); the ties are given (YtkolfmjlkfkleaaDoorTie.lean); close each card by the builder's one call (the guide's Derived/Test/ToyasCard.lean, 'card_holds'). Laid BY PROGRAM, IN A SANDBOX (cutbox-door.mjs). By AI agents, Wed Nov 11 2026. No macro, syntax, notation, axiom, sorry.
-/
import Derived.Test.YtkolfmjlkfkleaaDoorRows
import GoSem.ClaimSeven
namespace Go.Proofs.YtkolfmjlkfkleaaDoor
namespace Rows

/-- THE TIED CARD OF 'laws.FnExactLensOk'. -/
def fnExactLensOkCard : Claim7 := { stood := { row := fnExactLensOkRow, standIns := [], harness := (true, "05e5cf0d9945d514a07d26878d0dc3f6f9612cde18b222ad2e5695116d73e1f7"), looks := true }, kinds := [], alts := [], laidByText := true, laidKinds := [.handle, .sentinel, .sentinel, .sentinel, .sentinel], laidTests := true, laidLooks := .later }
def FnExactLensOkCardSaid : Prop := Claim7.holds Tryd.pinned (.plain (OpenSpec.ofChange fnExactLensOkSpec)) fnExactLensOkCard

/-- THE TIED CARD OF 'laws.FnExactCost'. -/
def fnExactCostCard : Claim7 := { stood := { row := fnExactCostRow, standIns := [], harness := (true, "05e5cf0d9945d514a07d26878d0dc3f6f9612cde18b222ad2e5695116d73e1f7"), looks := true }, kinds := [], alts := [], laidByText := true, laidKinds := [.handle, .sentinel, .sentinel, .sentinel, .sentinel], laidTests := true, laidLooks := .later }
def FnExactCostCardSaid : Prop := Claim7.holds Tryd.pinned (.plain (OpenSpec.ofChange fnExactCostSpec)) fnExactCostCard

/-- THE TIED CARD OF 'laws.FnExactCodes'. -/
def fnExactCodesCard : Claim7 := { stood := { row := fnExactCodesRow, standIns := [], harness := (true, "05e5cf0d9945d514a07d26878d0dc3f6f9612cde18b222ad2e5695116d73e1f7"), looks := true }, kinds := [], alts := [], laidByText := true, laidKinds := [.handle, .sentinel, .sentinel, .sentinel, .sentinel], laidTests := true, laidLooks := .later }
def FnExactCodesCardSaid : Prop := Claim7.holds Tryd.pinned (.plain (OpenSpec.ofChange fnExactCodesSpec)) fnExactCodesCard

/-- THE TIED CARD OF 'laws.FnExactHuffPut'. -/
def fnExactHuffPutCard : Claim7 := { stood := { row := fnExactHuffPutRow, standIns := [], harness := (true, "05e5cf0d9945d514a07d26878d0dc3f6f9612cde18b222ad2e5695116d73e1f7"), looks := true }, kinds := [], alts := [], laidByText := true, laidKinds := [.handle, .sentinel, .sentinel, .sentinel, .sentinel, .sentinel, .sentinel, .sentinel], laidTests := true, laidLooks := .later }
def FnExactHuffPutCardSaid : Prop := Claim7.holds Tryd.pinned (.plain (OpenSpec.ofChange fnExactHuffPutSpec)) fnExactHuffPutCard

/-- THE TIED CARD OF 'laws.FnExactHuffGet'. -/
def fnExactHuffGetCard : Claim7 := { stood := { row := fnExactHuffGetRow, standIns := [], harness := (true, "05e5cf0d9945d514a07d26878d0dc3f6f9612cde18b222ad2e5695116d73e1f7"), looks := true }, kinds := [], alts := [], laidByText := true, laidKinds := [.handle, .sentinel, .sentinel, .sentinel, .sentinel, .sentinel, .sentinel, .sentinel], laidTests := true, laidLooks := .later }
def FnExactHuffGetCardSaid : Prop := Claim7.holds Tryd.pinned (.plain (OpenSpec.ofChange fnExactHuffGetSpec)) fnExactHuffGetCard

/-- THE TIED CARD OF 'laws.FnExactLensPut'. -/
def fnExactLensPutCard : Claim7 := { stood := { row := fnExactLensPutRow, standIns := [], harness := (true, "05e5cf0d9945d514a07d26878d0dc3f6f9612cde18b222ad2e5695116d73e1f7"), looks := true }, kinds := [], alts := [], laidByText := true, laidKinds := [.handle, .sentinel, .sentinel, .sentinel, .sentinel, .sentinel, .sentinel], laidTests := true, laidLooks := .later }
def FnExactLensPutCardSaid : Prop := Claim7.holds Tryd.pinned (.plain (OpenSpec.ofChange fnExactLensPutSpec)) fnExactLensPutCard

/-- THE TIED CARD OF 'laws.FnExactLensGet'. -/
def fnExactLensGetCard : Claim7 := { stood := { row := fnExactLensGetRow, standIns := [], harness := (true, "05e5cf0d9945d514a07d26878d0dc3f6f9612cde18b222ad2e5695116d73e1f7"), looks := true }, kinds := [], alts := [], laidByText := true, laidKinds := [.sentinel, .sentinel, .sentinel, .sentinel, .sentinel, .sentinel, .sentinel], laidTests := true, laidLooks := .later }
def FnExactLensGetCardSaid : Prop := Claim7.holds Tryd.pinned (.plain (OpenSpec.ofChange fnExactLensGetSpec)) fnExactLensGetCard

/-- THE SECOND FORM's CARD OF 'laws.FnExactLensOk'. -/
def fnExactLensOkUptoCard : Claim7 := { stood := { row := fnExactLensOkUptoRow, standIns := [], harness := (true, "05e5cf0d9945d514a07d26878d0dc3f6f9612cde18b222ad2e5695116d73e1f7"), looks := true }, kinds := [], alts := [], laidByText := true, laidKinds := [.handle, .sentinel, .sentinel, .sentinel, .sentinel], laidTests := true, laidLooks := .later }
def FnExactLensOkUptoCardSaid : Prop := Claim7.holds Tryd.pinned (.plain (OpenSpec.upto fnExactLensOkSpec)) fnExactLensOkUptoCard

/-- THE SECOND FORM's CARD OF 'laws.FnExactCost'. -/
def fnExactCostUptoCard : Claim7 := { stood := { row := fnExactCostUptoRow, standIns := [], harness := (true, "05e5cf0d9945d514a07d26878d0dc3f6f9612cde18b222ad2e5695116d73e1f7"), looks := true }, kinds := [], alts := [], laidByText := true, laidKinds := [.handle, .sentinel, .sentinel, .sentinel, .sentinel], laidTests := true, laidLooks := .later }
def FnExactCostUptoCardSaid : Prop := Claim7.holds Tryd.pinned (.plain (OpenSpec.upto fnExactCostSpec)) fnExactCostUptoCard

/-- THE SECOND FORM's CARD OF 'laws.FnExactCodes'. -/
def fnExactCodesUptoCard : Claim7 := { stood := { row := fnExactCodesUptoRow, standIns := [], harness := (true, "05e5cf0d9945d514a07d26878d0dc3f6f9612cde18b222ad2e5695116d73e1f7"), looks := true }, kinds := [], alts := [], laidByText := true, laidKinds := [.handle, .sentinel, .sentinel, .sentinel, .sentinel], laidTests := true, laidLooks := .later }
def FnExactCodesUptoCardSaid : Prop := Claim7.holds Tryd.pinned (.plain (OpenSpec.upto fnExactCodesSpec)) fnExactCodesUptoCard

/-- THE SECOND FORM's CARD OF 'laws.FnExactHuffPut'. -/
def fnExactHuffPutUptoCard : Claim7 := { stood := { row := fnExactHuffPutUptoRow, standIns := [], harness := (true, "05e5cf0d9945d514a07d26878d0dc3f6f9612cde18b222ad2e5695116d73e1f7"), looks := true }, kinds := [], alts := [], laidByText := true, laidKinds := [.handle, .sentinel, .sentinel, .sentinel, .sentinel, .sentinel, .sentinel, .sentinel], laidTests := true, laidLooks := .later }
def FnExactHuffPutUptoCardSaid : Prop := Claim7.holds Tryd.pinned (.plain (OpenSpec.upto fnExactHuffPutSpec)) fnExactHuffPutUptoCard

/-- THE SECOND FORM's CARD OF 'laws.FnExactHuffGet'. -/
def fnExactHuffGetUptoCard : Claim7 := { stood := { row := fnExactHuffGetUptoRow, standIns := [], harness := (true, "05e5cf0d9945d514a07d26878d0dc3f6f9612cde18b222ad2e5695116d73e1f7"), looks := true }, kinds := [], alts := [], laidByText := true, laidKinds := [.handle, .sentinel, .sentinel, .sentinel, .sentinel, .sentinel, .sentinel, .sentinel], laidTests := true, laidLooks := .later }
def FnExactHuffGetUptoCardSaid : Prop := Claim7.holds Tryd.pinned (.plain (OpenSpec.upto fnExactHuffGetSpec)) fnExactHuffGetUptoCard

/-- THE SECOND FORM's CARD OF 'laws.FnExactLensPut'. -/
def fnExactLensPutUptoCard : Claim7 := { stood := { row := fnExactLensPutUptoRow, standIns := [], harness := (true, "05e5cf0d9945d514a07d26878d0dc3f6f9612cde18b222ad2e5695116d73e1f7"), looks := true }, kinds := [], alts := [], laidByText := true, laidKinds := [.handle, .sentinel, .sentinel, .sentinel, .sentinel, .sentinel, .sentinel], laidTests := true, laidLooks := .later }
def FnExactLensPutUptoCardSaid : Prop := Claim7.holds Tryd.pinned (.plain (OpenSpec.upto fnExactLensPutSpec)) fnExactLensPutUptoCard

/-- THE SECOND FORM's CARD OF 'laws.FnExactLensGet'. -/
def fnExactLensGetUptoCard : Claim7 := { stood := { row := fnExactLensGetUptoRow, standIns := [], harness := (true, "05e5cf0d9945d514a07d26878d0dc3f6f9612cde18b222ad2e5695116d73e1f7"), looks := true }, kinds := [], alts := [], laidByText := true, laidKinds := [.sentinel, .sentinel, .sentinel, .sentinel, .sentinel, .sentinel, .sentinel], laidTests := true, laidLooks := .later }
def FnExactLensGetUptoCardSaid : Prop := Claim7.holds Tryd.pinned (.plain (OpenSpec.upto fnExactLensGetSpec)) fnExactLensGetUptoCard
end Rows
end Go.Proofs.YtkolfmjlkfkleaaDoor
