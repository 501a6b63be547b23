/-
  DERIVED. GIVEN WITH THE SEED: THE CARDS: each row of YthdpboodalbjiaaDoorRows.lean that lists a variable, with what it lists TIED to the program's text (the seventh form; the later family's looks); each row that meets fmt, with fmt's text TOLD by the authors' own Lean function (tested against real Go, not proved from fmt's source: count such statements apart). THE CARD IS WHAT COUNTS. Prove the row's statement (the work); the ties are given (YthdpboodalbjiaaDoorTie.lean); close each card by the builder's one call (the guide's Derived/Test/ToyasCard.lean, 'card_holds'). Laid BY PROGRAM, IN A SANDBOX (cutbox-door.mjs). By AI agents, Wed Nov 11 2026. No macro, syntax, notation, axiom, sorry.
-/
import Derived.Test.YthdpboodalbjiaaDoorRows
import GoSem.ClaimSeven
namespace Go.Proofs.YthdpboodalbjiaaDoor
namespace Rows

/-- THE TIED CARD OF 'laws.FnExactFsePut'. -/
def fnExactFsePutCard : Claim7 := { stood := { row := fnExactFsePutRow, standIns := [], harness := (true, "71a5677769d94574b7e4ebdd8816247f5ac06047761e91de09c9dc886b03871f"), looks := false }, kinds := [], alts := [], laidByText := true, laidKinds := [.sentinel, .sentinel, .sentinel], laidTests := true, laidLooks := .later }
def FnExactFsePutCardSaid : Prop := Claim7.holds Tryd.pinned (.plain (OpenSpec.ofChange fnExactFsePutSpec)) fnExactFsePutCard

/-- THE TIED CARD OF 'laws.FnExactFseGet'. -/
def fnExactFseGetCard : Claim7 := { stood := { row := fnExactFseGetRow, standIns := [], harness := (true, "71a5677769d94574b7e4ebdd8816247f5ac06047761e91de09c9dc886b03871f"), looks := false }, kinds := [], alts := [], laidByText := true, laidKinds := [.sentinel, .sentinel, .sentinel], laidTests := true, laidLooks := .later }
def FnExactFseGetCardSaid : Prop := Claim7.holds Tryd.pinned (.plain (OpenSpec.ofChange fnExactFseGetSpec)) fnExactFseGetCard

/-- THE TIED CARD OF 'laws.FnExactNormPut'. -/
def fnExactNormPutCard : Claim7 := { stood := { row := fnExactNormPutRow, standIns := [], harness := (true, "71a5677769d94574b7e4ebdd8816247f5ac06047761e91de09c9dc886b03871f"), looks := false }, kinds := [], alts := [], laidByText := true, laidKinds := [.sentinel, .sentinel], laidTests := true, laidLooks := .later }
def FnExactNormPutCardSaid : Prop := Claim7.holds Tryd.pinned (.plain (OpenSpec.ofChange fnExactNormPutSpec)) fnExactNormPutCard

/-- THE TIED CARD OF 'laws.FnExactNormGet'. -/
def fnExactNormGetCard : Claim7 := { stood := { row := fnExactNormGetRow, standIns := [], harness := (true, "71a5677769d94574b7e4ebdd8816247f5ac06047761e91de09c9dc886b03871f"), looks := false }, kinds := [], alts := [], laidByText := true, laidKinds := [.sentinel, .sentinel, .sentinel], laidTests := true, laidLooks := .later }
def FnExactNormGetCardSaid : Prop := Claim7.holds Tryd.pinned (.plain (OpenSpec.ofChange fnExactNormGetSpec)) fnExactNormGetCard

/-- THE SECOND FORM's CARD OF 'laws.FnExactFsePut'. -/
def fnExactFsePutUptoCard : Claim7 := { stood := { row := fnExactFsePutUptoRow, standIns := [], harness := (true, "71a5677769d94574b7e4ebdd8816247f5ac06047761e91de09c9dc886b03871f"), looks := false }, kinds := [], alts := [], laidByText := true, laidKinds := [.sentinel, .sentinel, .sentinel], laidTests := true, laidLooks := .later }
def FnExactFsePutUptoCardSaid : Prop := Claim7.holds Tryd.pinned (.plain (OpenSpec.upto fnExactFsePutSpec)) fnExactFsePutUptoCard

/-- THE SECOND FORM's CARD OF 'laws.FnExactFseGet'. -/
def fnExactFseGetUptoCard : Claim7 := { stood := { row := fnExactFseGetUptoRow, standIns := [], harness := (true, "71a5677769d94574b7e4ebdd8816247f5ac06047761e91de09c9dc886b03871f"), looks := false }, kinds := [], alts := [], laidByText := true, laidKinds := [.sentinel, .sentinel, .sentinel], laidTests := true, laidLooks := .later }
def FnExactFseGetUptoCardSaid : Prop := Claim7.holds Tryd.pinned (.plain (OpenSpec.upto fnExactFseGetSpec)) fnExactFseGetUptoCard

/-- THE SECOND FORM's CARD OF 'laws.FnExactNormPut'. -/
def fnExactNormPutUptoCard : Claim7 := { stood := { row := fnExactNormPutUptoRow, standIns := [], harness := (true, "71a5677769d94574b7e4ebdd8816247f5ac06047761e91de09c9dc886b03871f"), looks := false }, kinds := [], alts := [], laidByText := true, laidKinds := [.sentinel, .sentinel], laidTests := true, laidLooks := .later }
def FnExactNormPutUptoCardSaid : Prop := Claim7.holds Tryd.pinned (.plain (OpenSpec.upto fnExactNormPutSpec)) fnExactNormPutUptoCard

/-- THE SECOND FORM's CARD OF 'laws.FnExactNormGet'. -/
def fnExactNormGetUptoCard : Claim7 := { stood := { row := fnExactNormGetUptoRow, standIns := [], harness := (true, "71a5677769d94574b7e4ebdd8816247f5ac06047761e91de09c9dc886b03871f"), looks := false }, kinds := [], alts := [], laidByText := true, laidKinds := [.sentinel, .sentinel, .sentinel], laidTests := true, laidLooks := .later }
def FnExactNormGetUptoCardSaid : Prop := Claim7.holds Tryd.pinned (.plain (OpenSpec.upto fnExactNormGetSpec)) fnExactNormGetUptoCard
end Rows
end Go.Proofs.YthdpboodalbjiaaDoor
