/-
  DERIVED. GIVEN WITH THE SEED: THE CARDS: each row of YtecmnbdnnlifhaaDoorRows.lean that lists a variable, with what it lists TIED to the program's text (the seventh form; the later family's looks); each row that meets fmt, with fmt's text TOLD by the authors' own Lean function (tested against real Go, not proved from fmt's source: count such statements apart). THE CARD IS WHAT COUNTS. Prove the row's statement (the work); the ties are given (YtecmnbdnnlifhaaDoorTie.lean); close each card by the builder's one call (the guide's Derived/Test/ToyasCard.lean, 'card_holds'). Laid BY PROGRAM, IN A SANDBOX (cutbox-door.mjs). By AI agents, Wed Nov 11 2026. No macro, syntax, notation, axiom, sorry.
-/
import Derived.Test.YtecmnbdnnlifhaaDoorRows
import GoSem.ClaimSeven
namespace Go.Proofs.YtecmnbdnnlifhaaDoor
namespace Rows

/-- THE TIED CARD OF 'laws.FnExactSymbols'. -/
def fnExactSymbolsCard : Claim7 := { stood := { row := fnExactSymbolsRow, standIns := [], harness := (true, "6fe3e7af2f93c6456984fa7bbc0fcb149f25c670354a21144c5c9adafeead72d"), looks := false }, kinds := [], alts := [], laidByText := true, laidKinds := [.sentinel, .sentinel], laidTests := true, laidLooks := .later }
def FnExactSymbolsCardSaid : Prop := Claim7.holds Tryd.pinned (.plain (OpenSpec.ofChange fnExactSymbolsSpec)) fnExactSymbolsCard

/-- THE TIED CARD OF 'laws.FnExactUnsymbols'. -/
def fnExactUnsymbolsCard : Claim7 := { stood := { row := fnExactUnsymbolsRow, standIns := [], harness := (true, "6fe3e7af2f93c6456984fa7bbc0fcb149f25c670354a21144c5c9adafeead72d"), looks := false }, kinds := [], alts := [], laidByText := true, laidKinds := [.sentinel, .sentinel, .sentinel, .sentinel, .sentinel], laidTests := true, laidLooks := .later }
def FnExactUnsymbolsCardSaid : Prop := Claim7.holds Tryd.pinned (.plain (OpenSpec.ofChange fnExactUnsymbolsSpec)) fnExactUnsymbolsCard

/-- THE SECOND FORM's CARD OF 'laws.FnExactSymbols'. -/
def fnExactSymbolsUptoCard : Claim7 := { stood := { row := fnExactSymbolsUptoRow, standIns := [], harness := (true, "6fe3e7af2f93c6456984fa7bbc0fcb149f25c670354a21144c5c9adafeead72d"), looks := false }, kinds := [], alts := [], laidByText := true, laidKinds := [.sentinel, .sentinel], laidTests := true, laidLooks := .later }
def FnExactSymbolsUptoCardSaid : Prop := Claim7.holds Tryd.pinned (.plain (OpenSpec.upto fnExactSymbolsSpec)) fnExactSymbolsUptoCard

/-- THE SECOND FORM's CARD OF 'laws.FnExactUnsymbols'. -/
def fnExactUnsymbolsUptoCard : Claim7 := { stood := { row := fnExactUnsymbolsUptoRow, standIns := [], harness := (true, "6fe3e7af2f93c6456984fa7bbc0fcb149f25c670354a21144c5c9adafeead72d"), looks := false }, kinds := [], alts := [], laidByText := true, laidKinds := [.sentinel, .sentinel, .sentinel, .sentinel, .sentinel], laidTests := true, laidLooks := .later }
def FnExactUnsymbolsUptoCardSaid : Prop := Claim7.holds Tryd.pinned (.plain (OpenSpec.upto fnExactUnsymbolsSpec)) fnExactUnsymbolsUptoCard
end Rows
end Go.Proofs.YtecmnbdnnlifhaaDoor
