/-
  DERIVED. GIVEN WITH THE SEED: THE CARDS: each row of YtjmcjbmjgpponaaGreatDoorRows.lean that lists a variable, with what it lists TIED to the program's text (the seventh form; the later family's looks); each row that meets fmt, with fmt's text TOLD by the authors' own Lean function (tested against real Go, not proved from fmt's source: count such statements apart). THE CARD IS WHAT COUNTS. Prove the row's statement (the work); the ties are given (YtjmcjbmjgpponaaGreatDoorTie.lean); close each card by the builder's one call (the guide's Derived/Test/ToyasCard.lean, 'card_holds'). Laid BY PROGRAM, IN A SANDBOX (cutbox-door.mjs). By AI agents, Wed Nov 11 2026. No macro, syntax, notation, axiom, sorry.
-/
import Derived.Test.YtjmcjbmjgpponaaGreatDoorRows
import GoSem.ClaimSeven
namespace Go.Proofs.YtjmcjbmjgpponaaGreatDoor
namespace Rows

/-- THE TIED CARD OF 'laws.FnPacks'. -/
def fnPacksCard : Claim7 := { stood := { row := fnPacksRow, standIns := [], harness := (true, "fe3246ff405cec56987a9ce611b9c8a9ee807d8cc174ae02b6a9ba6b9597b2cd"), looks := true }, kinds := [], alts := [], laidByText := true, laidKinds := [.sentinel, .sentinel, .sentinel, .sentinel, .sentinel, .sentinel, .sentinel, .sentinel, .sentinel, .sentinel, .sentinel, .sentinel, .sentinel, .sentinel, .sentinel, .sentinel, .sentinel, .sentinel, .sentinel, .sentinel, .sentinel, .sentinel, .sentinel, .sentinel, .sentinel], laidTests := true, laidLooks := .later }
def FnPacksCardSaid : Prop := Claim7.holds Tryz.pinned (.plain (OpenSpec.ofChange fnPacksSpec)) fnPacksCard

/-- THE TIED CARD OF 'laws.FnPackAdds'. -/
def fnPackAddsCard : Claim7 := { stood := { row := fnPackAddsRow, standIns := [], harness := (true, "fe3246ff405cec56987a9ce611b9c8a9ee807d8cc174ae02b6a9ba6b9597b2cd"), looks := true }, kinds := [], alts := [], laidByText := true, laidKinds := [.sentinel, .sentinel, .sentinel, .sentinel, .sentinel, .sentinel, .sentinel, .sentinel, .sentinel, .sentinel, .sentinel, .sentinel, .sentinel, .sentinel, .sentinel, .sentinel, .sentinel, .sentinel, .sentinel, .sentinel], laidTests := true, laidLooks := .later }
def FnPackAddsCardSaid : Prop := Claim7.holds Tryz.pinned (.plain (OpenSpec.ofChange fnPackAddsSpec)) fnPackAddsCard

/-- THE TIED CARD OF 'laws.FnMaps'. -/
def fnMapsCard : Claim7 := { stood := { row := fnMapsRow, standIns := [], harness := (true, "fe3246ff405cec56987a9ce611b9c8a9ee807d8cc174ae02b6a9ba6b9597b2cd"), looks := true }, kinds := [], alts := [], laidByText := true, laidKinds := [.sentinel, .sentinel, .sentinel, .sentinel, .sentinel, .sentinel, .sentinel, .sentinel, .sentinel, .sentinel, .sentinel, .sentinel, .sentinel, .sentinel, .sentinel, .sentinel, .sentinel, .sentinel], laidTests := true, laidLooks := .later }
def FnMapsCardSaid : Prop := Claim7.holds Tryz.pinned (.plain (OpenSpec.ofChange fnMapsSpec)) fnMapsCard

/-- THE SECOND FORM's CARD OF 'laws.FnPacks'. -/
def fnPacksUptoCard : Claim7 := { stood := { row := fnPacksUptoRow, standIns := [], harness := (true, "fe3246ff405cec56987a9ce611b9c8a9ee807d8cc174ae02b6a9ba6b9597b2cd"), looks := true }, kinds := [], alts := [], laidByText := true, laidKinds := [.sentinel, .sentinel, .sentinel, .sentinel, .sentinel, .sentinel, .sentinel, .sentinel, .sentinel, .sentinel, .sentinel, .sentinel, .sentinel, .sentinel, .sentinel, .sentinel, .sentinel, .sentinel, .sentinel, .sentinel, .sentinel, .sentinel, .sentinel, .sentinel, .sentinel], laidTests := true, laidLooks := .later }
def FnPacksUptoCardSaid : Prop := Claim7.holds Tryz.pinned (.plain (OpenSpec.upto fnPacksSpec)) fnPacksUptoCard

/-- THE SECOND FORM's CARD OF 'laws.FnPackAdds'. -/
def fnPackAddsUptoCard : Claim7 := { stood := { row := fnPackAddsUptoRow, standIns := [], harness := (true, "fe3246ff405cec56987a9ce611b9c8a9ee807d8cc174ae02b6a9ba6b9597b2cd"), looks := true }, kinds := [], alts := [], laidByText := true, laidKinds := [.sentinel, .sentinel, .sentinel, .sentinel, .sentinel, .sentinel, .sentinel, .sentinel, .sentinel, .sentinel, .sentinel, .sentinel, .sentinel, .sentinel, .sentinel, .sentinel, .sentinel, .sentinel, .sentinel, .sentinel], laidTests := true, laidLooks := .later }
def FnPackAddsUptoCardSaid : Prop := Claim7.holds Tryz.pinned (.plain (OpenSpec.upto fnPackAddsSpec)) fnPackAddsUptoCard

/-- THE SECOND FORM's CARD OF 'laws.FnMaps'. -/
def fnMapsUptoCard : Claim7 := { stood := { row := fnMapsUptoRow, standIns := [], harness := (true, "fe3246ff405cec56987a9ce611b9c8a9ee807d8cc174ae02b6a9ba6b9597b2cd"), looks := true }, kinds := [], alts := [], laidByText := true, laidKinds := [.sentinel, .sentinel, .sentinel, .sentinel, .sentinel, .sentinel, .sentinel, .sentinel, .sentinel, .sentinel, .sentinel, .sentinel, .sentinel, .sentinel, .sentinel, .sentinel, .sentinel, .sentinel], laidTests := true, laidLooks := .later }
def FnMapsUptoCardSaid : Prop := Claim7.holds Tryz.pinned (.plain (OpenSpec.upto fnMapsSpec)) fnMapsUptoCard
end Rows
end Go.Proofs.YtjmcjbmjgpponaaGreatDoor
