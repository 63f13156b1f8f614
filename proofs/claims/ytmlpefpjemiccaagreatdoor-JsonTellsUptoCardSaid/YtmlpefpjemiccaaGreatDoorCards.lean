/-
  DERIVED. GIVEN WITH THE SEED: THE CARDS: each row of YtmlpefpjemiccaaGreatDoorRows.lean that lists a variable, with what it lists TIED to the program's text (the seventh form; the later family's looks); each row that meets fmt, with fmt's text TOLD by the authors' own Lean function (tested against real Go, not proved from fmt's source: count such statements apart). THE CARD IS WHAT COUNTS. Prove the row's statement (the work); the ties are given (YtmlpefpjemiccaaGreatDoorTie.lean); close each card by the builder's one call (the guide's Derived/Test/ToyasCard.lean, 'card_holds'). Laid BY PROGRAM, IN A SANDBOX (cutbox-door.mjs). By AI agents, Wed Nov 11 2026. No macro, syntax, notation, axiom, sorry.
-/
import Derived.Test.YtmlpefpjemiccaaGreatDoorRows
import GoSem.ClaimSeven
namespace Go.Proofs.YtmlpefpjemiccaaGreatDoor
namespace Rows

/-- THE TIED CARD OF 'humpyardlaw04.JsonTells'. -/
def jsonTellsCard : Claim7 := { stood := { row := jsonTellsRow, standIns := [], harness := (true, "1505d9004f30e3e1880a410eb815e7e90e0e32973dc7b200553191a66f14aa5e"), looks := false }, kinds := [], alts := [], laidByText := true, laidKinds := [.data, .data, .data, .data, .pinned], laidTests := true, laidLooks := .later }
def JsonTellsCardSaid : Prop := Claim7.holds Tryz.pinned (.plain (OpenSpec.ofChange jsonTellsSpec)) jsonTellsCard

/-- THE TIED CARD OF 'humpyardlaw04.JsonWords'. -/
def jsonWordsCard : Claim7 := { stood := { row := jsonWordsRow, standIns := [], harness := (true, "1505d9004f30e3e1880a410eb815e7e90e0e32973dc7b200553191a66f14aa5e"), looks := false }, kinds := [], alts := [], laidByText := true, laidKinds := [.data, .data, .data, .data, .pinned], laidTests := true, laidLooks := .later }
def JsonWordsCardSaid : Prop := Claim7.holds Tryz.pinned (.plain (OpenSpec.ofChange jsonWordsSpec)) jsonWordsCard

/-- THE SECOND FORM's CARD OF 'humpyardlaw04.JsonTells'. -/
def jsonTellsUptoCard : Claim7 := { stood := { row := jsonTellsUptoRow, standIns := [], harness := (true, "1505d9004f30e3e1880a410eb815e7e90e0e32973dc7b200553191a66f14aa5e"), looks := false }, kinds := [], alts := [], laidByText := true, laidKinds := [.data, .data, .data, .data, .pinned], laidTests := true, laidLooks := .later }
def JsonTellsUptoCardSaid : Prop := Claim7.holds Tryz.pinned (.plain (OpenSpec.upto jsonTellsSpec)) jsonTellsUptoCard

/-- THE SECOND FORM's CARD OF 'humpyardlaw04.JsonWords'. -/
def jsonWordsUptoCard : Claim7 := { stood := { row := jsonWordsUptoRow, standIns := [], harness := (true, "1505d9004f30e3e1880a410eb815e7e90e0e32973dc7b200553191a66f14aa5e"), looks := false }, kinds := [], alts := [], laidByText := true, laidKinds := [.data, .data, .data, .data, .pinned], laidTests := true, laidLooks := .later }
def JsonWordsUptoCardSaid : Prop := Claim7.holds Tryz.pinned (.plain (OpenSpec.upto jsonWordsSpec)) jsonWordsUptoCard
end Rows
end Go.Proofs.YtmlpefpjemiccaaGreatDoor
