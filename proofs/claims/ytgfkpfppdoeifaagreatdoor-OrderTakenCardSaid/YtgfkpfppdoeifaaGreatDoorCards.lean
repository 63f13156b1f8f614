/-
  DERIVED. GIVEN WITH THE SEED: THE CARDS: each row of YtgfkpfppdoeifaaGreatDoorRows.lean that lists a variable, with what it lists TIED to the program's text (the seventh form; the later family's looks); each row that meets fmt, with fmt's text TOLD by the authors' own Lean function (tested against real Go, not proved from fmt's source: count such statements apart). THE CARD IS WHAT COUNTS. Prove the row's statement (the work); the ties are given (YtgfkpfppdoeifaaGreatDoorTie.lean); close each card by the builder's one call (the guide's Derived/Test/ToyasCard.lean, 'card_holds'). Laid BY PROGRAM, IN A SANDBOX (cutbox-door.mjs). By AI agents, Wed Nov 11 2026. No macro, syntax, notation, axiom, sorry.
-/
import Derived.Test.YtgfkpfppdoeifaaGreatDoorRows
import GoSem.ClaimSeven
namespace Go.Proofs.YtgfkpfppdoeifaaGreatDoor
namespace Rows

/-- THE TIED CARD OF 'humpyardlaw08.OrderTells'. -/
def orderTellsCard : Claim7 := { stood := { row := orderTellsRow, standIns := [], harness := (true, "54185ddbb32512a937d31effec0ccf69d10abc1c6ab0a2a96c33fbfe1f6faa01"), looks := false }, kinds := [], alts := [], laidByText := true, laidKinds := [.data, .data, .data, .data, .pinned], laidTests := true, laidLooks := .later }
def OrderTellsCardSaid : Prop := Claim7.holds Tryz.pinned (.plain (OpenSpec.ofChange orderTellsSpec)) orderTellsCard

/-- THE TIED CARD OF 'humpyardlaw08.OrderBack'. -/
def orderBackCard : Claim7 := { stood := { row := orderBackRow, standIns := [], harness := (true, "54185ddbb32512a937d31effec0ccf69d10abc1c6ab0a2a96c33fbfe1f6faa01"), looks := false }, kinds := [], alts := [], laidByText := true, laidKinds := [.data, .data, .data, .data, .pinned], laidTests := true, laidLooks := .later }
def OrderBackCardSaid : Prop := Claim7.holds Tryz.pinned (.plain (OpenSpec.ofChange orderBackSpec)) orderBackCard

/-- THE TIED CARD OF 'humpyardlaw08.OrderTaken'. -/
def orderTakenCard : Claim7 := { stood := { row := orderTakenRow, standIns := [], harness := (true, "54185ddbb32512a937d31effec0ccf69d10abc1c6ab0a2a96c33fbfe1f6faa01"), looks := false }, kinds := [], alts := [], laidByText := true, laidKinds := [.data, .data, .data, .data, .pinned], laidTests := true, laidLooks := .later }
def OrderTakenCardSaid : Prop := Claim7.holds Tryz.pinned (.plain (OpenSpec.ofChange orderTakenSpec)) orderTakenCard

/-- THE TIED CARD OF 'humpyardlaw08.OrderChanged'. -/
def orderChangedCard : Claim7 := { stood := { row := orderChangedRow, standIns := [], harness := (true, "54185ddbb32512a937d31effec0ccf69d10abc1c6ab0a2a96c33fbfe1f6faa01"), looks := false }, kinds := [], alts := [], laidByText := true, laidKinds := [.data, .data, .data, .data, .pinned], laidTests := true, laidLooks := .later }
def OrderChangedCardSaid : Prop := Claim7.holds Tryz.pinned (.plain (OpenSpec.ofChange orderChangedSpec)) orderChangedCard

/-- THE TIED CARD OF 'humpyardlaw08.OrderForms'. -/
def orderFormsCard : Claim7 := { stood := { row := orderFormsRow, standIns := [], harness := (true, "54185ddbb32512a937d31effec0ccf69d10abc1c6ab0a2a96c33fbfe1f6faa01"), looks := false }, kinds := [], alts := [], laidByText := true, laidKinds := [.data, .data, .data, .data, .pinned], laidTests := true, laidLooks := .later }
def OrderFormsCardSaid : Prop := Claim7.holds Tryz.pinned (.plain (OpenSpec.ofChange orderFormsSpec)) orderFormsCard

/-- THE TIED CARD OF 'humpyardlaw08.OrderWrong'. -/
def orderWrongCard : Claim7 := { stood := { row := orderWrongRow, standIns := [], harness := (true, "54185ddbb32512a937d31effec0ccf69d10abc1c6ab0a2a96c33fbfe1f6faa01"), looks := false }, kinds := [], alts := [], laidByText := true, laidKinds := [.data, .data, .data, .data, .pinned], laidTests := true, laidLooks := .later }
def OrderWrongCardSaid : Prop := Claim7.holds Tryz.pinned (.plain (OpenSpec.ofChange orderWrongSpec)) orderWrongCard

/-- THE TIED CARD OF 'humpyardlaw08.OrderApart'. -/
def orderApartCard : Claim7 := { stood := { row := orderApartRow, standIns := [], harness := (true, "54185ddbb32512a937d31effec0ccf69d10abc1c6ab0a2a96c33fbfe1f6faa01"), looks := false }, kinds := [], alts := [], laidByText := true, laidKinds := [.data, .data, .data, .data, .pinned], laidTests := true, laidLooks := .later }
def OrderApartCardSaid : Prop := Claim7.holds Tryz.pinned (.plain (OpenSpec.ofChange orderApartSpec)) orderApartCard

/-- THE SECOND FORM's CARD OF 'humpyardlaw08.OrderTells'. -/
def orderTellsUptoCard : Claim7 := { stood := { row := orderTellsUptoRow, standIns := [], harness := (true, "54185ddbb32512a937d31effec0ccf69d10abc1c6ab0a2a96c33fbfe1f6faa01"), looks := false }, kinds := [], alts := [], laidByText := true, laidKinds := [.data, .data, .data, .data, .pinned], laidTests := true, laidLooks := .later }
def OrderTellsUptoCardSaid : Prop := Claim7.holds Tryz.pinned (.plain (OpenSpec.upto orderTellsSpec)) orderTellsUptoCard

/-- THE SECOND FORM's CARD OF 'humpyardlaw08.OrderBack'. -/
def orderBackUptoCard : Claim7 := { stood := { row := orderBackUptoRow, standIns := [], harness := (true, "54185ddbb32512a937d31effec0ccf69d10abc1c6ab0a2a96c33fbfe1f6faa01"), looks := false }, kinds := [], alts := [], laidByText := true, laidKinds := [.data, .data, .data, .data, .pinned], laidTests := true, laidLooks := .later }
def OrderBackUptoCardSaid : Prop := Claim7.holds Tryz.pinned (.plain (OpenSpec.upto orderBackSpec)) orderBackUptoCard

/-- THE SECOND FORM's CARD OF 'humpyardlaw08.OrderTaken'. -/
def orderTakenUptoCard : Claim7 := { stood := { row := orderTakenUptoRow, standIns := [], harness := (true, "54185ddbb32512a937d31effec0ccf69d10abc1c6ab0a2a96c33fbfe1f6faa01"), looks := false }, kinds := [], alts := [], laidByText := true, laidKinds := [.data, .data, .data, .data, .pinned], laidTests := true, laidLooks := .later }
def OrderTakenUptoCardSaid : Prop := Claim7.holds Tryz.pinned (.plain (OpenSpec.upto orderTakenSpec)) orderTakenUptoCard

/-- THE SECOND FORM's CARD OF 'humpyardlaw08.OrderChanged'. -/
def orderChangedUptoCard : Claim7 := { stood := { row := orderChangedUptoRow, standIns := [], harness := (true, "54185ddbb32512a937d31effec0ccf69d10abc1c6ab0a2a96c33fbfe1f6faa01"), looks := false }, kinds := [], alts := [], laidByText := true, laidKinds := [.data, .data, .data, .data, .pinned], laidTests := true, laidLooks := .later }
def OrderChangedUptoCardSaid : Prop := Claim7.holds Tryz.pinned (.plain (OpenSpec.upto orderChangedSpec)) orderChangedUptoCard

/-- THE SECOND FORM's CARD OF 'humpyardlaw08.OrderForms'. -/
def orderFormsUptoCard : Claim7 := { stood := { row := orderFormsUptoRow, standIns := [], harness := (true, "54185ddbb32512a937d31effec0ccf69d10abc1c6ab0a2a96c33fbfe1f6faa01"), looks := false }, kinds := [], alts := [], laidByText := true, laidKinds := [.data, .data, .data, .data, .pinned], laidTests := true, laidLooks := .later }
def OrderFormsUptoCardSaid : Prop := Claim7.holds Tryz.pinned (.plain (OpenSpec.upto orderFormsSpec)) orderFormsUptoCard

/-- THE SECOND FORM's CARD OF 'humpyardlaw08.OrderWrong'. -/
def orderWrongUptoCard : Claim7 := { stood := { row := orderWrongUptoRow, standIns := [], harness := (true, "54185ddbb32512a937d31effec0ccf69d10abc1c6ab0a2a96c33fbfe1f6faa01"), looks := false }, kinds := [], alts := [], laidByText := true, laidKinds := [.data, .data, .data, .data, .pinned], laidTests := true, laidLooks := .later }
def OrderWrongUptoCardSaid : Prop := Claim7.holds Tryz.pinned (.plain (OpenSpec.upto orderWrongSpec)) orderWrongUptoCard

/-- THE SECOND FORM's CARD OF 'humpyardlaw08.OrderApart'. -/
def orderApartUptoCard : Claim7 := { stood := { row := orderApartUptoRow, standIns := [], harness := (true, "54185ddbb32512a937d31effec0ccf69d10abc1c6ab0a2a96c33fbfe1f6faa01"), looks := false }, kinds := [], alts := [], laidByText := true, laidKinds := [.data, .data, .data, .data, .pinned], laidTests := true, laidLooks := .later }
def OrderApartUptoCardSaid : Prop := Claim7.holds Tryz.pinned (.plain (OpenSpec.upto orderApartSpec)) orderApartUptoCard
end Rows
end Go.Proofs.YtgfkpfppdoeifaaGreatDoor
