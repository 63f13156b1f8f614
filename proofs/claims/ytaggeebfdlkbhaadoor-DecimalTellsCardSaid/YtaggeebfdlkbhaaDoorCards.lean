/-
  DERIVED. GIVEN WITH THE SEED: THE CARDS: each row of YtaggeebfdlkbhaaDoorRows.lean that lists a variable, with what it lists TIED to the program's text (the seventh form; the later family's looks); each row that meets fmt, with fmt's text TOLD by the authors' own Lean function (tested against real Go, not proved from fmt's source: count such statements apart). THE CARD IS WHAT COUNTS. Prove the row's statement (the work); the ties are given (YtaggeebfdlkbhaaDoorTie.lean); close each card by the builder's one call (the guide's Derived/Test/ToyasCard.lean, 'card_holds'). Laid BY PROGRAM, IN A SANDBOX (cutbox-door.mjs). By AI agents, Wed Nov 11 2026. No macro, syntax, notation, axiom, sorry.
-/
import Derived.Test.YtaggeebfdlkbhaaDoorRows
import GoSem.ClaimSeven
namespace Go.Proofs.YtaggeebfdlkbhaaDoor
namespace Rows

/-- THE TIED CARD OF 'humpyardlaw01.DecimalTells'. -/
def decimalTellsCard : Claim7 := { stood := { row := decimalTellsRow, standIns := [], harness := (true, "97c9245e4699707b68295d947ff468a95aa73b40d0290dce88681cd03c41563b"), looks := false }, kinds := [], alts := [], laidByText := true, laidKinds := [.data, .data, .data, .data, .pinned], laidTests := true, laidLooks := .later }
def DecimalTellsCardSaid : Prop := Claim7.holds Tryd.pinned (.plain (OpenSpec.ofChange decimalTellsSpec)) decimalTellsCard

/-- THE TIED CARD OF 'humpyardlaw01.DecimalBack'. -/
def decimalBackCard : Claim7 := { stood := { row := decimalBackRow, standIns := [], harness := (true, "97c9245e4699707b68295d947ff468a95aa73b40d0290dce88681cd03c41563b"), looks := false }, kinds := [], alts := [], laidByText := true, laidKinds := [.data, .data, .data, .data, .pinned], laidTests := true, laidLooks := .later }
def DecimalBackCardSaid : Prop := Claim7.holds Tryd.pinned (.plain (OpenSpec.ofChange decimalBackSpec)) decimalBackCard

/-- THE TIED CARD OF 'humpyardlaw01.DecimalSame'. -/
def decimalSameCard : Claim7 := { stood := { row := decimalSameRow, standIns := [], harness := (true, "97c9245e4699707b68295d947ff468a95aa73b40d0290dce88681cd03c41563b"), looks := false }, kinds := [], alts := [], laidByText := true, laidKinds := [.data, .data, .data, .data, .pinned], laidTests := true, laidLooks := .later }
def DecimalSameCardSaid : Prop := Claim7.holds Tryd.pinned (.plain (OpenSpec.ofChange decimalSameSpec)) decimalSameCard

/-- THE TIED CARD OF 'humpyardlaw01.DecimalOrder'. -/
def decimalOrderCard : Claim7 := { stood := { row := decimalOrderRow, standIns := [], harness := (true, "97c9245e4699707b68295d947ff468a95aa73b40d0290dce88681cd03c41563b"), looks := false }, kinds := [], alts := [], laidByText := true, laidKinds := [.data, .data, .data, .data, .pinned], laidTests := true, laidLooks := .later }
def DecimalOrderCardSaid : Prop := Claim7.holds Tryd.pinned (.plain (OpenSpec.ofChange decimalOrderSpec)) decimalOrderCard

/-- THE TIED CARD OF 'humpyardlaw01.DecimalSums'. -/
def decimalSumsCard : Claim7 := { stood := { row := decimalSumsRow, standIns := [], harness := (true, "97c9245e4699707b68295d947ff468a95aa73b40d0290dce88681cd03c41563b"), looks := false }, kinds := [], alts := [], laidByText := true, laidKinds := [.data, .data, .data, .data, .pinned], laidTests := true, laidLooks := .later }
def DecimalSumsCardSaid : Prop := Claim7.holds Tryd.pinned (.plain (OpenSpec.ofChange decimalSumsSpec)) decimalSumsCard

/-- THE TIED CARD OF 'humpyardlaw01.DecimalMoves'. -/
def decimalMovesCard : Claim7 := { stood := { row := decimalMovesRow, standIns := [], harness := (true, "97c9245e4699707b68295d947ff468a95aa73b40d0290dce88681cd03c41563b"), looks := false }, kinds := [], alts := [], laidByText := true, laidKinds := [.data, .data, .data, .data, .pinned], laidTests := true, laidLooks := .later }
def DecimalMovesCardSaid : Prop := Claim7.holds Tryd.pinned (.plain (OpenSpec.ofChange decimalMovesSpec)) decimalMovesCard

/-- THE TIED CARD OF 'humpyardlaw01.DecimalShort'. -/
def decimalShortCard : Claim7 := { stood := { row := decimalShortRow, standIns := [], harness := (true, "97c9245e4699707b68295d947ff468a95aa73b40d0290dce88681cd03c41563b"), looks := false }, kinds := [], alts := [], laidByText := true, laidKinds := [.data, .data, .data, .data, .pinned], laidTests := true, laidLooks := .later }
def DecimalShortCardSaid : Prop := Claim7.holds Tryd.pinned (.plain (OpenSpec.ofChange decimalShortSpec)) decimalShortCard

/-- THE SECOND FORM's CARD OF 'humpyardlaw01.DecimalTells'. -/
def decimalTellsUptoCard : Claim7 := { stood := { row := decimalTellsUptoRow, standIns := [], harness := (true, "97c9245e4699707b68295d947ff468a95aa73b40d0290dce88681cd03c41563b"), looks := false }, kinds := [], alts := [], laidByText := true, laidKinds := [.data, .data, .data, .data, .pinned], laidTests := true, laidLooks := .later }
def DecimalTellsUptoCardSaid : Prop := Claim7.holds Tryd.pinned (.plain (OpenSpec.upto decimalTellsSpec)) decimalTellsUptoCard

/-- THE SECOND FORM's CARD OF 'humpyardlaw01.DecimalBack'. -/
def decimalBackUptoCard : Claim7 := { stood := { row := decimalBackUptoRow, standIns := [], harness := (true, "97c9245e4699707b68295d947ff468a95aa73b40d0290dce88681cd03c41563b"), looks := false }, kinds := [], alts := [], laidByText := true, laidKinds := [.data, .data, .data, .data, .pinned], laidTests := true, laidLooks := .later }
def DecimalBackUptoCardSaid : Prop := Claim7.holds Tryd.pinned (.plain (OpenSpec.upto decimalBackSpec)) decimalBackUptoCard

/-- THE SECOND FORM's CARD OF 'humpyardlaw01.DecimalSame'. -/
def decimalSameUptoCard : Claim7 := { stood := { row := decimalSameUptoRow, standIns := [], harness := (true, "97c9245e4699707b68295d947ff468a95aa73b40d0290dce88681cd03c41563b"), looks := false }, kinds := [], alts := [], laidByText := true, laidKinds := [.data, .data, .data, .data, .pinned], laidTests := true, laidLooks := .later }
def DecimalSameUptoCardSaid : Prop := Claim7.holds Tryd.pinned (.plain (OpenSpec.upto decimalSameSpec)) decimalSameUptoCard

/-- THE SECOND FORM's CARD OF 'humpyardlaw01.DecimalOrder'. -/
def decimalOrderUptoCard : Claim7 := { stood := { row := decimalOrderUptoRow, standIns := [], harness := (true, "97c9245e4699707b68295d947ff468a95aa73b40d0290dce88681cd03c41563b"), looks := false }, kinds := [], alts := [], laidByText := true, laidKinds := [.data, .data, .data, .data, .pinned], laidTests := true, laidLooks := .later }
def DecimalOrderUptoCardSaid : Prop := Claim7.holds Tryd.pinned (.plain (OpenSpec.upto decimalOrderSpec)) decimalOrderUptoCard

/-- THE SECOND FORM's CARD OF 'humpyardlaw01.DecimalSums'. -/
def decimalSumsUptoCard : Claim7 := { stood := { row := decimalSumsUptoRow, standIns := [], harness := (true, "97c9245e4699707b68295d947ff468a95aa73b40d0290dce88681cd03c41563b"), looks := false }, kinds := [], alts := [], laidByText := true, laidKinds := [.data, .data, .data, .data, .pinned], laidTests := true, laidLooks := .later }
def DecimalSumsUptoCardSaid : Prop := Claim7.holds Tryd.pinned (.plain (OpenSpec.upto decimalSumsSpec)) decimalSumsUptoCard

/-- THE SECOND FORM's CARD OF 'humpyardlaw01.DecimalMoves'. -/
def decimalMovesUptoCard : Claim7 := { stood := { row := decimalMovesUptoRow, standIns := [], harness := (true, "97c9245e4699707b68295d947ff468a95aa73b40d0290dce88681cd03c41563b"), looks := false }, kinds := [], alts := [], laidByText := true, laidKinds := [.data, .data, .data, .data, .pinned], laidTests := true, laidLooks := .later }
def DecimalMovesUptoCardSaid : Prop := Claim7.holds Tryd.pinned (.plain (OpenSpec.upto decimalMovesSpec)) decimalMovesUptoCard

/-- THE SECOND FORM's CARD OF 'humpyardlaw01.DecimalShort'. -/
def decimalShortUptoCard : Claim7 := { stood := { row := decimalShortUptoRow, standIns := [], harness := (true, "97c9245e4699707b68295d947ff468a95aa73b40d0290dce88681cd03c41563b"), looks := false }, kinds := [], alts := [], laidByText := true, laidKinds := [.data, .data, .data, .data, .pinned], laidTests := true, laidLooks := .later }
def DecimalShortUptoCardSaid : Prop := Claim7.holds Tryd.pinned (.plain (OpenSpec.upto decimalShortSpec)) decimalShortUptoCard
end Rows
end Go.Proofs.YtaggeebfdlkbhaaDoor
