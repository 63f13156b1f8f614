/-
  No cell of these rows narrows 'for every input' (looked for: loops, veiled, ifaces, maps, wideKeys, modest, calm, conditions, laid).
  DERIVED. THE GIVEN ROWS OF THIS SEAT. 7 by the template 'for every input the law returns true; each argument reads behind the call as it read before'; 0 by the template 'total and deterministic' (their statements: YtfkdepjioleakaaTotals.lean).
  GIVEN WITH THE SEED: the statements are not yours to turn. If you find one false, say at which input.
  Laid BY PROGRAM, IN A SANDBOX (cutbox-rows.mjs): the forced cells as the released guide's own fill.sh prints them over the translation 4ff9f8fd829cf222… (all of the seat's roots in one cut). By AI agents, Wed Nov 11 2026. No macro, syntax, notation, axiom, sorry.
-/
import Derived.Test.YtfkdepjioleakaaChecked
import GoSem.Claim
import GoSem.ClaimJoined
import GoSem.ClaimMapViews
import Derived.JoinedTies
import Derived.KernelRfl
namespace Go.Proofs.Ytfkdepjioleakaa
/- THE CELL 'sum', in the pinned program and in every row, IS THE sha256 OF THE DUMP (.gsa) THAT YtfkdepjioleakaaProg.lean LOADS. Nothing in Lean hashes anything: it is a label: what it is worth is what the hold of that sum in a sandbox is worth. -/
noncomputable def Try.pinned : Pinned := { name := "ytfkdepjioleakaa", sum := "4ff9f8fd829cf22254812620237f242ef1343ba57139b43e8df3de71d53d4fa2", checked := Try.checked }
namespace Rows
def none {H : Type} : Left H := { results := [], args := [] }

/-- 'humpyardlaw02.QuoteTells': WHATEVER THE INPUT: true; the input reads as it did. -/
def quoteTellsSpec : ChangeSpec := { name := "quoteTells", fn := fun _ => fun
  | [d1, d2, d3, d4] => { results := [.lit (.bool true)], args := [d1, d2, d3, d4] }
  | _ => none }
def quoteTellsRow : OpenClaim := { program := "ytfkdepjioleakaa", sum := "4ff9f8fd829cf22254812620237f242ef1343ba57139b43e8df3de71d53d4fa2", func := "humpyard/humpyardlaw02.QuoteTells", spec := "quoteTells", inPlace := ["internal/abi.NoEscape", "internal/bytealg.IndexByteString", "internal/bytealg.IndexString"], named := ["internal/bytealg.MaxLen"], apart := false }
def QuoteTellsSaid : Prop := quoteTellsRow.holds Try.pinned (OpenSpec.ofChange quoteTellsSpec)

/-- ITS FALSE NEIGHBOUR: 'it returns false'. Refute it at one input. -/
def quoteTellsWrong : ChangeSpec := { name := "quoteTells", fn := fun _ => fun
  | [d1, d2, d3, d4] => { results := [.lit (.bool false)], args := [d1, d2, d3, d4] }
  | _ => none }
def QuoteTellsWrongFalsely : Prop := quoteTellsRow.holds Try.pinned (OpenSpec.ofChange quoteTellsWrong)

/-- 'humpyardlaw02.QuoteBack': WHATEVER THE INPUT: true; the input reads as it did. -/
def quoteBackSpec : ChangeSpec := { name := "quoteBack", fn := fun _ => fun
  | [d1, d2, d3] => { results := [.lit (.bool true)], args := [d1, d2, d3] }
  | _ => none }
def quoteBackRow : OpenClaim := { program := "ytfkdepjioleakaa", sum := "4ff9f8fd829cf22254812620237f242ef1343ba57139b43e8df3de71d53d4fa2", func := "humpyard/humpyardlaw02.QuoteBack", spec := "quoteBack", inPlace := ["internal/abi.NoEscape", "internal/bytealg.IndexByteString", "internal/bytealg.IndexString"], named := ["internal/bytealg.MaxLen"], apart := false }
def QuoteBackSaid : Prop := quoteBackRow.holds Try.pinned (OpenSpec.ofChange quoteBackSpec)

/-- ITS FALSE NEIGHBOUR: 'it returns false'. Refute it at one input. -/
def quoteBackWrong : ChangeSpec := { name := "quoteBack", fn := fun _ => fun
  | [d1, d2, d3] => { results := [.lit (.bool false)], args := [d1, d2, d3] }
  | _ => none }
def QuoteBackWrongFalsely : Prop := quoteBackRow.holds Try.pinned (OpenSpec.ofChange quoteBackWrong)

/-- 'humpyardlaw02.QuoteForth': WHATEVER THE INPUT: true; the input reads as it did. -/
def quoteForthSpec : ChangeSpec := { name := "quoteForth", fn := fun _ => fun
  | [d1, d2, d3, d4] => { results := [.lit (.bool true)], args := [d1, d2, d3, d4] }
  | _ => none }
def quoteForthRow : OpenClaim := { program := "ytfkdepjioleakaa", sum := "4ff9f8fd829cf22254812620237f242ef1343ba57139b43e8df3de71d53d4fa2", func := "humpyard/humpyardlaw02.QuoteForth", spec := "quoteForth", inPlace := ["internal/abi.NoEscape", "internal/bytealg.IndexByteString", "internal/bytealg.IndexString"], named := ["internal/bytealg.MaxLen"], apart := false }
def QuoteForthSaid : Prop := quoteForthRow.holds Try.pinned (OpenSpec.ofChange quoteForthSpec)

/-- ITS FALSE NEIGHBOUR: 'it returns false'. Refute it at one input. -/
def quoteForthWrong : ChangeSpec := { name := "quoteForth", fn := fun _ => fun
  | [d1, d2, d3, d4] => { results := [.lit (.bool false)], args := [d1, d2, d3, d4] }
  | _ => none }
def QuoteForthWrongFalsely : Prop := quoteForthRow.holds Try.pinned (OpenSpec.ofChange quoteForthWrong)

/-- 'humpyardlaw02.QuotePlain': WHATEVER THE INPUT: true; the input reads as it did. -/
def quotePlainSpec : ChangeSpec := { name := "quotePlain", fn := fun _ => fun
  | [d1, d2] => { results := [.lit (.bool true)], args := [d1, d2] }
  | _ => none }
def quotePlainRow : OpenClaim := { program := "ytfkdepjioleakaa", sum := "4ff9f8fd829cf22254812620237f242ef1343ba57139b43e8df3de71d53d4fa2", func := "humpyard/humpyardlaw02.QuotePlain", spec := "quotePlain", inPlace := ["internal/abi.NoEscape", "internal/bytealg.IndexByteString", "internal/bytealg.IndexString"], named := ["internal/bytealg.MaxLen"], apart := false }
def QuotePlainSaid : Prop := quotePlainRow.holds Try.pinned (OpenSpec.ofChange quotePlainSpec)

/-- ITS FALSE NEIGHBOUR: 'it returns false'. Refute it at one input. -/
def quotePlainWrong : ChangeSpec := { name := "quotePlain", fn := fun _ => fun
  | [d1, d2] => { results := [.lit (.bool false)], args := [d1, d2] }
  | _ => none }
def QuotePlainWrongFalsely : Prop := quotePlainRow.holds Try.pinned (OpenSpec.ofChange quotePlainWrong)

/-- 'humpyardlaw02.QuoteUnits': WHATEVER THE INPUT: true; the input reads as it did. -/
def quoteUnitsSpec : ChangeSpec := { name := "quoteUnits", fn := fun _ => fun
  | [d1, d2] => { results := [.lit (.bool true)], args := [d1, d2] }
  | _ => none }
def quoteUnitsRow : OpenClaim := { program := "ytfkdepjioleakaa", sum := "4ff9f8fd829cf22254812620237f242ef1343ba57139b43e8df3de71d53d4fa2", func := "humpyard/humpyardlaw02.QuoteUnits", spec := "quoteUnits", inPlace := ["internal/abi.NoEscape", "internal/bytealg.IndexByteString", "internal/bytealg.IndexString"], named := ["internal/bytealg.MaxLen"], apart := false }
def QuoteUnitsSaid : Prop := quoteUnitsRow.holds Try.pinned (OpenSpec.ofChange quoteUnitsSpec)

/-- ITS FALSE NEIGHBOUR: 'it returns false'. Refute it at one input. -/
def quoteUnitsWrong : ChangeSpec := { name := "quoteUnits", fn := fun _ => fun
  | [d1, d2] => { results := [.lit (.bool false)], args := [d1, d2] }
  | _ => none }
def QuoteUnitsWrongFalsely : Prop := quoteUnitsRow.holds Try.pinned (OpenSpec.ofChange quoteUnitsWrong)

/-- 'humpyardlaw02.QuoteCut': WHATEVER THE INPUT: true; the input reads as it did. -/
def quoteCutSpec : ChangeSpec := { name := "quoteCut", fn := fun _ => fun
  | [d1, d2] => { results := [.lit (.bool true)], args := [d1, d2] }
  | _ => none }
def quoteCutRow : OpenClaim := { program := "ytfkdepjioleakaa", sum := "4ff9f8fd829cf22254812620237f242ef1343ba57139b43e8df3de71d53d4fa2", func := "humpyard/humpyardlaw02.QuoteCut", spec := "quoteCut", inPlace := ["internal/abi.NoEscape", "internal/bytealg.IndexByteString", "internal/bytealg.IndexString"], named := ["internal/bytealg.MaxLen"], apart := false }
def QuoteCutSaid : Prop := quoteCutRow.holds Try.pinned (OpenSpec.ofChange quoteCutSpec)

/-- ITS FALSE NEIGHBOUR: 'it returns false'. Refute it at one input. -/
def quoteCutWrong : ChangeSpec := { name := "quoteCut", fn := fun _ => fun
  | [d1, d2] => { results := [.lit (.bool false)], args := [d1, d2] }
  | _ => none }
def QuoteCutWrongFalsely : Prop := quoteCutRow.holds Try.pinned (OpenSpec.ofChange quoteCutWrong)

/-- 'humpyardlaw02.QuoteWhole': WHATEVER THE INPUT: true; the input reads as it did. -/
def quoteWholeSpec : ChangeSpec := { name := "quoteWhole", fn := fun _ => fun
  | [d1, d2] => { results := [.lit (.bool true)], args := [d1, d2] }
  | _ => none }
def quoteWholeRow : OpenClaim := { program := "ytfkdepjioleakaa", sum := "4ff9f8fd829cf22254812620237f242ef1343ba57139b43e8df3de71d53d4fa2", func := "humpyard/humpyardlaw02.QuoteWhole", spec := "quoteWhole", inPlace := ["internal/abi.NoEscape", "internal/bytealg.IndexByteString", "internal/bytealg.IndexString"], named := ["internal/bytealg.MaxLen"], apart := false }
def QuoteWholeSaid : Prop := quoteWholeRow.holds Try.pinned (OpenSpec.ofChange quoteWholeSpec)

/-- ITS FALSE NEIGHBOUR: 'it returns false'. Refute it at one input. -/
def quoteWholeWrong : ChangeSpec := { name := "quoteWhole", fn := fun _ => fun
  | [d1, d2] => { results := [.lit (.bool false)], args := [d1, d2] }
  | _ => none }
def QuoteWholeWrongFalsely : Prop := quoteWholeRow.holds Try.pinned (OpenSpec.ofChange quoteWholeWrong)

/- THE SECOND FORM. 'bulk': how many values and letters a reading holds, each counted each time it is reached (what is shared counts as often as it is met; a slice's spare places count too). A statement '..UptoSaid' is the law's where the arguments, and the package variables that the reading takes, are together of bulk at most 1048576: NARROWER than '..Said'. Prove '..Said' where nothing that the law and all that it calls make is longer than what came in: it says more and counts as full. Else prove '..UptoSaid'. A law counts once. -/
mutual
def uptoBulk {H : Type} : DataW H → Nat
  | .lit (.string bytes) => bytes.length + 1
  | .lit _ => 1
  | .nil => 1
  | .ptr d => uptoBulk d + 1
  | .slice elems spare => uptoBulkAll elems + uptoBulkAll spare + 1
  | .agg parts => uptoBulkAll parts + 1
  | .iface _ d => uptoBulk d + 1
  | .map entries => uptoBulkEntries entries + 1
  | .held _ => 1
def uptoBulkAll {H : Type} : List (DataW H) → Nat
  | [] => 0
  | d :: r => uptoBulk d + uptoBulkAll r
def uptoBulkEntries {H : Type} : List (Lit × DataW H) → Nat
  | [] => 0
  | x :: r => uptoBulkEntry x + uptoBulkEntries r
def uptoBulkEntry {H : Type} : Lit × DataW H → Nat
  | (.string bytes, d) => bytes.length + uptoBulk d + 1
  | (_, d) => uptoBulk d + 1
 end
def uptoSmall : (H : Type) → List (DataW H) → Bool := fun _ ds => decide (uptoBulkAll ds ≤ 1048576)
def OpenSpec.upto (s : _root_.Go.ChangeSpec) : _root_.Go.OpenSpec := { _root_.Go.OpenSpec.ofChange s with cond := some uptoSmall }

/-- 'humpyardlaw02.QuoteTells', WHERE WHAT IT READS IS OF BULK AT MOST 1048576: true; the input reads as it did. -/
def quoteTellsUptoRow : OpenClaim := { program := "ytfkdepjioleakaa", sum := "4ff9f8fd829cf22254812620237f242ef1343ba57139b43e8df3de71d53d4fa2", func := "humpyard/humpyardlaw02.QuoteTells", spec := "quoteTells", inPlace := ["internal/abi.NoEscape", "internal/bytealg.IndexByteString", "internal/bytealg.IndexString"], named := ["internal/bytealg.MaxLen"], apart := false, narrowed := true }
def QuoteTellsUptoSaid : Prop := quoteTellsUptoRow.holds Try.pinned (OpenSpec.upto quoteTellsSpec)

/-- 'humpyardlaw02.QuoteBack', WHERE WHAT IT READS IS OF BULK AT MOST 1048576: true; the input reads as it did. -/
def quoteBackUptoRow : OpenClaim := { program := "ytfkdepjioleakaa", sum := "4ff9f8fd829cf22254812620237f242ef1343ba57139b43e8df3de71d53d4fa2", func := "humpyard/humpyardlaw02.QuoteBack", spec := "quoteBack", inPlace := ["internal/abi.NoEscape", "internal/bytealg.IndexByteString", "internal/bytealg.IndexString"], named := ["internal/bytealg.MaxLen"], apart := false, narrowed := true }
def QuoteBackUptoSaid : Prop := quoteBackUptoRow.holds Try.pinned (OpenSpec.upto quoteBackSpec)

/-- 'humpyardlaw02.QuoteForth', WHERE WHAT IT READS IS OF BULK AT MOST 1048576: true; the input reads as it did. -/
def quoteForthUptoRow : OpenClaim := { program := "ytfkdepjioleakaa", sum := "4ff9f8fd829cf22254812620237f242ef1343ba57139b43e8df3de71d53d4fa2", func := "humpyard/humpyardlaw02.QuoteForth", spec := "quoteForth", inPlace := ["internal/abi.NoEscape", "internal/bytealg.IndexByteString", "internal/bytealg.IndexString"], named := ["internal/bytealg.MaxLen"], apart := false, narrowed := true }
def QuoteForthUptoSaid : Prop := quoteForthUptoRow.holds Try.pinned (OpenSpec.upto quoteForthSpec)

/-- 'humpyardlaw02.QuotePlain', WHERE WHAT IT READS IS OF BULK AT MOST 1048576: true; the input reads as it did. -/
def quotePlainUptoRow : OpenClaim := { program := "ytfkdepjioleakaa", sum := "4ff9f8fd829cf22254812620237f242ef1343ba57139b43e8df3de71d53d4fa2", func := "humpyard/humpyardlaw02.QuotePlain", spec := "quotePlain", inPlace := ["internal/abi.NoEscape", "internal/bytealg.IndexByteString", "internal/bytealg.IndexString"], named := ["internal/bytealg.MaxLen"], apart := false, narrowed := true }
def QuotePlainUptoSaid : Prop := quotePlainUptoRow.holds Try.pinned (OpenSpec.upto quotePlainSpec)

/-- 'humpyardlaw02.QuoteUnits', WHERE WHAT IT READS IS OF BULK AT MOST 1048576: true; the input reads as it did. -/
def quoteUnitsUptoRow : OpenClaim := { program := "ytfkdepjioleakaa", sum := "4ff9f8fd829cf22254812620237f242ef1343ba57139b43e8df3de71d53d4fa2", func := "humpyard/humpyardlaw02.QuoteUnits", spec := "quoteUnits", inPlace := ["internal/abi.NoEscape", "internal/bytealg.IndexByteString", "internal/bytealg.IndexString"], named := ["internal/bytealg.MaxLen"], apart := false, narrowed := true }
def QuoteUnitsUptoSaid : Prop := quoteUnitsUptoRow.holds Try.pinned (OpenSpec.upto quoteUnitsSpec)

/-- 'humpyardlaw02.QuoteCut', WHERE WHAT IT READS IS OF BULK AT MOST 1048576: true; the input reads as it did. -/
def quoteCutUptoRow : OpenClaim := { program := "ytfkdepjioleakaa", sum := "4ff9f8fd829cf22254812620237f242ef1343ba57139b43e8df3de71d53d4fa2", func := "humpyard/humpyardlaw02.QuoteCut", spec := "quoteCut", inPlace := ["internal/abi.NoEscape", "internal/bytealg.IndexByteString", "internal/bytealg.IndexString"], named := ["internal/bytealg.MaxLen"], apart := false, narrowed := true }
def QuoteCutUptoSaid : Prop := quoteCutUptoRow.holds Try.pinned (OpenSpec.upto quoteCutSpec)

/-- 'humpyardlaw02.QuoteWhole', WHERE WHAT IT READS IS OF BULK AT MOST 1048576: true; the input reads as it did. -/
def quoteWholeUptoRow : OpenClaim := { program := "ytfkdepjioleakaa", sum := "4ff9f8fd829cf22254812620237f242ef1343ba57139b43e8df3de71d53d4fa2", func := "humpyard/humpyardlaw02.QuoteWhole", spec := "quoteWhole", inPlace := ["internal/abi.NoEscape", "internal/bytealg.IndexByteString", "internal/bytealg.IndexString"], named := ["internal/bytealg.MaxLen"], apart := false, narrowed := true }
def QuoteWholeUptoSaid : Prop := quoteWholeUptoRow.holds Try.pinned (OpenSpec.upto quoteWholeSpec)

end Rows
end Go.Proofs.Ytfkdepjioleakaa
