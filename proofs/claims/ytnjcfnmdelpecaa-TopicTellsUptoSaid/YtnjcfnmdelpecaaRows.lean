/-
  No cell of these rows narrows 'for every input' (looked for: loops, veiled, ifaces, maps, wideKeys, modest, calm, conditions, laid).
  DERIVED. THE GIVEN ROWS OF THIS SEAT. 7 by the template 'for every input the law returns true; each argument reads behind the call as it read before'; 0 by the template 'total and deterministic' (their statements: YtnjcfnmdelpecaaTotals.lean).
  GIVEN WITH THE SEED: the statements are not yours to turn. If you find one false, say at which input.
  Laid BY PROGRAM, IN A SANDBOX (cutbox-rows.mjs): the forced cells as the released guide's own fill.sh prints them over the translation cef4b7a62d68ba2e… (all of the seat's roots in one cut). By AI agents, Wed Nov 11 2026. No macro, syntax, notation, axiom, sorry.
-/
import Derived.Test.YtnjcfnmdelpecaaChecked
import GoSem.Claim
import GoSem.ClaimJoined
import GoSem.ClaimMapViews
import Derived.JoinedTies
import Derived.KernelRfl
namespace Go.Proofs.Ytnjcfnmdelpecaa
/- THE CELL 'sum', in the pinned program and in every row, IS THE sha256 OF THE DUMP (.gsa) THAT YtnjcfnmdelpecaaProg.lean LOADS. Nothing in Lean hashes anything: it is a label: what it is worth is what the hold of that sum in a sandbox is worth. -/
noncomputable def Try.pinned : Pinned := { name := "ytnjcfnmdelpecaa", sum := "cef4b7a62d68ba2e817be0701fff5752276b8ecaf6f3d05ee557c81a4b15c88c", checked := Try.checked }
namespace Rows
def none {H : Type} : Left H := { results := [], args := [] }

/-- 'humpyardlaw07.TopicTells': WHATEVER THE INPUT: true; the input reads as it did. -/
def topicTellsSpec : ChangeSpec := { name := "topicTells", fn := fun _ => fun
  | [d1, d2, d3, d4, d5, d6, d7] => { results := [.lit (.bool true)], args := [d1, d2, d3, d4, d5, d6, d7] }
  | _ => none }
def topicTellsRow : OpenClaim := { program := "ytnjcfnmdelpecaa", sum := "cef4b7a62d68ba2e817be0701fff5752276b8ecaf6f3d05ee557c81a4b15c88c", func := "humpyard/humpyardlaw07.TopicTells", spec := "topicTells", inPlace := ["internal/bytealg.IndexByteString", "internal/bytealg.IndexString"], unfollowed := true, recurses := true, named := ["internal/bytealg.MaxLen"], apart := false }
def TopicTellsSaid : Prop := topicTellsRow.holds Try.pinned (OpenSpec.ofChange topicTellsSpec)

/-- ITS FALSE NEIGHBOUR: 'it returns false'. Refute it at one input. -/
def topicTellsWrong : ChangeSpec := { name := "topicTells", fn := fun _ => fun
  | [d1, d2, d3, d4, d5, d6, d7] => { results := [.lit (.bool false)], args := [d1, d2, d3, d4, d5, d6, d7] }
  | _ => none }
def TopicTellsWrongFalsely : Prop := topicTellsRow.holds Try.pinned (OpenSpec.ofChange topicTellsWrong)

/-- 'humpyardlaw07.TopicBack': WHATEVER THE INPUT: true; the input reads as it did. -/
def topicBackSpec : ChangeSpec := { name := "topicBack", fn := fun _ => fun
  | [d1, d2, d3, d4] => { results := [.lit (.bool true)], args := [d1, d2, d3, d4] }
  | _ => none }
def topicBackRow : OpenClaim := { program := "ytnjcfnmdelpecaa", sum := "cef4b7a62d68ba2e817be0701fff5752276b8ecaf6f3d05ee557c81a4b15c88c", func := "humpyard/humpyardlaw07.TopicBack", spec := "topicBack", inPlace := ["internal/bytealg.IndexByteString", "internal/bytealg.IndexString"], unfollowed := true, recurses := true, named := ["internal/bytealg.MaxLen"], apart := false }
def TopicBackSaid : Prop := topicBackRow.holds Try.pinned (OpenSpec.ofChange topicBackSpec)

/-- ITS FALSE NEIGHBOUR: 'it returns false'. Refute it at one input. -/
def topicBackWrong : ChangeSpec := { name := "topicBack", fn := fun _ => fun
  | [d1, d2, d3, d4] => { results := [.lit (.bool false)], args := [d1, d2, d3, d4] }
  | _ => none }
def TopicBackWrongFalsely : Prop := topicBackRow.holds Try.pinned (OpenSpec.ofChange topicBackWrong)

/-- 'humpyardlaw07.TopicForth': WHATEVER THE INPUT: true; the input reads as it did. -/
def topicForthSpec : ChangeSpec := { name := "topicForth", fn := fun _ => fun
  | [d1, d2, d3, d4, d5] => { results := [.lit (.bool true)], args := [d1, d2, d3, d4, d5] }
  | _ => none }
def topicForthRow : OpenClaim := { program := "ytnjcfnmdelpecaa", sum := "cef4b7a62d68ba2e817be0701fff5752276b8ecaf6f3d05ee557c81a4b15c88c", func := "humpyard/humpyardlaw07.TopicForth", spec := "topicForth", inPlace := ["internal/bytealg.IndexByteString", "internal/bytealg.IndexString"], unfollowed := true, recurses := true, named := ["internal/bytealg.MaxLen"], apart := false }
def TopicForthSaid : Prop := topicForthRow.holds Try.pinned (OpenSpec.ofChange topicForthSpec)

/-- ITS FALSE NEIGHBOUR: 'it returns false'. Refute it at one input. -/
def topicForthWrong : ChangeSpec := { name := "topicForth", fn := fun _ => fun
  | [d1, d2, d3, d4, d5] => { results := [.lit (.bool false)], args := [d1, d2, d3, d4, d5] }
  | _ => none }
def TopicForthWrongFalsely : Prop := topicForthRow.holds Try.pinned (OpenSpec.ofChange topicForthWrong)

/-- 'humpyardlaw07.TopicFilters': WHATEVER THE INPUT: true; the input reads as it did. -/
def topicFiltersSpec : ChangeSpec := { name := "topicFilters", fn := fun _ => fun
  | [d1, d2, d3, d4, d5] => { results := [.lit (.bool true)], args := [d1, d2, d3, d4, d5] }
  | _ => none }
def topicFiltersRow : OpenClaim := { program := "ytnjcfnmdelpecaa", sum := "cef4b7a62d68ba2e817be0701fff5752276b8ecaf6f3d05ee557c81a4b15c88c", func := "humpyard/humpyardlaw07.TopicFilters", spec := "topicFilters", inPlace := ["internal/bytealg.IndexByteString", "internal/bytealg.IndexString"], unfollowed := true, recurses := true, named := ["internal/bytealg.MaxLen"], apart := false }
def TopicFiltersSaid : Prop := topicFiltersRow.holds Try.pinned (OpenSpec.ofChange topicFiltersSpec)

/-- ITS FALSE NEIGHBOUR: 'it returns false'. Refute it at one input. -/
def topicFiltersWrong : ChangeSpec := { name := "topicFilters", fn := fun _ => fun
  | [d1, d2, d3, d4, d5] => { results := [.lit (.bool false)], args := [d1, d2, d3, d4, d5] }
  | _ => none }
def TopicFiltersWrongFalsely : Prop := topicFiltersRow.holds Try.pinned (OpenSpec.ofChange topicFiltersWrong)

/-- 'humpyardlaw07.TopicNames': WHATEVER THE INPUT: true; the input reads as it did. -/
def topicNamesSpec : ChangeSpec := { name := "topicNames", fn := fun _ => fun
  | [d1, d2, d3] => { results := [.lit (.bool true)], args := [d1, d2, d3] }
  | _ => none }
def topicNamesRow : OpenClaim := { program := "ytnjcfnmdelpecaa", sum := "cef4b7a62d68ba2e817be0701fff5752276b8ecaf6f3d05ee557c81a4b15c88c", func := "humpyard/humpyardlaw07.TopicNames", spec := "topicNames", inPlace := ["internal/bytealg.IndexByteString", "internal/bytealg.IndexString"], unfollowed := true, recurses := true, named := ["internal/bytealg.MaxLen"], apart := false }
def TopicNamesSaid : Prop := topicNamesRow.holds Try.pinned (OpenSpec.ofChange topicNamesSpec)

/-- ITS FALSE NEIGHBOUR: 'it returns false'. Refute it at one input. -/
def topicNamesWrong : ChangeSpec := { name := "topicNames", fn := fun _ => fun
  | [d1, d2, d3] => { results := [.lit (.bool false)], args := [d1, d2, d3] }
  | _ => none }
def TopicNamesWrongFalsely : Prop := topicNamesRow.holds Try.pinned (OpenSpec.ofChange topicNamesWrong)

/-- 'humpyardlaw07.TopicApart': WHATEVER THE INPUT: true; the input reads as it did. -/
def topicApartSpec : ChangeSpec := { name := "topicApart", fn := fun _ => fun
  | [d1, d2, d3, d4] => { results := [.lit (.bool true)], args := [d1, d2, d3, d4] }
  | _ => none }
def topicApartRow : OpenClaim := { program := "ytnjcfnmdelpecaa", sum := "cef4b7a62d68ba2e817be0701fff5752276b8ecaf6f3d05ee557c81a4b15c88c", func := "humpyard/humpyardlaw07.TopicApart", spec := "topicApart", inPlace := ["internal/bytealg.IndexByteString", "internal/bytealg.IndexString"], unfollowed := true, recurses := true, named := ["internal/bytealg.MaxLen"], apart := false }
def TopicApartSaid : Prop := topicApartRow.holds Try.pinned (OpenSpec.ofChange topicApartSpec)

/-- ITS FALSE NEIGHBOUR: 'it returns false'. Refute it at one input. -/
def topicApartWrong : ChangeSpec := { name := "topicApart", fn := fun _ => fun
  | [d1, d2, d3, d4] => { results := [.lit (.bool false)], args := [d1, d2, d3, d4] }
  | _ => none }
def TopicApartWrongFalsely : Prop := topicApartRow.holds Try.pinned (OpenSpec.ofChange topicApartWrong)

/-- 'humpyardlaw07.TopicParts': WHATEVER THE INPUT: true; the input reads as it did. -/
def topicPartsSpec : ChangeSpec := { name := "topicParts", fn := fun _ => fun
  | [d1, d2, d3, d4] => { results := [.lit (.bool true)], args := [d1, d2, d3, d4] }
  | _ => none }
def topicPartsRow : OpenClaim := { program := "ytnjcfnmdelpecaa", sum := "cef4b7a62d68ba2e817be0701fff5752276b8ecaf6f3d05ee557c81a4b15c88c", func := "humpyard/humpyardlaw07.TopicParts", spec := "topicParts", inPlace := ["internal/bytealg.IndexByteString", "internal/bytealg.IndexString"], unfollowed := true, recurses := true, named := ["internal/bytealg.MaxLen"], apart := false }
def TopicPartsSaid : Prop := topicPartsRow.holds Try.pinned (OpenSpec.ofChange topicPartsSpec)

/-- ITS FALSE NEIGHBOUR: 'it returns false'. Refute it at one input. -/
def topicPartsWrong : ChangeSpec := { name := "topicParts", fn := fun _ => fun
  | [d1, d2, d3, d4] => { results := [.lit (.bool false)], args := [d1, d2, d3, d4] }
  | _ => none }
def TopicPartsWrongFalsely : Prop := topicPartsRow.holds Try.pinned (OpenSpec.ofChange topicPartsWrong)

/- THE SECOND FORM. 'bulk': how many values and letters a reading holds, each counted each time it is reached (what is shared counts as often as it is met; a slice's spare places count too). A statement '..UptoSaid' is the law's where the arguments, and the package variables that the reading takes, are together of bulk at most 1048576: NARROWER than '..Said'. Prove '..Said' where nothing that the law and all that it calls make is longer than what came in: it says more and counts as full. Else prove '..UptoSaid'. A law counts once. -/
mutual
def uptoBulk {H : Type} : DataW H → Nat
  | .lit (.string bytes) => bytes.length + 1
  | .lit _ => 1
  | .nil => 1
  | .ptr d => uptoBulk d + 1
  | .slice elems spare => uptoBulkAll elems + uptoBulkAll spare + 1
  | .agg parts => uptoBulkAll parts + 1
  | .iface _ d => uptoBulk d + 1
  | .map entries => uptoBulkEntries entries + 1
  | .held _ => 1
def uptoBulkAll {H : Type} : List (DataW H) → Nat
  | [] => 0
  | d :: r => uptoBulk d + uptoBulkAll r
def uptoBulkEntries {H : Type} : List (Lit × DataW H) → Nat
  | [] => 0
  | x :: r => uptoBulkEntry x + uptoBulkEntries r
def uptoBulkEntry {H : Type} : Lit × DataW H → Nat
  | (.string bytes, d) => bytes.length + uptoBulk d + 1
  | (_, d) => uptoBulk d + 1
 end
def uptoSmall : (H : Type) → List (DataW H) → Bool := fun _ ds => decide (uptoBulkAll ds ≤ 1048576)
def OpenSpec.upto (s : _root_.Go.ChangeSpec) : _root_.Go.OpenSpec := { _root_.Go.OpenSpec.ofChange s with cond := some uptoSmall }

/-- 'humpyardlaw07.TopicTells', WHERE WHAT IT READS IS OF BULK AT MOST 1048576: true; the input reads as it did. -/
def topicTellsUptoRow : OpenClaim := { program := "ytnjcfnmdelpecaa", sum := "cef4b7a62d68ba2e817be0701fff5752276b8ecaf6f3d05ee557c81a4b15c88c", func := "humpyard/humpyardlaw07.TopicTells", spec := "topicTells", inPlace := ["internal/bytealg.IndexByteString", "internal/bytealg.IndexString"], unfollowed := true, recurses := true, named := ["internal/bytealg.MaxLen"], apart := false, narrowed := true }
def TopicTellsUptoSaid : Prop := topicTellsUptoRow.holds Try.pinned (OpenSpec.upto topicTellsSpec)

/-- 'humpyardlaw07.TopicBack', WHERE WHAT IT READS IS OF BULK AT MOST 1048576: true; the input reads as it did. -/
def topicBackUptoRow : OpenClaim := { program := "ytnjcfnmdelpecaa", sum := "cef4b7a62d68ba2e817be0701fff5752276b8ecaf6f3d05ee557c81a4b15c88c", func := "humpyard/humpyardlaw07.TopicBack", spec := "topicBack", inPlace := ["internal/bytealg.IndexByteString", "internal/bytealg.IndexString"], unfollowed := true, recurses := true, named := ["internal/bytealg.MaxLen"], apart := false, narrowed := true }
def TopicBackUptoSaid : Prop := topicBackUptoRow.holds Try.pinned (OpenSpec.upto topicBackSpec)

/-- 'humpyardlaw07.TopicForth', WHERE WHAT IT READS IS OF BULK AT MOST 1048576: true; the input reads as it did. -/
def topicForthUptoRow : OpenClaim := { program := "ytnjcfnmdelpecaa", sum := "cef4b7a62d68ba2e817be0701fff5752276b8ecaf6f3d05ee557c81a4b15c88c", func := "humpyard/humpyardlaw07.TopicForth", spec := "topicForth", inPlace := ["internal/bytealg.IndexByteString", "internal/bytealg.IndexString"], unfollowed := true, recurses := true, named := ["internal/bytealg.MaxLen"], apart := false, narrowed := true }
def TopicForthUptoSaid : Prop := topicForthUptoRow.holds Try.pinned (OpenSpec.upto topicForthSpec)

/-- 'humpyardlaw07.TopicFilters', WHERE WHAT IT READS IS OF BULK AT MOST 1048576: true; the input reads as it did. -/
def topicFiltersUptoRow : OpenClaim := { program := "ytnjcfnmdelpecaa", sum := "cef4b7a62d68ba2e817be0701fff5752276b8ecaf6f3d05ee557c81a4b15c88c", func := "humpyard/humpyardlaw07.TopicFilters", spec := "topicFilters", inPlace := ["internal/bytealg.IndexByteString", "internal/bytealg.IndexString"], unfollowed := true, recurses := true, named := ["internal/bytealg.MaxLen"], apart := false, narrowed := true }
def TopicFiltersUptoSaid : Prop := topicFiltersUptoRow.holds Try.pinned (OpenSpec.upto topicFiltersSpec)

/-- 'humpyardlaw07.TopicNames', WHERE WHAT IT READS IS OF BULK AT MOST 1048576: true; the input reads as it did. -/
def topicNamesUptoRow : OpenClaim := { program := "ytnjcfnmdelpecaa", sum := "cef4b7a62d68ba2e817be0701fff5752276b8ecaf6f3d05ee557c81a4b15c88c", func := "humpyard/humpyardlaw07.TopicNames", spec := "topicNames", inPlace := ["internal/bytealg.IndexByteString", "internal/bytealg.IndexString"], unfollowed := true, recurses := true, named := ["internal/bytealg.MaxLen"], apart := false, narrowed := true }
def TopicNamesUptoSaid : Prop := topicNamesUptoRow.holds Try.pinned (OpenSpec.upto topicNamesSpec)

/-- 'humpyardlaw07.TopicApart', WHERE WHAT IT READS IS OF BULK AT MOST 1048576: true; the input reads as it did. -/
def topicApartUptoRow : OpenClaim := { program := "ytnjcfnmdelpecaa", sum := "cef4b7a62d68ba2e817be0701fff5752276b8ecaf6f3d05ee557c81a4b15c88c", func := "humpyard/humpyardlaw07.TopicApart", spec := "topicApart", inPlace := ["internal/bytealg.IndexByteString", "internal/bytealg.IndexString"], unfollowed := true, recurses := true, named := ["internal/bytealg.MaxLen"], apart := false, narrowed := true }
def TopicApartUptoSaid : Prop := topicApartUptoRow.holds Try.pinned (OpenSpec.upto topicApartSpec)

/-- 'humpyardlaw07.TopicParts', WHERE WHAT IT READS IS OF BULK AT MOST 1048576: true; the input reads as it did. -/
def topicPartsUptoRow : OpenClaim := { program := "ytnjcfnmdelpecaa", sum := "cef4b7a62d68ba2e817be0701fff5752276b8ecaf6f3d05ee557c81a4b15c88c", func := "humpyard/humpyardlaw07.TopicParts", spec := "topicParts", inPlace := ["internal/bytealg.IndexByteString", "internal/bytealg.IndexString"], unfollowed := true, recurses := true, named := ["internal/bytealg.MaxLen"], apart := false, narrowed := true }
def TopicPartsUptoSaid : Prop := topicPartsUptoRow.holds Try.pinned (OpenSpec.upto topicPartsSpec)

end Rows
end Go.Proofs.Ytnjcfnmdelpecaa
