/-
  No cell of these rows narrows 'for every input' (looked for: loops, veiled, ifaces, maps, wideKeys, modest, calm, conditions, laid).
  DERIVED. THE GIVEN ROWS OF THIS SEAT. 6 by the template 'for every input the law returns true; each argument reads behind the call as it read before'; 0 by the template 'total and deterministic' (their statements: YtnpbkjmlmdpggaaTotals.lean).
  GIVEN WITH THE SEED: the statements are not yours to turn. If you find one false, say at which input.
  Laid BY PROGRAM, IN A SANDBOX (cutbox-rows.mjs): the forced cells as the released guide's own fill.sh prints them over the translation 2f9ff21d672c98bd… (all of the seat's roots in one cut). By AI agents, Wed Nov 11 2026. No macro, syntax, notation, axiom, sorry.
-/
import Derived.Test.YtnpbkjmlmdpggaaChecked
import GoSem.Claim
import GoSem.ClaimJoined
import GoSem.ClaimMapViews
import Derived.JoinedTies
import Derived.KernelRfl
namespace Go.Proofs.Ytnpbkjmlmdpggaa
/- THE CELL 'sum', in the pinned program and in every row, IS THE sha256 OF THE DUMP (.gsa) THAT YtnpbkjmlmdpggaaProg.lean LOADS. Nothing in Lean hashes anything: it is a label: what it is worth is what the hold of that sum in a sandbox is worth. -/
noncomputable def Try.pinned : Pinned := { name := "ytnpbkjmlmdpggaa", sum := "2f9ff21d672c98bd14a7cf17b02e3cdabaaf40b7c2e0c00449ff1d83157328ef", checked := Try.checked }
namespace Rows
def none {H : Type} : Left H := { results := [], args := [] }

/-- 'humpyardlaw13.WalkTells': WHATEVER THE INPUT: true; the input reads as it did. -/
def walkTellsSpec : ChangeSpec := { name := "walkTells", fn := fun _ => fun
  | [d1, d2, d3, d4, d5, d6, d7, d8] => { results := [.lit (.bool true)], args := [d1, d2, d3, d4, d5, d6, d7, d8] }
  | _ => none }
def walkTellsRow : OpenClaim := { program := "ytnpbkjmlmdpggaa", sum := "2f9ff21d672c98bd14a7cf17b02e3cdabaaf40b7c2e0c00449ff1d83157328ef", func := "humpyard/humpyardlaw13.WalkTells", spec := "walkTells", unfollowed := true, recurses := true, apart := false }
def WalkTellsSaid : Prop := walkTellsRow.holds Try.pinned (OpenSpec.ofChange walkTellsSpec)

/-- ITS FALSE NEIGHBOUR: 'it returns false'. Refute it at one input. -/
def walkTellsWrong : ChangeSpec := { name := "walkTells", fn := fun _ => fun
  | [d1, d2, d3, d4, d5, d6, d7, d8] => { results := [.lit (.bool false)], args := [d1, d2, d3, d4, d5, d6, d7, d8] }
  | _ => none }
def WalkTellsWrongFalsely : Prop := walkTellsRow.holds Try.pinned (OpenSpec.ofChange walkTellsWrong)

/-- 'humpyardlaw13.WalkBase': WHATEVER THE INPUT: true; the input reads as it did. -/
def walkBaseSpec : ChangeSpec := { name := "walkBase", fn := fun _ => fun
  | [d1, d2, d3] => { results := [.lit (.bool true)], args := [d1, d2, d3] }
  | _ => none }
def walkBaseRow : OpenClaim := { program := "ytnpbkjmlmdpggaa", sum := "2f9ff21d672c98bd14a7cf17b02e3cdabaaf40b7c2e0c00449ff1d83157328ef", func := "humpyard/humpyardlaw13.WalkBase", spec := "walkBase", unfollowed := true, recurses := true, apart := false }
def WalkBaseSaid : Prop := walkBaseRow.holds Try.pinned (OpenSpec.ofChange walkBaseSpec)

/-- ITS FALSE NEIGHBOUR: 'it returns false'. Refute it at one input. -/
def walkBaseWrong : ChangeSpec := { name := "walkBase", fn := fun _ => fun
  | [d1, d2, d3] => { results := [.lit (.bool false)], args := [d1, d2, d3] }
  | _ => none }
def WalkBaseWrongFalsely : Prop := walkBaseRow.holds Try.pinned (OpenSpec.ofChange walkBaseWrong)

/-- 'humpyardlaw13.WalkJoins': WHATEVER THE INPUT: true; the input reads as it did. -/
def walkJoinsSpec : ChangeSpec := { name := "walkJoins", fn := fun _ => fun
  | [d1, d2, d3, d4] => { results := [.lit (.bool true)], args := [d1, d2, d3, d4] }
  | _ => none }
def walkJoinsRow : OpenClaim := { program := "ytnpbkjmlmdpggaa", sum := "2f9ff21d672c98bd14a7cf17b02e3cdabaaf40b7c2e0c00449ff1d83157328ef", func := "humpyard/humpyardlaw13.WalkJoins", spec := "walkJoins", unfollowed := true, recurses := true, apart := false }
def WalkJoinsSaid : Prop := walkJoinsRow.holds Try.pinned (OpenSpec.ofChange walkJoinsSpec)

/-- ITS FALSE NEIGHBOUR: 'it returns false'. Refute it at one input. -/
def walkJoinsWrong : ChangeSpec := { name := "walkJoins", fn := fun _ => fun
  | [d1, d2, d3, d4] => { results := [.lit (.bool false)], args := [d1, d2, d3, d4] }
  | _ => none }
def WalkJoinsWrongFalsely : Prop := walkJoinsRow.holds Try.pinned (OpenSpec.ofChange walkJoinsWrong)

/-- 'humpyardlaw13.WalkChecks': WHATEVER THE INPUT: true; the input reads as it did. -/
def walkChecksSpec : ChangeSpec := { name := "walkChecks", fn := fun _ => fun
  | [d1, d2, d3, d4] => { results := [.lit (.bool true)], args := [d1, d2, d3, d4] }
  | _ => none }
def walkChecksRow : OpenClaim := { program := "ytnpbkjmlmdpggaa", sum := "2f9ff21d672c98bd14a7cf17b02e3cdabaaf40b7c2e0c00449ff1d83157328ef", func := "humpyard/humpyardlaw13.WalkChecks", spec := "walkChecks", unfollowed := true, recurses := true, apart := false }
def WalkChecksSaid : Prop := walkChecksRow.holds Try.pinned (OpenSpec.ofChange walkChecksSpec)

/-- ITS FALSE NEIGHBOUR: 'it returns false'. Refute it at one input. -/
def walkChecksWrong : ChangeSpec := { name := "walkChecks", fn := fun _ => fun
  | [d1, d2, d3, d4] => { results := [.lit (.bool false)], args := [d1, d2, d3, d4] }
  | _ => none }
def WalkChecksWrongFalsely : Prop := walkChecksRow.holds Try.pinned (OpenSpec.ofChange walkChecksWrong)

/-- 'humpyardlaw13.WalkWrong': WHATEVER THE INPUT: true; the input reads as it did. -/
def walkWrongSpec : ChangeSpec := { name := "walkWrong", fn := fun _ => fun
  | [d1, d2, d3, d4] => { results := [.lit (.bool true)], args := [d1, d2, d3, d4] }
  | _ => none }
def walkWrongRow : OpenClaim := { program := "ytnpbkjmlmdpggaa", sum := "2f9ff21d672c98bd14a7cf17b02e3cdabaaf40b7c2e0c00449ff1d83157328ef", func := "humpyard/humpyardlaw13.WalkWrong", spec := "walkWrong", unfollowed := true, recurses := true, apart := false }
def WalkWrongSaid : Prop := walkWrongRow.holds Try.pinned (OpenSpec.ofChange walkWrongSpec)

/-- ITS FALSE NEIGHBOUR: 'it returns false'. Refute it at one input. -/
def walkWrongWrong : ChangeSpec := { name := "walkWrong", fn := fun _ => fun
  | [d1, d2, d3, d4] => { results := [.lit (.bool false)], args := [d1, d2, d3, d4] }
  | _ => none }
def WalkWrongWrongFalsely : Prop := walkWrongRow.holds Try.pinned (OpenSpec.ofChange walkWrongWrong)

/-- 'humpyardlaw13.WalkStops': WHATEVER THE INPUT: true; the input reads as it did. -/
def walkStopsSpec : ChangeSpec := { name := "walkStops", fn := fun _ => fun
  | [d1, d2, d3, d4] => { results := [.lit (.bool true)], args := [d1, d2, d3, d4] }
  | _ => none }
def walkStopsRow : OpenClaim := { program := "ytnpbkjmlmdpggaa", sum := "2f9ff21d672c98bd14a7cf17b02e3cdabaaf40b7c2e0c00449ff1d83157328ef", func := "humpyard/humpyardlaw13.WalkStops", spec := "walkStops", unfollowed := true, recurses := true, apart := false }
def WalkStopsSaid : Prop := walkStopsRow.holds Try.pinned (OpenSpec.ofChange walkStopsSpec)

/-- ITS FALSE NEIGHBOUR: 'it returns false'. Refute it at one input. -/
def walkStopsWrong : ChangeSpec := { name := "walkStops", fn := fun _ => fun
  | [d1, d2, d3, d4] => { results := [.lit (.bool false)], args := [d1, d2, d3, d4] }
  | _ => none }
def WalkStopsWrongFalsely : Prop := walkStopsRow.holds Try.pinned (OpenSpec.ofChange walkStopsWrong)

/- THE SECOND FORM. 'bulk': how many values and letters a reading holds, each counted each time it is reached (what is shared counts as often as it is met; a slice's spare places count too). A statement '..UptoSaid' is the law's where the arguments, and the package variables that the reading takes, are together of bulk at most 1048576: NARROWER than '..Said'. Prove '..Said' where nothing that the law and all that it calls make is longer than what came in: it says more and counts as full. Else prove '..UptoSaid'. A law counts once. -/
mutual
def uptoBulk {H : Type} : DataW H → Nat
  | .lit (.string bytes) => bytes.length + 1
  | .lit _ => 1
  | .nil => 1
  | .ptr d => uptoBulk d + 1
  | .slice elems spare => uptoBulkAll elems + uptoBulkAll spare + 1
  | .agg parts => uptoBulkAll parts + 1
  | .iface _ d => uptoBulk d + 1
  | .map entries => uptoBulkEntries entries + 1
  | .held _ => 1
def uptoBulkAll {H : Type} : List (DataW H) → Nat
  | [] => 0
  | d :: r => uptoBulk d + uptoBulkAll r
def uptoBulkEntries {H : Type} : List (Lit × DataW H) → Nat
  | [] => 0
  | x :: r => uptoBulkEntry x + uptoBulkEntries r
def uptoBulkEntry {H : Type} : Lit × DataW H → Nat
  | (.string bytes, d) => bytes.length + uptoBulk d + 1
  | (_, d) => uptoBulk d + 1
 end
def uptoSmall : (H : Type) → List (DataW H) → Bool := fun _ ds => decide (uptoBulkAll ds ≤ 1048576)
def OpenSpec.upto (s : _root_.Go.ChangeSpec) : _root_.Go.OpenSpec := { _root_.Go.OpenSpec.ofChange s with cond := some uptoSmall }

/-- 'humpyardlaw13.WalkTells', WHERE WHAT IT READS IS OF BULK AT MOST 1048576: true; the input reads as it did. -/
def walkTellsUptoRow : OpenClaim := { program := "ytnpbkjmlmdpggaa", sum := "2f9ff21d672c98bd14a7cf17b02e3cdabaaf40b7c2e0c00449ff1d83157328ef", func := "humpyard/humpyardlaw13.WalkTells", spec := "walkTells", unfollowed := true, recurses := true, apart := false, narrowed := true }
def WalkTellsUptoSaid : Prop := walkTellsUptoRow.holds Try.pinned (OpenSpec.upto walkTellsSpec)

/-- 'humpyardlaw13.WalkBase', WHERE WHAT IT READS IS OF BULK AT MOST 1048576: true; the input reads as it did. -/
def walkBaseUptoRow : OpenClaim := { program := "ytnpbkjmlmdpggaa", sum := "2f9ff21d672c98bd14a7cf17b02e3cdabaaf40b7c2e0c00449ff1d83157328ef", func := "humpyard/humpyardlaw13.WalkBase", spec := "walkBase", unfollowed := true, recurses := true, apart := false, narrowed := true }
def WalkBaseUptoSaid : Prop := walkBaseUptoRow.holds Try.pinned (OpenSpec.upto walkBaseSpec)

/-- 'humpyardlaw13.WalkJoins', WHERE WHAT IT READS IS OF BULK AT MOST 1048576: true; the input reads as it did. -/
def walkJoinsUptoRow : OpenClaim := { program := "ytnpbkjmlmdpggaa", sum := "2f9ff21d672c98bd14a7cf17b02e3cdabaaf40b7c2e0c00449ff1d83157328ef", func := "humpyard/humpyardlaw13.WalkJoins", spec := "walkJoins", unfollowed := true, recurses := true, apart := false, narrowed := true }
def WalkJoinsUptoSaid : Prop := walkJoinsUptoRow.holds Try.pinned (OpenSpec.upto walkJoinsSpec)

/-- 'humpyardlaw13.WalkChecks', WHERE WHAT IT READS IS OF BULK AT MOST 1048576: true; the input reads as it did. -/
def walkChecksUptoRow : OpenClaim := { program := "ytnpbkjmlmdpggaa", sum := "2f9ff21d672c98bd14a7cf17b02e3cdabaaf40b7c2e0c00449ff1d83157328ef", func := "humpyard/humpyardlaw13.WalkChecks", spec := "walkChecks", unfollowed := true, recurses := true, apart := false, narrowed := true }
def WalkChecksUptoSaid : Prop := walkChecksUptoRow.holds Try.pinned (OpenSpec.upto walkChecksSpec)

/-- 'humpyardlaw13.WalkWrong', WHERE WHAT IT READS IS OF BULK AT MOST 1048576: true; the input reads as it did. -/
def walkWrongUptoRow : OpenClaim := { program := "ytnpbkjmlmdpggaa", sum := "2f9ff21d672c98bd14a7cf17b02e3cdabaaf40b7c2e0c00449ff1d83157328ef", func := "humpyard/humpyardlaw13.WalkWrong", spec := "walkWrong", unfollowed := true, recurses := true, apart := false, narrowed := true }
def WalkWrongUptoSaid : Prop := walkWrongUptoRow.holds Try.pinned (OpenSpec.upto walkWrongSpec)

/-- 'humpyardlaw13.WalkStops', WHERE WHAT IT READS IS OF BULK AT MOST 1048576: true; the input reads as it did. -/
def walkStopsUptoRow : OpenClaim := { program := "ytnpbkjmlmdpggaa", sum := "2f9ff21d672c98bd14a7cf17b02e3cdabaaf40b7c2e0c00449ff1d83157328ef", func := "humpyard/humpyardlaw13.WalkStops", spec := "walkStops", unfollowed := true, recurses := true, apart := false, narrowed := true }
def WalkStopsUptoSaid : Prop := walkStopsUptoRow.holds Try.pinned (OpenSpec.upto walkStopsSpec)

end Rows
end Go.Proofs.Ytnpbkjmlmdpggaa
