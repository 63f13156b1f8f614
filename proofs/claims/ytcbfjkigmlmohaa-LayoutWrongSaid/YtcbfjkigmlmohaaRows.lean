/-
  No cell of these rows narrows 'for every input' (looked for: loops, veiled, ifaces, maps, wideKeys, modest, calm, conditions, laid).
  DERIVED. THE GIVEN ROWS OF THIS SEAT. 7 by the template 'for every input the law returns true; each argument reads behind the call as it read before'; 0 by the template 'total and deterministic' (their statements: YtcbfjkigmlmohaaTotals.lean).
  GIVEN WITH THE SEED: the statements are not yours to turn. If you find one false, say at which input.
  Laid BY PROGRAM, IN A SANDBOX (cutbox-rows.mjs): the forced cells as the released guide's own fill.sh prints them over the translation 719866869025347d… (all of the seat's roots in one cut). By AI agents, Wed Nov 11 2026. No macro, syntax, notation, axiom, sorry.
-/
import Derived.Test.YtcbfjkigmlmohaaChecked
import GoSem.Claim
import GoSem.ClaimJoined
import GoSem.ClaimMapViews
import Derived.JoinedTies
import Derived.KernelRfl
namespace Go.Proofs.Ytcbfjkigmlmohaa
/- THE CELL 'sum', in the pinned program and in every row, IS THE sha256 OF THE DUMP (.gsa) THAT YtcbfjkigmlmohaaProg.lean LOADS. Nothing in Lean hashes anything: it is a label: what it is worth is what the hold of that sum in a sandbox is worth. -/
noncomputable def Try.pinned : Pinned := { name := "ytcbfjkigmlmohaa", sum := "719866869025347db32c521fba6a5724a03dd51db3e2a93ee2b1c39d0a7bd9c1", checked := Try.checked }
namespace Rows
def none {H : Type} : Left H := { results := [], args := [] }

/-- 'humpyardlaw11.LayoutTells': WHATEVER THE INPUT: true; the input reads as it did. -/
def layoutTellsSpec : ChangeSpec := { name := "layoutTells", fn := fun _ => fun
  | [d1, d2, d3, d4, d5, d6] => { results := [.lit (.bool true)], args := [d1, d2, d3, d4, d5, d6] }
  | _ => none }
def layoutTellsRow : OpenClaim := { program := "ytcbfjkigmlmohaa", sum := "719866869025347db32c521fba6a5724a03dd51db3e2a93ee2b1c39d0a7bd9c1", func := "humpyard/humpyardlaw11.LayoutTells", spec := "layoutTells", apart := false }
def LayoutTellsSaid : Prop := layoutTellsRow.holds Try.pinned (OpenSpec.ofChange layoutTellsSpec)

/-- ITS FALSE NEIGHBOUR: 'it returns false'. Refute it at one input. -/
def layoutTellsWrong : ChangeSpec := { name := "layoutTells", fn := fun _ => fun
  | [d1, d2, d3, d4, d5, d6] => { results := [.lit (.bool false)], args := [d1, d2, d3, d4, d5, d6] }
  | _ => none }
def LayoutTellsWrongFalsely : Prop := layoutTellsRow.holds Try.pinned (OpenSpec.ofChange layoutTellsWrong)

/-- 'humpyardlaw11.LayoutClosed': WHATEVER THE INPUT: true; the input reads as it did. -/
def layoutClosedSpec : ChangeSpec := { name := "layoutClosed", fn := fun _ => fun
  | [d1, d2, d3, d4] => { results := [.lit (.bool true)], args := [d1, d2, d3, d4] }
  | _ => none }
def layoutClosedRow : OpenClaim := { program := "ytcbfjkigmlmohaa", sum := "719866869025347db32c521fba6a5724a03dd51db3e2a93ee2b1c39d0a7bd9c1", func := "humpyard/humpyardlaw11.LayoutClosed", spec := "layoutClosed", apart := false }
def LayoutClosedSaid : Prop := layoutClosedRow.holds Try.pinned (OpenSpec.ofChange layoutClosedSpec)

/-- ITS FALSE NEIGHBOUR: 'it returns false'. Refute it at one input. -/
def layoutClosedWrong : ChangeSpec := { name := "layoutClosed", fn := fun _ => fun
  | [d1, d2, d3, d4] => { results := [.lit (.bool false)], args := [d1, d2, d3, d4] }
  | _ => none }
def LayoutClosedWrongFalsely : Prop := layoutClosedRow.holds Try.pinned (OpenSpec.ofChange layoutClosedWrong)

/-- 'humpyardlaw11.LayoutMore': WHATEVER THE INPUT: true; the input reads as it did. -/
def layoutMoreSpec : ChangeSpec := { name := "layoutMore", fn := fun _ => fun
  | [d1, d2, d3, d4, d5] => { results := [.lit (.bool true)], args := [d1, d2, d3, d4, d5] }
  | _ => none }
def layoutMoreRow : OpenClaim := { program := "ytcbfjkigmlmohaa", sum := "719866869025347db32c521fba6a5724a03dd51db3e2a93ee2b1c39d0a7bd9c1", func := "humpyard/humpyardlaw11.LayoutMore", spec := "layoutMore", apart := false }
def LayoutMoreSaid : Prop := layoutMoreRow.holds Try.pinned (OpenSpec.ofChange layoutMoreSpec)

/-- ITS FALSE NEIGHBOUR: 'it returns false'. Refute it at one input. -/
def layoutMoreWrong : ChangeSpec := { name := "layoutMore", fn := fun _ => fun
  | [d1, d2, d3, d4, d5] => { results := [.lit (.bool false)], args := [d1, d2, d3, d4, d5] }
  | _ => none }
def LayoutMoreWrongFalsely : Prop := layoutMoreRow.holds Try.pinned (OpenSpec.ofChange layoutMoreWrong)

/-- 'humpyardlaw11.LayoutStrong': WHATEVER THE INPUT: true; the input reads as it did. -/
def layoutStrongSpec : ChangeSpec := { name := "layoutStrong", fn := fun _ => fun
  | [d1, d2] => { results := [.lit (.bool true)], args := [d1, d2] }
  | _ => none }
def layoutStrongRow : OpenClaim := { program := "ytcbfjkigmlmohaa", sum := "719866869025347db32c521fba6a5724a03dd51db3e2a93ee2b1c39d0a7bd9c1", func := "humpyard/humpyardlaw11.LayoutStrong", spec := "layoutStrong", apart := false }
def LayoutStrongSaid : Prop := layoutStrongRow.holds Try.pinned (OpenSpec.ofChange layoutStrongSpec)

/-- ITS FALSE NEIGHBOUR: 'it returns false'. Refute it at one input. -/
def layoutStrongWrong : ChangeSpec := { name := "layoutStrong", fn := fun _ => fun
  | [d1, d2] => { results := [.lit (.bool false)], args := [d1, d2] }
  | _ => none }
def LayoutStrongWrongFalsely : Prop := layoutStrongRow.holds Try.pinned (OpenSpec.ofChange layoutStrongWrong)

/-- 'humpyardlaw11.LayoutEdges': WHATEVER THE INPUT: true; the input reads as it did. -/
def layoutEdgesSpec : ChangeSpec := { name := "layoutEdges", fn := fun _ => fun
  | [d1, d2] => { results := [.lit (.bool true)], args := [d1, d2] }
  | _ => none }
def layoutEdgesRow : OpenClaim := { program := "ytcbfjkigmlmohaa", sum := "719866869025347db32c521fba6a5724a03dd51db3e2a93ee2b1c39d0a7bd9c1", func := "humpyard/humpyardlaw11.LayoutEdges", spec := "layoutEdges", apart := false }
def LayoutEdgesSaid : Prop := layoutEdgesRow.holds Try.pinned (OpenSpec.ofChange layoutEdgesSpec)

/-- ITS FALSE NEIGHBOUR: 'it returns false'. Refute it at one input. -/
def layoutEdgesWrong : ChangeSpec := { name := "layoutEdges", fn := fun _ => fun
  | [d1, d2] => { results := [.lit (.bool false)], args := [d1, d2] }
  | _ => none }
def LayoutEdgesWrongFalsely : Prop := layoutEdgesRow.holds Try.pinned (OpenSpec.ofChange layoutEdgesWrong)

/-- 'humpyardlaw11.LayoutWrong': WHATEVER THE INPUT: true; the input reads as it did. -/
def layoutWrongSpec : ChangeSpec := { name := "layoutWrong", fn := fun _ => fun
  | [d1, d2, d3] => { results := [.lit (.bool true)], args := [d1, d2, d3] }
  | _ => none }
def layoutWrongRow : OpenClaim := { program := "ytcbfjkigmlmohaa", sum := "719866869025347db32c521fba6a5724a03dd51db3e2a93ee2b1c39d0a7bd9c1", func := "humpyard/humpyardlaw11.LayoutWrong", spec := "layoutWrong", apart := false }
def LayoutWrongSaid : Prop := layoutWrongRow.holds Try.pinned (OpenSpec.ofChange layoutWrongSpec)

/-- ITS FALSE NEIGHBOUR: 'it returns false'. Refute it at one input. -/
def layoutWrongWrong : ChangeSpec := { name := "layoutWrong", fn := fun _ => fun
  | [d1, d2, d3] => { results := [.lit (.bool false)], args := [d1, d2, d3] }
  | _ => none }
def LayoutWrongWrongFalsely : Prop := layoutWrongRow.holds Try.pinned (OpenSpec.ofChange layoutWrongWrong)

/-- 'humpyardlaw11.LayoutTurned': WHATEVER THE INPUT: true; the input reads as it did. -/
def layoutTurnedSpec : ChangeSpec := { name := "layoutTurned", fn := fun _ => fun
  | [d1, d2, d3, d4] => { results := [.lit (.bool true)], args := [d1, d2, d3, d4] }
  | _ => none }
def layoutTurnedRow : OpenClaim := { program := "ytcbfjkigmlmohaa", sum := "719866869025347db32c521fba6a5724a03dd51db3e2a93ee2b1c39d0a7bd9c1", func := "humpyard/humpyardlaw11.LayoutTurned", spec := "layoutTurned", apart := false }
def LayoutTurnedSaid : Prop := layoutTurnedRow.holds Try.pinned (OpenSpec.ofChange layoutTurnedSpec)

/-- ITS FALSE NEIGHBOUR: 'it returns false'. Refute it at one input. -/
def layoutTurnedWrong : ChangeSpec := { name := "layoutTurned", fn := fun _ => fun
  | [d1, d2, d3, d4] => { results := [.lit (.bool false)], args := [d1, d2, d3, d4] }
  | _ => none }
def LayoutTurnedWrongFalsely : Prop := layoutTurnedRow.holds Try.pinned (OpenSpec.ofChange layoutTurnedWrong)

/- THE SECOND FORM. 'bulk': how many values and letters a reading holds, each counted each time it is reached (what is shared counts as often as it is met; a slice's spare places count too). A statement '..UptoSaid' is the law's where the arguments, and the package variables that the reading takes, are together of bulk at most 1048576: NARROWER than '..Said'. Prove '..Said' where nothing that the law and all that it calls make is longer than what came in: it says more and counts as full. Else prove '..UptoSaid'. A law counts once. -/
mutual
def uptoBulk {H : Type} : DataW H → Nat
  | .lit (.string bytes) => bytes.length + 1
  | .lit _ => 1
  | .nil => 1
  | .ptr d => uptoBulk d + 1
  | .slice elems spare => uptoBulkAll elems + uptoBulkAll spare + 1
  | .agg parts => uptoBulkAll parts + 1
  | .iface _ d => uptoBulk d + 1
  | .map entries => uptoBulkEntries entries + 1
  | .held _ => 1
def uptoBulkAll {H : Type} : List (DataW H) → Nat
  | [] => 0
  | d :: r => uptoBulk d + uptoBulkAll r
def uptoBulkEntries {H : Type} : List (Lit × DataW H) → Nat
  | [] => 0
  | x :: r => uptoBulkEntry x + uptoBulkEntries r
def uptoBulkEntry {H : Type} : Lit × DataW H → Nat
  | (.string bytes, d) => bytes.length + uptoBulk d + 1
  | (_, d) => uptoBulk d + 1
 end
def uptoSmall : (H : Type) → List (DataW H) → Bool := fun _ ds => decide (uptoBulkAll ds ≤ 1048576)
def OpenSpec.upto (s : _root_.Go.ChangeSpec) : _root_.Go.OpenSpec := { _root_.Go.OpenSpec.ofChange s with cond := some uptoSmall }

/-- 'humpyardlaw11.LayoutTells', WHERE WHAT IT READS IS OF BULK AT MOST 1048576: true; the input reads as it did. -/
def layoutTellsUptoRow : OpenClaim := { program := "ytcbfjkigmlmohaa", sum := "719866869025347db32c521fba6a5724a03dd51db3e2a93ee2b1c39d0a7bd9c1", func := "humpyard/humpyardlaw11.LayoutTells", spec := "layoutTells", apart := false, narrowed := true }
def LayoutTellsUptoSaid : Prop := layoutTellsUptoRow.holds Try.pinned (OpenSpec.upto layoutTellsSpec)

/-- 'humpyardlaw11.LayoutClosed', WHERE WHAT IT READS IS OF BULK AT MOST 1048576: true; the input reads as it did. -/
def layoutClosedUptoRow : OpenClaim := { program := "ytcbfjkigmlmohaa", sum := "719866869025347db32c521fba6a5724a03dd51db3e2a93ee2b1c39d0a7bd9c1", func := "humpyard/humpyardlaw11.LayoutClosed", spec := "layoutClosed", apart := false, narrowed := true }
def LayoutClosedUptoSaid : Prop := layoutClosedUptoRow.holds Try.pinned (OpenSpec.upto layoutClosedSpec)

/-- 'humpyardlaw11.LayoutMore', WHERE WHAT IT READS IS OF BULK AT MOST 1048576: true; the input reads as it did. -/
def layoutMoreUptoRow : OpenClaim := { program := "ytcbfjkigmlmohaa", sum := "719866869025347db32c521fba6a5724a03dd51db3e2a93ee2b1c39d0a7bd9c1", func := "humpyard/humpyardlaw11.LayoutMore", spec := "layoutMore", apart := false, narrowed := true }
def LayoutMoreUptoSaid : Prop := layoutMoreUptoRow.holds Try.pinned (OpenSpec.upto layoutMoreSpec)

/-- 'humpyardlaw11.LayoutStrong', WHERE WHAT IT READS IS OF BULK AT MOST 1048576: true; the input reads as it did. -/
def layoutStrongUptoRow : OpenClaim := { program := "ytcbfjkigmlmohaa", sum := "719866869025347db32c521fba6a5724a03dd51db3e2a93ee2b1c39d0a7bd9c1", func := "humpyard/humpyardlaw11.LayoutStrong", spec := "layoutStrong", apart := false, narrowed := true }
def LayoutStrongUptoSaid : Prop := layoutStrongUptoRow.holds Try.pinned (OpenSpec.upto layoutStrongSpec)

/-- 'humpyardlaw11.LayoutEdges', WHERE WHAT IT READS IS OF BULK AT MOST 1048576: true; the input reads as it did. -/
def layoutEdgesUptoRow : OpenClaim := { program := "ytcbfjkigmlmohaa", sum := "719866869025347db32c521fba6a5724a03dd51db3e2a93ee2b1c39d0a7bd9c1", func := "humpyard/humpyardlaw11.LayoutEdges", spec := "layoutEdges", apart := false, narrowed := true }
def LayoutEdgesUptoSaid : Prop := layoutEdgesUptoRow.holds Try.pinned (OpenSpec.upto layoutEdgesSpec)

/-- 'humpyardlaw11.LayoutWrong', WHERE WHAT IT READS IS OF BULK AT MOST 1048576: true; the input reads as it did. -/
def layoutWrongUptoRow : OpenClaim := { program := "ytcbfjkigmlmohaa", sum := "719866869025347db32c521fba6a5724a03dd51db3e2a93ee2b1c39d0a7bd9c1", func := "humpyard/humpyardlaw11.LayoutWrong", spec := "layoutWrong", apart := false, narrowed := true }
def LayoutWrongUptoSaid : Prop := layoutWrongUptoRow.holds Try.pinned (OpenSpec.upto layoutWrongSpec)

/-- 'humpyardlaw11.LayoutTurned', WHERE WHAT IT READS IS OF BULK AT MOST 1048576: true; the input reads as it did. -/
def layoutTurnedUptoRow : OpenClaim := { program := "ytcbfjkigmlmohaa", sum := "719866869025347db32c521fba6a5724a03dd51db3e2a93ee2b1c39d0a7bd9c1", func := "humpyard/humpyardlaw11.LayoutTurned", spec := "layoutTurned", apart := false, narrowed := true }
def LayoutTurnedUptoSaid : Prop := layoutTurnedUptoRow.holds Try.pinned (OpenSpec.upto layoutTurnedSpec)

end Rows
end Go.Proofs.Ytcbfjkigmlmohaa
