/-
  NARROWER THAN 'FOR EVERY INPUT', by the rows' own cells (each row's printed sentence says how): FieldTells: loops · FieldMakes: loops · FieldChecks: loops · FieldOrder: loops.
  DERIVED. THE GIVEN ROWS OF THIS SEAT. 5 by the template 'for every input the law returns true; each argument reads behind the call as it read before'; 0 by the template 'total and deterministic' (their statements: YtpkifkpodaoicaaTotals.lean).
  GIVEN WITH THE SEED: the statements are not yours to turn. If you find one false, say at which input.
  Laid BY PROGRAM, IN A SANDBOX (cutbox-rows.mjs): the forced cells as the released guide's own fill.sh prints them over the translation f5d7cf4c2dc51900… (all of the seat's roots in one cut). By AI agents, Wed Nov 11 2026. No macro, syntax, notation, axiom, sorry.
-/
import Derived.Test.YtpkifkpodaoicaaChecked
import GoSem.Claim
import GoSem.ClaimJoined
import GoSem.ClaimMapViews
import Derived.JoinedTies
import Derived.KernelRfl
namespace Go.Proofs.Ytpkifkpodaoicaa
/- THE CELL 'sum', in the pinned program and in every row, IS THE sha256 OF THE DUMP (.gsa) THAT YtpkifkpodaoicaaProg.lean LOADS. Nothing in Lean hashes anything: it is a label: what it is worth is what the hold of that sum in a sandbox is worth. -/
noncomputable def Try.pinned : Pinned := { name := "ytpkifkpodaoicaa", sum := "f5d7cf4c2dc5190044e8673f76393b01dd1f504b4bdf3bf7a587683d4dfcca3b", checked := Try.checked }
namespace Rows
def none {H : Type} : Left H := { results := [], args := [] }

/-- 'humpyardlaw05.FieldTells': WHATEVER THE INPUT: true; the input reads as it did. -/
def fieldTellsSpec : ChangeSpec := { name := "fieldTells", fn := fun _ => fun
  | [d1, d2, d3, d4, d5, d6] => { results := [.lit (.bool true)], args := [d1, d2, d3, d4, d5, d6] }
  | _ => none }
def fieldTellsRow : OpenClaim := { program := "ytpkifkpodaoicaa", sum := "f5d7cf4c2dc5190044e8673f76393b01dd1f504b4bdf3bf7a587683d4dfcca3b", func := "humpyard/humpyardlaw05.FieldTells", spec := "fieldTells", unfollowed := true, recurses := true, loops := true, apart := false }
def FieldTellsSaid : Prop := fieldTellsRow.holds Try.pinned (OpenSpec.ofChange fieldTellsSpec)

/-- ITS FALSE NEIGHBOUR: 'it returns false'. Refute it at one input. -/
def fieldTellsWrong : ChangeSpec := { name := "fieldTells", fn := fun _ => fun
  | [d1, d2, d3, d4, d5, d6] => { results := [.lit (.bool false)], args := [d1, d2, d3, d4, d5, d6] }
  | _ => none }
def FieldTellsWrongFalsely : Prop := fieldTellsRow.holds Try.pinned (OpenSpec.ofChange fieldTellsWrong)

/-- 'humpyardlaw05.FieldMakes': WHATEVER THE INPUT: true; the input reads as it did. -/
def fieldMakesSpec : ChangeSpec := { name := "fieldMakes", fn := fun _ => fun
  | [d1, d2, d3] => { results := [.lit (.bool true)], args := [d1, d2, d3] }
  | _ => none }
def fieldMakesRow : OpenClaim := { program := "ytpkifkpodaoicaa", sum := "f5d7cf4c2dc5190044e8673f76393b01dd1f504b4bdf3bf7a587683d4dfcca3b", func := "humpyard/humpyardlaw05.FieldMakes", spec := "fieldMakes", unfollowed := true, recurses := true, loops := true, apart := false }
def FieldMakesSaid : Prop := fieldMakesRow.holds Try.pinned (OpenSpec.ofChange fieldMakesSpec)

/-- ITS FALSE NEIGHBOUR: 'it returns false'. Refute it at one input. -/
def fieldMakesWrong : ChangeSpec := { name := "fieldMakes", fn := fun _ => fun
  | [d1, d2, d3] => { results := [.lit (.bool false)], args := [d1, d2, d3] }
  | _ => none }
def FieldMakesWrongFalsely : Prop := fieldMakesRow.holds Try.pinned (OpenSpec.ofChange fieldMakesWrong)

/-- 'humpyardlaw05.FieldChecks': WHATEVER THE INPUT: true; the input reads as it did. -/
def fieldChecksSpec : ChangeSpec := { name := "fieldChecks", fn := fun _ => fun
  | [d1, d2] => { results := [.lit (.bool true)], args := [d1, d2] }
  | _ => none }
def fieldChecksRow : OpenClaim := { program := "ytpkifkpodaoicaa", sum := "f5d7cf4c2dc5190044e8673f76393b01dd1f504b4bdf3bf7a587683d4dfcca3b", func := "humpyard/humpyardlaw05.FieldChecks", spec := "fieldChecks", unfollowed := true, recurses := true, loops := true, apart := false }
def FieldChecksSaid : Prop := fieldChecksRow.holds Try.pinned (OpenSpec.ofChange fieldChecksSpec)

/-- ITS FALSE NEIGHBOUR: 'it returns false'. Refute it at one input. -/
def fieldChecksWrong : ChangeSpec := { name := "fieldChecks", fn := fun _ => fun
  | [d1, d2] => { results := [.lit (.bool false)], args := [d1, d2] }
  | _ => none }
def FieldChecksWrongFalsely : Prop := fieldChecksRow.holds Try.pinned (OpenSpec.ofChange fieldChecksWrong)

/-- 'humpyardlaw05.FieldOrder': WHATEVER THE INPUT: true; the input reads as it did. -/
def fieldOrderSpec : ChangeSpec := { name := "fieldOrder", fn := fun _ => fun
  | [d1, d2, d3, d4] => { results := [.lit (.bool true)], args := [d1, d2, d3, d4] }
  | _ => none }
def fieldOrderRow : OpenClaim := { program := "ytpkifkpodaoicaa", sum := "f5d7cf4c2dc5190044e8673f76393b01dd1f504b4bdf3bf7a587683d4dfcca3b", func := "humpyard/humpyardlaw05.FieldOrder", spec := "fieldOrder", unfollowed := true, recurses := true, loops := true, apart := false }
def FieldOrderSaid : Prop := fieldOrderRow.holds Try.pinned (OpenSpec.ofChange fieldOrderSpec)

/-- ITS FALSE NEIGHBOUR: 'it returns false'. Refute it at one input. -/
def fieldOrderWrong : ChangeSpec := { name := "fieldOrder", fn := fun _ => fun
  | [d1, d2, d3, d4] => { results := [.lit (.bool false)], args := [d1, d2, d3, d4] }
  | _ => none }
def FieldOrderWrongFalsely : Prop := fieldOrderRow.holds Try.pinned (OpenSpec.ofChange fieldOrderWrong)

/-- 'humpyardlaw05.FieldMissing': WHATEVER THE INPUT: true; the input reads as it did. -/
def fieldMissingSpec : ChangeSpec := { name := "fieldMissing", fn := fun _ => fun
  | [d] => { results := [.lit (.bool true)], args := [d] }
  | _ => none }
def fieldMissingRow : OpenClaim := { program := "ytpkifkpodaoicaa", sum := "f5d7cf4c2dc5190044e8673f76393b01dd1f504b4bdf3bf7a587683d4dfcca3b", func := "humpyard/humpyardlaw05.FieldMissing", spec := "fieldMissing", unfollowed := true, recurses := true, apart := false }
def FieldMissingSaid : Prop := fieldMissingRow.holds Try.pinned (OpenSpec.ofChange fieldMissingSpec)

/-- ITS FALSE NEIGHBOUR: 'it returns false'. Refute it at one input. -/
def fieldMissingWrong : ChangeSpec := { name := "fieldMissing", fn := fun _ => fun
  | [d] => { results := [.lit (.bool false)], args := [d] }
  | _ => none }
def FieldMissingWrongFalsely : Prop := fieldMissingRow.holds Try.pinned (OpenSpec.ofChange fieldMissingWrong)

/- THE SECOND FORM. 'bulk': how many values and letters a reading holds, each counted each time it is reached (what is shared counts as often as it is met; a slice's spare places count too). A statement '..UptoSaid' is the law's where the arguments, and the package variables that the reading takes, are together of bulk at most 1048576: NARROWER than '..Said'. Prove '..Said' where nothing that the law and all that it calls make is longer than what came in: it says more and counts as full. Else prove '..UptoSaid'. A law counts once. -/
mutual
def uptoBulk {H : Type} : DataW H → Nat
  | .lit (.string bytes) => bytes.length + 1
  | .lit _ => 1
  | .nil => 1
  | .ptr d => uptoBulk d + 1
  | .slice elems spare => uptoBulkAll elems + uptoBulkAll spare + 1
  | .agg parts => uptoBulkAll parts + 1
  | .iface _ d => uptoBulk d + 1
  | .map entries => uptoBulkEntries entries + 1
  | .held _ => 1
def uptoBulkAll {H : Type} : List (DataW H) → Nat
  | [] => 0
  | d :: r => uptoBulk d + uptoBulkAll r
def uptoBulkEntries {H : Type} : List (Lit × DataW H) → Nat
  | [] => 0
  | x :: r => uptoBulkEntry x + uptoBulkEntries r
def uptoBulkEntry {H : Type} : Lit × DataW H → Nat
  | (.string bytes, d) => bytes.length + uptoBulk d + 1
  | (_, d) => uptoBulk d + 1
 end
def uptoSmall : (H : Type) → List (DataW H) → Bool := fun _ ds => decide (uptoBulkAll ds ≤ 1048576)
def OpenSpec.upto (s : _root_.Go.ChangeSpec) : _root_.Go.OpenSpec := { _root_.Go.OpenSpec.ofChange s with cond := some uptoSmall }

/-- 'humpyardlaw05.FieldTells', WHERE WHAT IT READS IS OF BULK AT MOST 1048576: true; the input reads as it did. -/
def fieldTellsUptoRow : OpenClaim := { program := "ytpkifkpodaoicaa", sum := "f5d7cf4c2dc5190044e8673f76393b01dd1f504b4bdf3bf7a587683d4dfcca3b", func := "humpyard/humpyardlaw05.FieldTells", spec := "fieldTells", unfollowed := true, recurses := true, loops := true, apart := false, narrowed := true }
def FieldTellsUptoSaid : Prop := fieldTellsUptoRow.holds Try.pinned (OpenSpec.upto fieldTellsSpec)

/-- 'humpyardlaw05.FieldMakes', WHERE WHAT IT READS IS OF BULK AT MOST 1048576: true; the input reads as it did. -/
def fieldMakesUptoRow : OpenClaim := { program := "ytpkifkpodaoicaa", sum := "f5d7cf4c2dc5190044e8673f76393b01dd1f504b4bdf3bf7a587683d4dfcca3b", func := "humpyard/humpyardlaw05.FieldMakes", spec := "fieldMakes", unfollowed := true, recurses := true, loops := true, apart := false, narrowed := true }
def FieldMakesUptoSaid : Prop := fieldMakesUptoRow.holds Try.pinned (OpenSpec.upto fieldMakesSpec)

/-- 'humpyardlaw05.FieldChecks', WHERE WHAT IT READS IS OF BULK AT MOST 1048576: true; the input reads as it did. -/
def fieldChecksUptoRow : OpenClaim := { program := "ytpkifkpodaoicaa", sum := "f5d7cf4c2dc5190044e8673f76393b01dd1f504b4bdf3bf7a587683d4dfcca3b", func := "humpyard/humpyardlaw05.FieldChecks", spec := "fieldChecks", unfollowed := true, recurses := true, loops := true, apart := false, narrowed := true }
def FieldChecksUptoSaid : Prop := fieldChecksUptoRow.holds Try.pinned (OpenSpec.upto fieldChecksSpec)

/-- 'humpyardlaw05.FieldOrder', WHERE WHAT IT READS IS OF BULK AT MOST 1048576: true; the input reads as it did. -/
def fieldOrderUptoRow : OpenClaim := { program := "ytpkifkpodaoicaa", sum := "f5d7cf4c2dc5190044e8673f76393b01dd1f504b4bdf3bf7a587683d4dfcca3b", func := "humpyard/humpyardlaw05.FieldOrder", spec := "fieldOrder", unfollowed := true, recurses := true, loops := true, apart := false, narrowed := true }
def FieldOrderUptoSaid : Prop := fieldOrderUptoRow.holds Try.pinned (OpenSpec.upto fieldOrderSpec)

/-- 'humpyardlaw05.FieldMissing', WHERE WHAT IT READS IS OF BULK AT MOST 1048576: true; the input reads as it did. -/
def fieldMissingUptoRow : OpenClaim := { program := "ytpkifkpodaoicaa", sum := "f5d7cf4c2dc5190044e8673f76393b01dd1f504b4bdf3bf7a587683d4dfcca3b", func := "humpyard/humpyardlaw05.FieldMissing", spec := "fieldMissing", unfollowed := true, recurses := true, apart := false, narrowed := true }
def FieldMissingUptoSaid : Prop := fieldMissingUptoRow.holds Try.pinned (OpenSpec.upto fieldMissingSpec)

end Rows
end Go.Proofs.Ytpkifkpodaoicaa
