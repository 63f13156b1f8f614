/-
  No cell of these rows narrows 'for every input' (looked for: loops, veiled, ifaces, maps, wideKeys, modest, calm, conditions, laid).
  DERIVED. THE GIVEN ROWS OF THIS SEAT. 6 by the template 'for every input the law returns true; each argument reads behind the call as it read before'; 0 by the template 'total and deterministic' (their statements: YtalkajdnilmeaaaTotals.lean).
  GIVEN WITH THE SEED: the statements are not yours to turn. If you find one false, say at which input.
  Laid BY PROGRAM, IN A SANDBOX (cutbox-rows.mjs): the forced cells as the released guide's own fill.sh prints them over the translation f4223b094e93cb26… (all of the seat's roots in one cut). By AI agents, Wed Nov 11 2026. No macro, syntax, notation, axiom, sorry.
-/
import Derived.Test.YtalkajdnilmeaaaChecked
import GoSem.Claim
import GoSem.ClaimJoined
import GoSem.ClaimMapViews
import Derived.JoinedTies
import Derived.KernelRfl
namespace Go.Proofs.Ytalkajdnilmeaaa
/- THE CELL 'sum', in the pinned program and in every row, IS THE sha256 OF THE DUMP (.gsa) THAT YtalkajdnilmeaaaProg.lean LOADS. Nothing in Lean hashes anything: it is a label: what it is worth is what the hold of that sum in a sandbox is worth. -/
noncomputable def Try.pinned : Pinned := { name := "ytalkajdnilmeaaa", sum := "f4223b094e93cb26aa27c487d8ef1a553faaacd93cb13e92065aacb938ff77e0", checked := Try.checked }
namespace Rows
def none {H : Type} : Left H := { results := [], args := [] }

/-- 'humpyardlaw06.SealTells': WHATEVER THE INPUT: true; the input reads as it did. -/
def sealTellsSpec : ChangeSpec := { name := "sealTells", fn := fun _ => fun
  | [d1, d2, d3] => { results := [.lit (.bool true)], args := [d1, d2, d3] }
  | _ => none }
def sealTellsRow : OpenClaim := { program := "ytalkajdnilmeaaa", sum := "f4223b094e93cb26aa27c487d8ef1a553faaacd93cb13e92065aacb938ff77e0", func := "humpyard/humpyardlaw06.SealTells", spec := "sealTells", apart := false }
def SealTellsSaid : Prop := sealTellsRow.holds Try.pinned (OpenSpec.ofChange sealTellsSpec)

/-- ITS FALSE NEIGHBOUR: 'it returns false'. Refute it at one input. -/
def sealTellsWrong : ChangeSpec := { name := "sealTells", fn := fun _ => fun
  | [d1, d2, d3] => { results := [.lit (.bool false)], args := [d1, d2, d3] }
  | _ => none }
def SealTellsWrongFalsely : Prop := sealTellsRow.holds Try.pinned (OpenSpec.ofChange sealTellsWrong)

/-- 'humpyardlaw06.SealBack': WHATEVER THE INPUT: true; the input reads as it did. -/
def sealBackSpec : ChangeSpec := { name := "sealBack", fn := fun _ => fun
  | [d] => { results := [.lit (.bool true)], args := [d] }
  | _ => none }
def sealBackRow : OpenClaim := { program := "ytalkajdnilmeaaa", sum := "f4223b094e93cb26aa27c487d8ef1a553faaacd93cb13e92065aacb938ff77e0", func := "humpyard/humpyardlaw06.SealBack", spec := "sealBack", apart := false }
def SealBackSaid : Prop := sealBackRow.holds Try.pinned (OpenSpec.ofChange sealBackSpec)

/-- ITS FALSE NEIGHBOUR: 'it returns false'. Refute it at one input. -/
def sealBackWrong : ChangeSpec := { name := "sealBack", fn := fun _ => fun
  | [d] => { results := [.lit (.bool false)], args := [d] }
  | _ => none }
def SealBackWrongFalsely : Prop := sealBackRow.holds Try.pinned (OpenSpec.ofChange sealBackWrong)

/-- 'humpyardlaw06.SealForth': WHATEVER THE INPUT: true; the input reads as it did. -/
def sealForthSpec : ChangeSpec := { name := "sealForth", fn := fun _ => fun
  | [d1, d2, d3] => { results := [.lit (.bool true)], args := [d1, d2, d3] }
  | _ => none }
def sealForthRow : OpenClaim := { program := "ytalkajdnilmeaaa", sum := "f4223b094e93cb26aa27c487d8ef1a553faaacd93cb13e92065aacb938ff77e0", func := "humpyard/humpyardlaw06.SealForth", spec := "sealForth", apart := false }
def SealForthSaid : Prop := sealForthRow.holds Try.pinned (OpenSpec.ofChange sealForthSpec)

/-- ITS FALSE NEIGHBOUR: 'it returns false'. Refute it at one input. -/
def sealForthWrong : ChangeSpec := { name := "sealForth", fn := fun _ => fun
  | [d1, d2, d3] => { results := [.lit (.bool false)], args := [d1, d2, d3] }
  | _ => none }
def SealForthWrongFalsely : Prop := sealForthRow.holds Try.pinned (OpenSpec.ofChange sealForthWrong)

/-- 'humpyardlaw06.SealChanged': WHATEVER THE INPUT: true; the input reads as it did. -/
def sealChangedSpec : ChangeSpec := { name := "sealChanged", fn := fun _ => fun
  | [d1, d2, d3] => { results := [.lit (.bool true)], args := [d1, d2, d3] }
  | _ => none }
def sealChangedRow : OpenClaim := { program := "ytalkajdnilmeaaa", sum := "f4223b094e93cb26aa27c487d8ef1a553faaacd93cb13e92065aacb938ff77e0", func := "humpyard/humpyardlaw06.SealChanged", spec := "sealChanged", apart := false }
def SealChangedSaid : Prop := sealChangedRow.holds Try.pinned (OpenSpec.ofChange sealChangedSpec)

/-- ITS FALSE NEIGHBOUR: 'it returns false'. Refute it at one input. -/
def sealChangedWrong : ChangeSpec := { name := "sealChanged", fn := fun _ => fun
  | [d1, d2, d3] => { results := [.lit (.bool false)], args := [d1, d2, d3] }
  | _ => none }
def SealChangedWrongFalsely : Prop := sealChangedRow.holds Try.pinned (OpenSpec.ofChange sealChangedWrong)

/-- 'humpyardlaw06.SealSums': WHATEVER THE INPUT: true; the input reads as it did. -/
def sealSumsSpec : ChangeSpec := { name := "sealSums", fn := fun _ => fun
  | [d1, d2, d3, d4] => { results := [.lit (.bool true)], args := [d1, d2, d3, d4] }
  | _ => none }
def sealSumsRow : OpenClaim := { program := "ytalkajdnilmeaaa", sum := "f4223b094e93cb26aa27c487d8ef1a553faaacd93cb13e92065aacb938ff77e0", func := "humpyard/humpyardlaw06.SealSums", spec := "sealSums", apart := false }
def SealSumsSaid : Prop := sealSumsRow.holds Try.pinned (OpenSpec.ofChange sealSumsSpec)

/-- ITS FALSE NEIGHBOUR: 'it returns false'. Refute it at one input. -/
def sealSumsWrong : ChangeSpec := { name := "sealSums", fn := fun _ => fun
  | [d1, d2, d3, d4] => { results := [.lit (.bool false)], args := [d1, d2, d3, d4] }
  | _ => none }
def SealSumsWrongFalsely : Prop := sealSumsRow.holds Try.pinned (OpenSpec.ofChange sealSumsWrong)

/-- 'humpyardlaw06.SealTwice': WHATEVER THE INPUT: true; the input reads as it did. -/
def sealTwiceSpec : ChangeSpec := { name := "sealTwice", fn := fun _ => fun
  | [d1, d2] => { results := [.lit (.bool true)], args := [d1, d2] }
  | _ => none }
def sealTwiceRow : OpenClaim := { program := "ytalkajdnilmeaaa", sum := "f4223b094e93cb26aa27c487d8ef1a553faaacd93cb13e92065aacb938ff77e0", func := "humpyard/humpyardlaw06.SealTwice", spec := "sealTwice", apart := false }
def SealTwiceSaid : Prop := sealTwiceRow.holds Try.pinned (OpenSpec.ofChange sealTwiceSpec)

/-- ITS FALSE NEIGHBOUR: 'it returns false'. Refute it at one input. -/
def sealTwiceWrong : ChangeSpec := { name := "sealTwice", fn := fun _ => fun
  | [d1, d2] => { results := [.lit (.bool false)], args := [d1, d2] }
  | _ => none }
def SealTwiceWrongFalsely : Prop := sealTwiceRow.holds Try.pinned (OpenSpec.ofChange sealTwiceWrong)

/- THE SECOND FORM. 'bulk': how many values and letters a reading holds, each counted each time it is reached (what is shared counts as often as it is met; a slice's spare places count too). A statement '..UptoSaid' is the law's where the arguments, and the package variables that the reading takes, are together of bulk at most 1048576: NARROWER than '..Said'. Prove '..Said' where nothing that the law and all that it calls make is longer than what came in: it says more and counts as full. Else prove '..UptoSaid'. A law counts once. -/
mutual
def uptoBulk {H : Type} : DataW H → Nat
  | .lit (.string bytes) => bytes.length + 1
  | .lit _ => 1
  | .nil => 1
  | .ptr d => uptoBulk d + 1
  | .slice elems spare => uptoBulkAll elems + uptoBulkAll spare + 1
  | .agg parts => uptoBulkAll parts + 1
  | .iface _ d => uptoBulk d + 1
  | .map entries => uptoBulkEntries entries + 1
  | .held _ => 1
def uptoBulkAll {H : Type} : List (DataW H) → Nat
  | [] => 0
  | d :: r => uptoBulk d + uptoBulkAll r
def uptoBulkEntries {H : Type} : List (Lit × DataW H) → Nat
  | [] => 0
  | x :: r => uptoBulkEntry x + uptoBulkEntries r
def uptoBulkEntry {H : Type} : Lit × DataW H → Nat
  | (.string bytes, d) => bytes.length + uptoBulk d + 1
  | (_, d) => uptoBulk d + 1
 end
def uptoSmall : (H : Type) → List (DataW H) → Bool := fun _ ds => decide (uptoBulkAll ds ≤ 1048576)
def OpenSpec.upto (s : _root_.Go.ChangeSpec) : _root_.Go.OpenSpec := { _root_.Go.OpenSpec.ofChange s with cond := some uptoSmall }

/-- 'humpyardlaw06.SealTells', WHERE WHAT IT READS IS OF BULK AT MOST 1048576: true; the input reads as it did. -/
def sealTellsUptoRow : OpenClaim := { program := "ytalkajdnilmeaaa", sum := "f4223b094e93cb26aa27c487d8ef1a553faaacd93cb13e92065aacb938ff77e0", func := "humpyard/humpyardlaw06.SealTells", spec := "sealTells", apart := false, narrowed := true }
def SealTellsUptoSaid : Prop := sealTellsUptoRow.holds Try.pinned (OpenSpec.upto sealTellsSpec)

/-- 'humpyardlaw06.SealBack', WHERE WHAT IT READS IS OF BULK AT MOST 1048576: true; the input reads as it did. -/
def sealBackUptoRow : OpenClaim := { program := "ytalkajdnilmeaaa", sum := "f4223b094e93cb26aa27c487d8ef1a553faaacd93cb13e92065aacb938ff77e0", func := "humpyard/humpyardlaw06.SealBack", spec := "sealBack", apart := false, narrowed := true }
def SealBackUptoSaid : Prop := sealBackUptoRow.holds Try.pinned (OpenSpec.upto sealBackSpec)

/-- 'humpyardlaw06.SealForth', WHERE WHAT IT READS IS OF BULK AT MOST 1048576: true; the input reads as it did. -/
def sealForthUptoRow : OpenClaim := { program := "ytalkajdnilmeaaa", sum := "f4223b094e93cb26aa27c487d8ef1a553faaacd93cb13e92065aacb938ff77e0", func := "humpyard/humpyardlaw06.SealForth", spec := "sealForth", apart := false, narrowed := true }
def SealForthUptoSaid : Prop := sealForthUptoRow.holds Try.pinned (OpenSpec.upto sealForthSpec)

/-- 'humpyardlaw06.SealChanged', WHERE WHAT IT READS IS OF BULK AT MOST 1048576: true; the input reads as it did. -/
def sealChangedUptoRow : OpenClaim := { program := "ytalkajdnilmeaaa", sum := "f4223b094e93cb26aa27c487d8ef1a553faaacd93cb13e92065aacb938ff77e0", func := "humpyard/humpyardlaw06.SealChanged", spec := "sealChanged", apart := false, narrowed := true }
def SealChangedUptoSaid : Prop := sealChangedUptoRow.holds Try.pinned (OpenSpec.upto sealChangedSpec)

/-- 'humpyardlaw06.SealSums', WHERE WHAT IT READS IS OF BULK AT MOST 1048576: true; the input reads as it did. -/
def sealSumsUptoRow : OpenClaim := { program := "ytalkajdnilmeaaa", sum := "f4223b094e93cb26aa27c487d8ef1a553faaacd93cb13e92065aacb938ff77e0", func := "humpyard/humpyardlaw06.SealSums", spec := "sealSums", apart := false, narrowed := true }
def SealSumsUptoSaid : Prop := sealSumsUptoRow.holds Try.pinned (OpenSpec.upto sealSumsSpec)

/-- 'humpyardlaw06.SealTwice', WHERE WHAT IT READS IS OF BULK AT MOST 1048576: true; the input reads as it did. -/
def sealTwiceUptoRow : OpenClaim := { program := "ytalkajdnilmeaaa", sum := "f4223b094e93cb26aa27c487d8ef1a553faaacd93cb13e92065aacb938ff77e0", func := "humpyard/humpyardlaw06.SealTwice", spec := "sealTwice", apart := false, narrowed := true }
def SealTwiceUptoSaid : Prop := sealTwiceUptoRow.holds Try.pinned (OpenSpec.upto sealTwiceSpec)

end Rows
end Go.Proofs.Ytalkajdnilmeaaa
