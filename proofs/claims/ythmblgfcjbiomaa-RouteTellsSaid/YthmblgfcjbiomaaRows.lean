/-
  No cell of these rows narrows 'for every input' (looked for: loops, veiled, ifaces, maps, wideKeys, modest, calm, conditions, laid).
  DERIVED. THE GIVEN ROWS OF THIS SEAT. 6 by the template 'for every input the law returns true; each argument reads behind the call as it read before'; 0 by the template 'total and deterministic' (their statements: YthmblgfcjbiomaaTotals.lean).
  GIVEN WITH THE SEED: the statements are not yours to turn. If you find one false, say at which input.
  Laid BY PROGRAM, IN A SANDBOX (cutbox-rows.mjs): the forced cells as the released guide's own fill.sh prints them over the translation c7dc3dcd8536fec3… (all of the seat's roots in one cut). By AI agents, Wed Nov 11 2026. No macro, syntax, notation, axiom, sorry.
-/
import Derived.Test.YthmblgfcjbiomaaChecked
import GoSem.Claim
import GoSem.ClaimJoined
import GoSem.ClaimMapViews
import Derived.JoinedTies
import Derived.KernelRfl
namespace Go.Proofs.Ythmblgfcjbiomaa
/- THE CELL 'sum', in the pinned program and in every row, IS THE sha256 OF THE DUMP (.gsa) THAT YthmblgfcjbiomaaProg.lean LOADS. Nothing in Lean hashes anything: it is a label: what it is worth is what the hold of that sum in a sandbox is worth. -/
noncomputable def Try.pinned : Pinned := { name := "ythmblgfcjbiomaa", sum := "c7dc3dcd8536fec303c83eed49d33011d42a68a71cd97e2c95bf46f2b4ccf2c3", checked := Try.checked }
namespace Rows
def none {H : Type} : Left H := { results := [], args := [] }

/-- 'humpyardlaw12.RouteTells': WHATEVER THE INPUT: true; the input reads as it did. -/
def routeTellsSpec : ChangeSpec := { name := "routeTells", fn := fun _ => fun
  | [d1, d2, d3, d4, d5, d6] => { results := [.lit (.bool true)], args := [d1, d2, d3, d4, d5, d6] }
  | _ => none }
def routeTellsRow : OpenClaim := { program := "ythmblgfcjbiomaa", sum := "c7dc3dcd8536fec303c83eed49d33011d42a68a71cd97e2c95bf46f2b4ccf2c3", func := "humpyard/humpyardlaw12.RouteTells", spec := "routeTells", unfollowed := true, recurses := true, apart := false }
def RouteTellsSaid : Prop := routeTellsRow.holds Try.pinned (OpenSpec.ofChange routeTellsSpec)

/-- ITS FALSE NEIGHBOUR: 'it returns false'. Refute it at one input. -/
def routeTellsWrong : ChangeSpec := { name := "routeTells", fn := fun _ => fun
  | [d1, d2, d3, d4, d5, d6] => { results := [.lit (.bool false)], args := [d1, d2, d3, d4, d5, d6] }
  | _ => none }
def RouteTellsWrongFalsely : Prop := routeTellsRow.holds Try.pinned (OpenSpec.ofChange routeTellsWrong)

/-- 'humpyardlaw12.RouteLeast': WHATEVER THE INPUT: true; the input reads as it did. -/
def routeLeastSpec : ChangeSpec := { name := "routeLeast", fn := fun _ => fun
  | [d1, d2, d3, d4, d5] => { results := [.lit (.bool true)], args := [d1, d2, d3, d4, d5] }
  | _ => none }
def routeLeastRow : OpenClaim := { program := "ythmblgfcjbiomaa", sum := "c7dc3dcd8536fec303c83eed49d33011d42a68a71cd97e2c95bf46f2b4ccf2c3", func := "humpyard/humpyardlaw12.RouteLeast", spec := "routeLeast", unfollowed := true, recurses := true, apart := false }
def RouteLeastSaid : Prop := routeLeastRow.holds Try.pinned (OpenSpec.ofChange routeLeastSpec)

/-- ITS FALSE NEIGHBOUR: 'it returns false'. Refute it at one input. -/
def routeLeastWrong : ChangeSpec := { name := "routeLeast", fn := fun _ => fun
  | [d1, d2, d3, d4, d5] => { results := [.lit (.bool false)], args := [d1, d2, d3, d4, d5] }
  | _ => none }
def RouteLeastWrongFalsely : Prop := routeLeastRow.holds Try.pinned (OpenSpec.ofChange routeLeastWrong)

/-- 'humpyardlaw12.RouteFirst': WHATEVER THE INPUT: true; the input reads as it did. -/
def routeFirstSpec : ChangeSpec := { name := "routeFirst", fn := fun _ => fun
  | [d1, d2, d3, d4, d5] => { results := [.lit (.bool true)], args := [d1, d2, d3, d4, d5] }
  | _ => none }
def routeFirstRow : OpenClaim := { program := "ythmblgfcjbiomaa", sum := "c7dc3dcd8536fec303c83eed49d33011d42a68a71cd97e2c95bf46f2b4ccf2c3", func := "humpyard/humpyardlaw12.RouteFirst", spec := "routeFirst", unfollowed := true, recurses := true, apart := false }
def RouteFirstSaid : Prop := routeFirstRow.holds Try.pinned (OpenSpec.ofChange routeFirstSpec)

/-- ITS FALSE NEIGHBOUR: 'it returns false'. Refute it at one input. -/
def routeFirstWrong : ChangeSpec := { name := "routeFirst", fn := fun _ => fun
  | [d1, d2, d3, d4, d5] => { results := [.lit (.bool false)], args := [d1, d2, d3, d4, d5] }
  | _ => none }
def RouteFirstWrongFalsely : Prop := routeFirstRow.holds Try.pinned (OpenSpec.ofChange routeFirstWrong)

/-- 'humpyardlaw12.RouteMore': WHATEVER THE INPUT: true; the input reads as it did. -/
def routeMoreSpec : ChangeSpec := { name := "routeMore", fn := fun _ => fun
  | [d1, d2, d3, d4, d5, d6] => { results := [.lit (.bool true)], args := [d1, d2, d3, d4, d5, d6] }
  | _ => none }
def routeMoreRow : OpenClaim := { program := "ythmblgfcjbiomaa", sum := "c7dc3dcd8536fec303c83eed49d33011d42a68a71cd97e2c95bf46f2b4ccf2c3", func := "humpyard/humpyardlaw12.RouteMore", spec := "routeMore", unfollowed := true, recurses := true, apart := false }
def RouteMoreSaid : Prop := routeMoreRow.holds Try.pinned (OpenSpec.ofChange routeMoreSpec)

/-- ITS FALSE NEIGHBOUR: 'it returns false'. Refute it at one input. -/
def routeMoreWrong : ChangeSpec := { name := "routeMore", fn := fun _ => fun
  | [d1, d2, d3, d4, d5, d6] => { results := [.lit (.bool false)], args := [d1, d2, d3, d4, d5, d6] }
  | _ => none }
def RouteMoreWrongFalsely : Prop := routeMoreRow.holds Try.pinned (OpenSpec.ofChange routeMoreWrong)

/-- 'humpyardlaw12.RouteTours': WHATEVER THE INPUT: true; the input reads as it did. -/
def routeToursSpec : ChangeSpec := { name := "routeTours", fn := fun _ => fun
  | [d1, d2, d3, d4] => { results := [.lit (.bool true)], args := [d1, d2, d3, d4] }
  | _ => none }
def routeToursRow : OpenClaim := { program := "ythmblgfcjbiomaa", sum := "c7dc3dcd8536fec303c83eed49d33011d42a68a71cd97e2c95bf46f2b4ccf2c3", func := "humpyard/humpyardlaw12.RouteTours", spec := "routeTours", unfollowed := true, recurses := true, apart := false }
def RouteToursSaid : Prop := routeToursRow.holds Try.pinned (OpenSpec.ofChange routeToursSpec)

/-- ITS FALSE NEIGHBOUR: 'it returns false'. Refute it at one input. -/
def routeToursWrong : ChangeSpec := { name := "routeTours", fn := fun _ => fun
  | [d1, d2, d3, d4] => { results := [.lit (.bool false)], args := [d1, d2, d3, d4] }
  | _ => none }
def RouteToursWrongFalsely : Prop := routeToursRow.holds Try.pinned (OpenSpec.ofChange routeToursWrong)

/-- 'humpyardlaw12.RouteScaled': WHATEVER THE INPUT: true; the input reads as it did. -/
def routeScaledSpec : ChangeSpec := { name := "routeScaled", fn := fun _ => fun
  | [d1, d2, d3, d4, d5, d6] => { results := [.lit (.bool true)], args := [d1, d2, d3, d4, d5, d6] }
  | _ => none }
def routeScaledRow : OpenClaim := { program := "ythmblgfcjbiomaa", sum := "c7dc3dcd8536fec303c83eed49d33011d42a68a71cd97e2c95bf46f2b4ccf2c3", func := "humpyard/humpyardlaw12.RouteScaled", spec := "routeScaled", unfollowed := true, recurses := true, apart := false }
def RouteScaledSaid : Prop := routeScaledRow.holds Try.pinned (OpenSpec.ofChange routeScaledSpec)

/-- ITS FALSE NEIGHBOUR: 'it returns false'. Refute it at one input. -/
def routeScaledWrong : ChangeSpec := { name := "routeScaled", fn := fun _ => fun
  | [d1, d2, d3, d4, d5, d6] => { results := [.lit (.bool false)], args := [d1, d2, d3, d4, d5, d6] }
  | _ => none }
def RouteScaledWrongFalsely : Prop := routeScaledRow.holds Try.pinned (OpenSpec.ofChange routeScaledWrong)

/- THE SECOND FORM. 'bulk': how many values and letters a reading holds, each counted each time it is reached (what is shared counts as often as it is met; a slice's spare places count too). A statement '..UptoSaid' is the law's where the arguments, and the package variables that the reading takes, are together of bulk at most 1048576: NARROWER than '..Said'. Prove '..Said' where nothing that the law and all that it calls make is longer than what came in: it says more and counts as full. Else prove '..UptoSaid'. A law counts once. -/
mutual
def uptoBulk {H : Type} : DataW H → Nat
  | .lit (.string bytes) => bytes.length + 1
  | .lit _ => 1
  | .nil => 1
  | .ptr d => uptoBulk d + 1
  | .slice elems spare => uptoBulkAll elems + uptoBulkAll spare + 1
  | .agg parts => uptoBulkAll parts + 1
  | .iface _ d => uptoBulk d + 1
  | .map entries => uptoBulkEntries entries + 1
  | .held _ => 1
def uptoBulkAll {H : Type} : List (DataW H) → Nat
  | [] => 0
  | d :: r => uptoBulk d + uptoBulkAll r
def uptoBulkEntries {H : Type} : List (Lit × DataW H) → Nat
  | [] => 0
  | x :: r => uptoBulkEntry x + uptoBulkEntries r
def uptoBulkEntry {H : Type} : Lit × DataW H → Nat
  | (.string bytes, d) => bytes.length + uptoBulk d + 1
  | (_, d) => uptoBulk d + 1
 end
def uptoSmall : (H : Type) → List (DataW H) → Bool := fun _ ds => decide (uptoBulkAll ds ≤ 1048576)
def OpenSpec.upto (s : _root_.Go.ChangeSpec) : _root_.Go.OpenSpec := { _root_.Go.OpenSpec.ofChange s with cond := some uptoSmall }

/-- 'humpyardlaw12.RouteTells', WHERE WHAT IT READS IS OF BULK AT MOST 1048576: true; the input reads as it did. -/
def routeTellsUptoRow : OpenClaim := { program := "ythmblgfcjbiomaa", sum := "c7dc3dcd8536fec303c83eed49d33011d42a68a71cd97e2c95bf46f2b4ccf2c3", func := "humpyard/humpyardlaw12.RouteTells", spec := "routeTells", unfollowed := true, recurses := true, apart := false, narrowed := true }
def RouteTellsUptoSaid : Prop := routeTellsUptoRow.holds Try.pinned (OpenSpec.upto routeTellsSpec)

/-- 'humpyardlaw12.RouteLeast', WHERE WHAT IT READS IS OF BULK AT MOST 1048576: true; the input reads as it did. -/
def routeLeastUptoRow : OpenClaim := { program := "ythmblgfcjbiomaa", sum := "c7dc3dcd8536fec303c83eed49d33011d42a68a71cd97e2c95bf46f2b4ccf2c3", func := "humpyard/humpyardlaw12.RouteLeast", spec := "routeLeast", unfollowed := true, recurses := true, apart := false, narrowed := true }
def RouteLeastUptoSaid : Prop := routeLeastUptoRow.holds Try.pinned (OpenSpec.upto routeLeastSpec)

/-- 'humpyardlaw12.RouteFirst', WHERE WHAT IT READS IS OF BULK AT MOST 1048576: true; the input reads as it did. -/
def routeFirstUptoRow : OpenClaim := { program := "ythmblgfcjbiomaa", sum := "c7dc3dcd8536fec303c83eed49d33011d42a68a71cd97e2c95bf46f2b4ccf2c3", func := "humpyard/humpyardlaw12.RouteFirst", spec := "routeFirst", unfollowed := true, recurses := true, apart := false, narrowed := true }
def RouteFirstUptoSaid : Prop := routeFirstUptoRow.holds Try.pinned (OpenSpec.upto routeFirstSpec)

/-- 'humpyardlaw12.RouteMore', WHERE WHAT IT READS IS OF BULK AT MOST 1048576: true; the input reads as it did. -/
def routeMoreUptoRow : OpenClaim := { program := "ythmblgfcjbiomaa", sum := "c7dc3dcd8536fec303c83eed49d33011d42a68a71cd97e2c95bf46f2b4ccf2c3", func := "humpyard/humpyardlaw12.RouteMore", spec := "routeMore", unfollowed := true, recurses := true, apart := false, narrowed := true }
def RouteMoreUptoSaid : Prop := routeMoreUptoRow.holds Try.pinned (OpenSpec.upto routeMoreSpec)

/-- 'humpyardlaw12.RouteTours', WHERE WHAT IT READS IS OF BULK AT MOST 1048576: true; the input reads as it did. -/
def routeToursUptoRow : OpenClaim := { program := "ythmblgfcjbiomaa", sum := "c7dc3dcd8536fec303c83eed49d33011d42a68a71cd97e2c95bf46f2b4ccf2c3", func := "humpyard/humpyardlaw12.RouteTours", spec := "routeTours", unfollowed := true, recurses := true, apart := false, narrowed := true }
def RouteToursUptoSaid : Prop := routeToursUptoRow.holds Try.pinned (OpenSpec.upto routeToursSpec)

/-- 'humpyardlaw12.RouteScaled', WHERE WHAT IT READS IS OF BULK AT MOST 1048576: true; the input reads as it did. -/
def routeScaledUptoRow : OpenClaim := { program := "ythmblgfcjbiomaa", sum := "c7dc3dcd8536fec303c83eed49d33011d42a68a71cd97e2c95bf46f2b4ccf2c3", func := "humpyard/humpyardlaw12.RouteScaled", spec := "routeScaled", unfollowed := true, recurses := true, apart := false, narrowed := true }
def RouteScaledUptoSaid : Prop := routeScaledUptoRow.holds Try.pinned (OpenSpec.upto routeScaledSpec)

end Rows
end Go.Proofs.Ythmblgfcjbiomaa
