/- What the rows' list gives (the table that Itoa reads), and a world that holds all five tables. -/
import Derived.Test.YtaggeebfdlkbhaaDoorCards
import Derived.Test.YtaggeebfdlkbhaaDoorTie
import Derived.Test.YtaggeebfdlkbhaaDoorAwake
import Derived.OpenShut
import Derived.Deep.DeepHandedRow
import Derived.Lib.LaidTab
import Derived.LaidSub
set_option linter.unusedSimpArgs false
set_option linter.unusedVariables false
namespace Go.Proofs.YtaggeebfdlkbhaaDoor
open Go.ChangeShapes Go.WideShapes Go.ChangeAt Go.RowKit

theorem own : ownKnob Tryd.prog.godebug = none := by kernel_rfl
theorem gpowType : (Tryd.prog.globals[0]?).map (·.type) = some 107 := by kernel_rfl
theorem cellsPow : Tryd.prog.cellsOf 107 = 20 := by kernel_rfl
theorem cellsU64 : Tryd.prog.cellsOf 88 = 1 := by kernel_rfl

theorem tab_of_laid {W : World} (h : laidMetH Tryd.prog Rows.decimalMovesRow.laid W) : Tab W := by
  have h2 := h.filter (fun x => x.1 == "internal/strconv.uint64pow10")
  have h3 : laidMetH Tryd.prog [("internal/strconv.uint64pow10", Lib.tabData .u64 Lib.pow10Tab)] W := h2
  exact Lib.tabIs_of_head (rest := []) gpow gpowType Tryd.underlying107 Tryd.underlying88 cellsU64 cellsPow h3

/-- A table's cells. -/
def flat1 : List (DataW Unit) → List Value
  | [] => []
  | .lit (.int k z) :: r => .int k z :: flat1 r
  | _ :: r => flat1 r
def flat2 : List (DataW Unit) → List Value
  | [] => []
  | .lit (.int k z) :: r => .int k z :: flat2 r
  | .agg l :: r => flat1 l ++ flat2 r
  | _ :: r => flat2 r
def flat : DataW Unit → Array Value
  | .agg l => (flat2 l).toArray
  | _ => #[]
def put (vs : Array Value) : Obj → Obj
  | .cells _ t f => .cells vs t f
  | o => o

noncomputable def laidWorld (os : Os) : World :=
  { World.holding Tryd.prog os ⟨#[], #[], []⟩ with heap := (((((World.holding Tryd.prog os ⟨#[], #[], []⟩).heap.modify 0 (put (flat Rows.laid_internal_strconv_uint64pow10))).modify 2 (put (flat Rows.laid_unicode_utf8_first))).modify 3 (put (flat Rows.laid_unicode_utf8_acceptRanges))).modify 4 (put (flat Rows.laid_math_bits_deBruijn32tab))).modify 5 (put (flat Rows.laid_math_bits_deBruijn64tab)) }
theorem laid_met (os : Os) (args : Array Value) : laidMet Tryd.prog Rows.decimalMovesRow.laid ((laidWorld os).forCall (fun _ _ => 0) ⟨#[], args, []⟩).memory :=
  laidMet_of_run' 8 (by kernel_rfl) (by kernel_rfl)
end Go.Proofs.YtaggeebfdlkbhaaDoor
