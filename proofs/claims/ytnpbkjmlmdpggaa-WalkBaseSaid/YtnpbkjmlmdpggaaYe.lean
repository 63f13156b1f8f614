import Derived.Test.YtnpbkjmlmdpggaaYd
import Derived.Deep.AppendLies
/- Out: rows of numbers of one's own that grow. -/
set_option linter.unusedVariables false
set_option linter.unusedSimpArgs false
namespace Go.Proofs.Ytnpbkjmlmdpggaa.Ly
open Go.RowKit

theorem int_info : (Try.prog.info? 3).map (fun i => (i.zero, i.size, i.bytes)) = some (some (.int .i64 0), 1, 8) := by kernel_rfl
theorem edge_info : (Try.prog.info? 54).map (fun i => (i.zero, i.size, i.bytes)) = some (some (.agg #[.int .i64 0, .int .i64 0, .int .i64 0]), 3, 24) := by kernel_rfl
theorem row_form {B n : Nat} {w : World} {e : TypeId} {sz : Nat} {v : Value} {xs : List Value} (h : w.ownsRow B e sz v n xs) : ∃ ao cap, v = .slice ao n cap := by
  rcases h.2 with ⟨rfl, hn⟩ | ⟨g, cp, cur, hv, _⟩
  · exact ⟨none, 0, by rw [hn]⟩
  · exact ⟨_, _, hv⟩
/-- A row of one's own grows: what is older stays. -/
theorem row_below {B n : Nat} {W wX w3 : World} {vo : Value} {T : TypeId} {s : Nat} {xs : List Value} {o : Obj} (hrow : wX.ownsRow B T s vo n xs) (hgrow : (wX.alloc o).grownBy w3 vo.ownBlock) (hB : Below B W wX) (hs : B ≤ wX.heap.size) : Below B W w3 :=
  (hB.alloc hs o).grown hgrow (by simp; omega) (fun k hk => (hrow.lt k hk).1)
/-- A slice of numbers that was made. -/
def RetInts (l : List Int) (w : World) (e : Ending) (w' : World) : Prop := ∃ v, e = .returned v ∧ IntsAt w' v l ∧ Below w.heap.size w w'
end Go.Proofs.Ytnpbkjmlmdpggaa.Ly
