import Derived.Test.YtcpggmdiojaalaaGreatDoorSm
import Derived.Test.YtcpggmdiojaalaaGreatDoorDecB
import Derived.Lib.QuietBelow
import Derived.BigQuiet
/- The document's Same. -/
set_option linter.unusedVariables false
set_option linter.unusedSimpArgs false
namespace Go.Proofs.YtcpggmdiojaalaaGreatDoor.Js
open Go.RowKit Lex Go.Sort

/-- Two boxes of one's own, and all else as it was. -/
def Box2 (w : World) (c d : Array Value) (T : TypeId) (wr : World) : Prop := Below w.heap.size w wr ∧ wr.heap[w.heap.size]? = some (.cells c T (0, 0)) ∧ wr.heap[w.heap.size + 1]? = some (.cells d T (0, 0))
theorem Box2.begin (w : World) (c d : Array Value) (T : TypeId) : Box2 w c d T ((w.alloc (.cells c T)).alloc (.cells d T)) :=
  ⟨((Below.refl _ _).alloc (Nat.le_refl _) _).alloc (by simp) _, two_old w _ _, two_new w _ _⟩
theorem Box2.below {w : World} {c d : Array Value} {T : TypeId} {wr w' : World} (h : Box2 w c d T wr) (hb : Below wr.heap.size wr w') : Box2 w c d T w' :=
  ⟨h.1.trans (hb.mono h.1.size), (hb.block _ (Own.block_lt h.2.1)).trans h.2.1, (hb.block _ (Own.block_lt h.2.2)).trans h.2.2⟩
theorem six_of' {w : World} {b : Nat} {T : TypeId} {f : Nat × Nat} {c0 c1 c2 c3 c4 c5 : Value} (h : w.heap[b]? = some (.cells #[c0, c1, c2, c3, c4, c5] T f)) : w.cell? ⟨b, 4, none⟩ = some c4 ∧ w.cell? ⟨b, 5, none⟩ = some c5 := by
  have k : ∀ i, w.cell? ⟨b, i, none⟩ = (#[c0, c1, c2, c3, c4, c5] : Array Value)[i]? := fun i => cell_of_row _ _ _ _ _ _ h
  exact ⟨k 4, k 5⟩

end Go.Proofs.YtcpggmdiojaalaaGreatDoor.Js
