import Derived.Test.YtnpbkjmlmdpggaaYc
/- Out and Between. -/
set_option linter.unusedVariables false
set_option linter.unusedSimpArgs false
namespace Go.Proofs.Ytnpbkjmlmdpggaa.Ly
open Go.RowKit

/-- A layout's box. -/
structure BoxAt (n : Int) (v : Value) (w : World) (b : Nat) : Prop where
  c0 : w.cell? ⟨b, 0, none⟩ = some (.int .i64 n)
  c1 : w.cell? ⟨b, 1, none⟩ = some v
  lt : b < w.heap.size
theorem BoxAt.below {n : Int} {v : Value} {w w' : World} {b : Nat} (h : BoxAt n v w b) (hb : Below w.heap.size w w') : BoxAt n v w' b :=
  ⟨(hb.cell h.lt).trans h.c0, (hb.cell h.lt).trans h.c1, Nat.lt_of_lt_of_le h.lt hb.size⟩
theorem BoxAt.belowB {n : Int} {v : Value} {w w' : World} {b B : Nat} (h : BoxAt n v w b) (hb : Below B w w') (hB : b < B) : BoxAt n v w' b :=
  ⟨(hb.cell hB).trans h.c0, (hb.cell hB).trans h.c1, Nat.lt_of_lt_of_le h.lt hb.size⟩
theorem BoxAt.new (n : Int) (v : Value) (w : World) : BoxAt n v (w.alloc (.cells #[.int .i64 n, v] 32)) w.heap.size :=
  ⟨by rw [cell_of_row _ _ 0 _ _ _ (heap_alloc_new w _)]; rfl, by rw [cell_of_row _ _ 1 _ _ _ (heap_alloc_new w _)]; rfl, by simp⟩
theorem hitB_true {es : List Ed} {f t : Int} {k : Nat} (h1 : (ate es k).1 = f) (h2 : (ate es k).2.1 = t) : hitB es f t k = true := by simp [hitB, h1, h2]
theorem hitB_false {es : List Ed} {f t : Int} {k : Nat} (h : ¬ ((ate es k).1 = f ∧ (ate es k).2.1 = t)) : hitB es f t k = false := by
  unfold hitB
  rw [← Bool.not_eq_true]
  simpa using fun h1 h2 => h ⟨h1, h2⟩
end Go.Proofs.Ytnpbkjmlmdpggaa.Ly
