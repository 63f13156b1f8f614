import Derived.Test.YtafmnoeljefpaaaFr
import Derived.Test.YtafmnoeljefpaaaQs
/- Layer 5: a value in a box, kept. -/
set_option linter.unusedVariables false
set_option linter.unusedSimpArgs false
namespace Go.Proofs.Ytafmnoeljefpaaa.Js
open Go.RowKit Lex
/-- A value in a box, behind a world. -/
structure VI (w : World) (bb : Nat) (X : Array Value) (jv : J) (wr : World) : Prop where
  bel : Below w.heap.size w wr
  box : wr.heap[bb]? = some (.cells X 35 (0, 0))
  jat : JAt Any wr 16 (.agg X) jv
theorem VI.below {w : World} {bb : Nat} {X : Array Value} {jv : J} {wr w' : World} (h : VI w bb X jv wr) (hb : Below wr.heap.size wr w') : VI w bb X jv w' :=
  ⟨h.bel.trans (hb.mono h.bel.size), (hb.block _ (Own.block_lt h.box)).trans h.box, h.jat.below hb (Nat.le_refl _)⟩
theorem VI.alloc {w : World} {bb : Nat} {X : Array Value} {jv : J} {wr : World} (h : VI w bb X jv wr) (o : Obj) : VI w bb X jv (wr.alloc o) := h.below (belowOne _ _)
/-- A value in a second box. -/
def V2 (w : World) (bb : Nat) (X : Array Value) (jv : J) (y : J) (p : Value) (wr : World) : Prop :=
  ∃ bx k m e t an nn cn ai ni ci, p = .pointer (some ⟨bx, 0, none⟩) ∧ VI w bb X jv wr ∧ wr.heap[bx]? = some (.cells #[.int .i64 k, .int .i64 m, .int .i64 e, .string t, .slice an nn cn, .slice ai ni ci] 35 (0, 0)) ∧ JAt Any wr 16 (.agg #[.int .i64 k, .int .i64 m, .int .i64 e, .string t, .slice an nn cn, .slice ai ni ci]) y
end Go.Proofs.Ytafmnoeljefpaaa.Js
namespace Go.Proofs.Ytafmnoeljefpaaa.Js
open Go.RowKit Lex
theorem V2.ofA {w : World} {bb : Nat} {X : Array Value} {jv y : J} {wr w5 : World} {k m e : Int} {t : ByteArray} {an : Option Addr} {nn cn : Nat} {ai : Option Addr} {ni ci : Nat} {S : Nat → Prop} (hI : VI w bb X jv wr) (hb : Below wr.heap.size wr w5) (hJ : JAt S w5 16 (.agg #[.int .i64 k, .int .i64 m, .int .i64 e, .string t, .slice an nn cn, .slice ai ni ci]) y) :
    V2 w bb X jv y (.pointer (some ⟨w5.heap.size, 0, none⟩)) (w5.alloc (.cells #[.int .i64 k, .int .i64 m, .int .i64 e, .string t, .slice an nn cn, .slice ai ni ci] 35)) :=
  ⟨_, k, m, e, t, an, nn, cn, ai, ni, ci, rfl, (hI.below hb).alloc _, heap_alloc_new _ _, hJ.any.below (belowOne _ _) (Nat.le_refl _)⟩
theorem V2.ofB {w : World} {bb : Nat} {X : Array Value} {jv y : J} {wr w5 : World} {k m e : Int} {t : ByteArray} {an : Option Addr} {nn cn : Nat} {ai : Option Addr} {ni ci : Nat} {Z : Obj} {d0 d1 d2 d3 d4 d5 : Value} (hI : VI w bb X jv wr) (hb : Below wr.heap.size wr w5) (hz : w5.heap[wr.heap.size]? = some (.cells #[d0, d1, d2, d3, d4, d5] 35 (0, 0))) (hJ : JAt (fun b => (wr.alloc Z).drew.heap.size ≤ b) w5 16 (.agg #[.int .i64 k, .int .i64 m, .int .i64 e, .string t, .slice an nn cn, .slice ai ni ci]) y) :
    V2 w bb X jv y (.pointer (some ⟨wr.heap.size, 0, none⟩)) ((((((w5.setCell ⟨wr.heap.size, 0, none⟩ (.int .i64 k)).setCell ⟨wr.heap.size, 1, none⟩ (.int .i64 m)).setCell ⟨wr.heap.size, 2, none⟩ (.int .i64 e)).setCell ⟨wr.heap.size, 3, none⟩ (.string t)).setCell ⟨wr.heap.size, 4, none⟩ (.slice an nn cn)).setCell ⟨wr.heap.size, 5, none⟩ (.slice ai ni ci)) := by
  have h : V2 w bb X jv y (.pointer (some ⟨wr.heap.size, 0, none⟩)) (put6 w5 wr.heap.size 0 (.int .i64 k) (.int .i64 m) (.int .i64 e) (.string t) (.slice an nn cn) (.slice ai ni ci)) :=
    ⟨_, k, m, e, t, an, nn, cn, ai, ni, ci, rfl, hI.below (below_put6' hb (Nat.le_refl _) _ _ _ _ _ _), put6_self hz _ _ _ _ _ _, hJ.keep (S' := Any) (fun _ _ _ => trivial) (fun b hb' _ => put6_block _ _ 0 _ _ _ _ _ _ b (by have h' : (wr.alloc Z).heap.size ≤ b := hb'; simp at h'; omega)) (by rw [put6_size]; exact Nat.le_refl _)⟩
  simpa only [put6, Nat.zero_add] using h
end Go.Proofs.Ytafmnoeljefpaaa.Js
