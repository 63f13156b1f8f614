import Derived.Test.YtnpbkjmlmdpggaaYf
/- comeTo: what one comes to, in a row of bools. -/
set_option linter.unusedVariables false
set_option linter.unusedSimpArgs false
namespace Go.Proofs.Ytnpbkjmlmdpggaa.Ly
open Go.RowKit

theorem ShutTo.zero (es : List Ed) (bl : List Int) (c : List Bool) : ShutTo es bl c 0 := fun i h => absurd h (by omega)
theorem ShutTo.succ {es : List Ed} {bl : List Int} {c : List Bool} {k : Nat} (h : ShutTo es bl c k) (hk : ShutE bl c (ate es k)) : ShutTo es bl c (k + 1) := fun i hi => by
  by_cases e : i = k
  · subst e; exact hk
  · exact h i (by omega)
/-- What the array tells behind all. -/
noncomputable def comeL (es : List Ed) (bl : List Int) (a : Int) : List Bool := (List.range 40).map fun (i : Nat) => wayB es bl a (i : Int)
theorem list_ext40 {c d : List Bool} (hc : c.length = 40) (hd : d.length = 40) (h : ∀ i, i < 40 → atb c i = atb d i) : c = d := by
  apply List.ext_getElem (by omega)
  intro i h1 h2
  have := h i (by omega)
  unfold atb at this
  rw [List.getD_eq_getElem?_getD, List.getD_eq_getElem?_getD, List.getElem?_eq_getElem h1, List.getElem?_eq_getElem h2] at this
  simpa using this
theorem comeL_len (es : List Ed) (bl : List Int) (a : Int) : (comeL es bl a).length = 40 := by simp [comeL]
theorem comeL_at {es : List Ed} {bl : List Int} {a : Int} {i : Nat} (h : i < 40) : atb (comeL es bl a) i = wayB es bl a i := by
  unfold atb comeL
  rw [List.getD_eq_getElem?_getD, List.getElem?_map, List.getElem?_range h]
  rfl
noncomputable def marksL (n : Int) (bl : List Int) : List Bool := (List.range 40).map fun (i : Nat) => decide ((i : Int) < n ∧ (i : Int) ∈ bl)
theorem marksL_at {n : Int} {bl : List Int} {i : Nat} (h : i < 40) : atb (marksL n bl) i = decide ((i : Int) < n ∧ (i : Int) ∈ bl) := by
  unfold atb marksL
  rw [List.getD_eq_getElem?_getD, List.getElem?_map, List.getElem?_range h]
  rfl
theorem marks_of (n : Int) (bl : List Int) : Marks n bl (marksL n bl) := ⟨by simp [marksL], fun i hi => by rw [marksL_at hi, decide_eq_true_iff]⟩
theorem Marks.eq {n : Int} {bl : List Int} {c : List Bool} (h : Marks n bl c) : c = marksL n bl := list_ext40 h.1 (marks_of n bl).1 fun i hi => by
  rw [Bool.eq_iff_iff, h.2 i hi, (marks_of n bl).2 i hi]
structure CI (n : Int) (v : Value) (s : List Bool) (w wr : World) (c : List Bool) : Prop where
  mi : MI n v w wr w.heap.size (w.heap.size + 1 + 1) (w.heap.size + 1 + 1 + 1) c
  sh : ArrAt wr (w.heap.size + 1) 81 s
theorem CI.grow {n : Int} {v : Value} {s : List Bool} {w wr wr' : World} {c : List Bool} (h : CI n v s w wr c) (hb : Below wr.heap.size wr wr') : CI n v s w wr' c := ⟨h.mi.grow hb, h.sh.below hb h.sh.lt⟩
theorem CI.set {n : Int} {v : Value} {s : List Bool} {w wr : World} {c : List Bool} (h : CI n v s w wr c) (i : Nat) : CI n v s w (wr.setCell ⟨w.heap.size + 1 + 1 + 1, i, none⟩ (.bool true)) (c.set i true) := ⟨h.mi.set i, h.sh.other _ (by show w.heap.size + 1 ≠ w.heap.size + 1 + 1 + 1; omega)⟩
theorem CI.start (n : Int) (v : Value) (s : List Bool) (w : World) : CI n v s w ((((w.alloc (.cells #[.int .i64 n, v] 32)).alloc (.cells (boolC s) 81)).alloc (.cells (boolC (List.replicate 40 false)) 81)).alloc (.cells (boolC (List.replicate 40 false)) 81)) (List.replicate 40 false) := by
  have hb : Below w.heap.size w ((w.alloc (.cells #[.int .i64 n, v] 32)).alloc (.cells (boolC s) 81)) := ((Below.refl _ w).alloc (Nat.le_refl _) _).alloc (by simp) _
  generalize hW : (w.alloc (.cells #[.int .i64 n, v] 32)).alloc (.cells (boolC s) 81) = W at *
  have hs : W.heap.size = w.heap.size + 1 + 1 := by rw [← hW]; simp
  have hb1 : Below (w.alloc (.cells #[.int .i64 n, v] 32)).heap.size (w.alloc (.cells #[.int .i64 n, v] 32)) W := by rw [← hW]; exact (Below.refl _ _).alloc (Nat.le_refl _) _
  have hx := (BoxAt.new n v w).below hb1
  have hsh : ArrAt W (w.heap.size + 1) 81 s := by rw [← hW]; exact heap_alloc2_new w _ _
  clear hW hb1
  have h2 := heap_alloc2_new W (.cells (boolC (List.replicate 40 false)) 81) (.cells (boolC (List.replicate 40 false)) 81)
  have h1 := heap_alloc2_old W (.cells (boolC (List.replicate 40 false)) 81) (.cells (boolC (List.replicate 40 false)) 81)
  have hb2 : Below W.heap.size W ((W.alloc (.cells (boolC (List.replicate 40 false)) 81)).alloc (.cells (boolC (List.replicate 40 false)) 81)) := ((Below.refl _ W).alloc (Nat.le_refl _) _).alloc (by simp) _
  rw [hs] at h1 h2
  exact ⟨⟨hb.trans (hb2.mono hb.size), hx.below hb2, h1, h2, by simp, by omega, by omega, by omega, by omega⟩, hsh.below hb2 hsh.lt⟩
end Go.Proofs.Ytnpbkjmlmdpggaa.Ly
