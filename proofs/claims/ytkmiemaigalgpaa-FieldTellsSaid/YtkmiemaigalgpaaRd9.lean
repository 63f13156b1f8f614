import Derived.Test.YtkmiemaigalgpaaMove
import Derived.BigQuiet
import Derived.Deep.Light
import Derived.RegionTactic
import Derived.BigRegion
import Derived.Deep.AppendLies
import Derived.Deep.RegionLaw
import Derived.Deep.DrawnRows
/- The contracts of Right and what it calls. -/
set_option linter.unusedVariables false
set_option linter.unusedSimpArgs false
namespace Go.Proofs.Ytkmiemaigalgpaa.Js
open Go.RowKit Lex

theorem cast_zero (n : Nat) : ((n : Int) == 0) = (n == 0) := by rw [Bool.eq_iff_iff]; simp
end Go.Proofs.Ytkmiemaigalgpaa.Js

/- The contract of Right. -/
set_option linter.unusedVariables false
set_option linter.unusedSimpArgs false
namespace Go.Proofs.Ytkmiemaigalgpaa.Js
open Go.RowKit Lex

theorem jAt_form {S : Nat → Prop} {w : World} {d : Nat} {u : Value} {j : J} (h : JAt S w d u j) : ∃ k m e t an nn cn ai ni ci, u = .agg #[.int .i64 k, .int .i64 m, .int .i64 e, .string t, .slice an nn cn, .slice ai ni ci] := by
  obtain ⟨k, m, e, t, ns, is⟩ := j
  obtain ⟨_, an, cn, ai, ci, _, h, _⟩ := h.open_
  exact ⟨_, _, _, _, _, _, _, _, _, _, h⟩

end Go.Proofs.Ytkmiemaigalgpaa.Js

/- The contracts of Same and of what it calls. -/
set_option linter.unusedVariables false
set_option linter.unusedSimpArgs false
namespace Go.Proofs.Ytkmiemaigalgpaa.Js
open Go.RowKit Lex

theorem drop_beq {α : Type} [BEq α] [LawfulBEq α] (a b : List α) (k : Nat) (z : α) (ha : k < a.length) (hb : k < b.length) : (a.drop k == b.drop k) = ((a.getD k z == b.getD k z) && (a.drop (k + 1) == b.drop (k + 1))) := by
  rw [List.drop_eq_getElem_cons ha, List.drop_eq_getElem_cons hb, List.getD_eq_getElem?_getD, List.getElem?_eq_getElem ha, Option.getD_some, List.getD_eq_getElem?_getD, List.getElem?_eq_getElem hb, Option.getD_some]
  rfl
theorem len_bne {α : Type} [BEq α] [LawfulBEq α] {a b : List α} (h : a.length ≠ b.length) : (a == b) = false := by
  rw [Bool.eq_false_iff]
  intro he
  rw [beq_iff_eq] at he
  exact h (by rw [he])
theorem two_old (w : World) (o1 o2 : Obj) : ((w.alloc o1).alloc o2).heap[w.heap.size]? = some o1 := by
  rw [Below.heap_alloc _ _ _ (by simp)]; exact heap_alloc_new w o1
theorem box_at {w w1 : World} {B : Nat} (hb : Below B w w1) {b : Nat} {cs : Array Value} {T : TypeId} {f : Nat × Nat} (h : w.heap[b]? = some (.cells cs T f)) (hB : b < B) (i : Nat) : w1.cell? ⟨b, i, none⟩ = cs[i]? := by
  rw [hb.cell (p := ⟨b, i, none⟩) hB]
  exact cell_of_row _ _ _ _ _ _ h
theorem sameL_step (a b : List J) (k : Nat) (ha : k < a.length) (hb : k < b.length) : sameL (a.drop k) (b.drop k) = (sameJ (a.getD k j0) (b.getD k j0) && sameL (a.drop (k + 1)) (b.drop (k + 1))) := by
  rw [List.drop_eq_getElem_cons ha, List.drop_eq_getElem_cons hb, List.getD_eq_getElem?_getD, List.getElem?_eq_getElem ha, Option.getD_some, List.getD_eq_getElem?_getD, List.getElem?_eq_getElem hb, Option.getD_some, sameL]
/-- Items that lie somewhere. -/
def ItemsAt (S : Nat → Prop) (w : World) (d : Nat) (ai : Option Addr) (is : List J) : Prop :=
  0 < is.length → ∃ b off, ai = some ⟨b, off, none⟩ ∧ S b ∧ b < w.heap.size ∧ ∀ i, i < is.length → ∃ u, LiesAt w b (off + i * 6) u ∧ JAt S w d u (is.getD i j0)
end Go.Proofs.Ytkmiemaigalgpaa.Js

/- The contracts of writeItems, writeValue and Print. -/
set_option linter.unusedVariables false
set_option linter.unusedSimpArgs false
namespace Go.Proofs.Ytkmiemaigalgpaa.Js
open Go.RowKit Lex

theorem six_of {w : World} {b : Nat} {T : TypeId} {f : Nat × Nat} {c0 c1 c2 c3 c4 c5 : Value} (h : w.heap[b]? = some (.cells #[c0, c1, c2, c3, c4, c5] T f)) :
    w.cell? ⟨b, 0, none⟩ = some c0 ∧ w.cell? ⟨b, 1, none⟩ = some c1 ∧ w.cell? ⟨b, 2, none⟩ = some c2 ∧ w.cell? ⟨b, 3, none⟩ = some c3 ∧ w.cell? ⟨b, 4, none⟩ = some c4 ∧ w.cell? ⟨b, 5, none⟩ = some c5 := by
  have k : ∀ i, w.cell? ⟨b, i, none⟩ = (#[c0, c1, c2, c3, c4, c5] : Array Value)[i]? := fun i => cell_of_row _ _ _ _ _ _ h
  exact ⟨k 0, k 1, k 2, k 3, k 4, k 5⟩
end Go.Proofs.Ytkmiemaigalgpaa.Js

/- The reader: here, take, kindOf, begun. -/
set_option linter.unusedVariables false
set_option linter.unusedSimpArgs false
namespace Go.Proofs.Ytkmiemaigalgpaa.Js
open Go.RowKit Lex

theorem two_of {w : World} {b : Nat} {T : TypeId} {f : Nat × Nat} {c0 c1 : Value} (h : w.heap[b]? = some (.cells #[c0, c1] T f)) : w.cell? ⟨b, 0, none⟩ = some c0 ∧ w.cell? ⟨b, 1, none⟩ = some c1 := by
  have k : ∀ i, w.cell? ⟨b, i, none⟩ = (#[c0, c1] : Array Value)[i]? := fun i => cell_of_row _ _ _ _ _ _ h
  exact ⟨k 0, k 1⟩
theorem free_of {w : World} {b : Nat} {cs : Array Value} {T : TypeId} (h : w.heap[b]? = some (.cells cs T (0, 0))) (i : Nat) : w.frozen? ⟨b, i, none⟩ = false := by
  simp [World.frozen?, h]

theorem beq_of_ne {a b : List UInt8} (h : a ≠ b) : (a == b) = false := by simpa using h
/-- The value of what a token begins. -/
def bareV (k m e : Int) (t : List UInt8) : Value := .agg #[.int .i64 k, .int .i64 m, .int .i64 e, .string ⟨t.toArray⟩, .slice none 0 0, .slice none 0 0]
end Go.Proofs.Ytkmiemaigalgpaa.Js

/- The reader: name, until. -/
set_option linter.unusedVariables false
set_option linter.unusedSimpArgs false
namespace Go.Proofs.Ytkmiemaigalgpaa.Js
open Go.RowKit Lex

/-- All that was there is as it was but for the blocks in X. -/
structure Chg (X : Nat → Prop) (w w' : World) : Prop where
  os : w'.os = w.os
  tape : w'.tape = w.tape
  output : w'.output = w.output
  size : w.heap.size ≤ w'.heap.size
  block : ∀ k, k < w.heap.size → ¬ X k → w'.heap[k]? = w.heap[k]?
theorem Chg.refl (X : Nat → Prop) (w : World) : Chg X w w := ⟨rfl, rfl, rfl, Nat.le_refl _, fun _ _ _ => rfl⟩
theorem Chg.trans {X : Nat → Prop} {a b c : World} (h : Chg X a b) (k : Chg X b c) : Chg X a c :=
  ⟨k.os.trans h.os, k.tape.trans h.tape, k.output.trans h.output, Nat.le_trans h.size k.size, fun i hi hx => (k.block i (Nat.lt_of_lt_of_le hi h.size) hx).trans (h.block i hi hx)⟩
theorem Chg.mono {X Y : Nat → Prop} {w w' : World} (h : Chg X w w') (hX : ∀ k, k < w.heap.size → X k → Y k) : Chg Y w w' := ⟨h.os, h.tape, h.output, h.size, fun k hk hx => h.block k hk (fun hy => hx (hX k hk hy))⟩
theorem Chg.of_below {X : Nat → Prop} {w w' : World} (h : Below w.heap.size w w') : Chg X w w' := ⟨h.os, h.tape, h.output, h.size, fun k hk _ => h.block k hk⟩
theorem Chg.of_moves {x : Nat} {w w' : World} (h : Moves w.heap.size x w w') : Chg (· = x) w w' := ⟨h.os, h.tape, h.output, h.size, fun k hk hx => h.block k hk hx⟩
theorem Chg.alloc {X : Nat → Prop} {a w : World} (h : Chg X a w) (o : Obj) : Chg X a (w.alloc o) := h.trans (.of_below ((Below.refl _ _).alloc (Nat.le_refl _) _))
theorem Chg.drew {X : Nat → Prop} {a w : World} (h : Chg X a w) : Chg X a w.drew := ⟨h.os, h.tape, h.output, h.size, h.block⟩
theorem Chg.setCell {X : Nat → Prop} {a w : World} (h : Chg X a w) {p : Addr} (hp : X p.block ∨ a.heap.size ≤ p.block) (u : Value) : Chg X a (w.setCell p u) :=
  ⟨h.os, h.tape, h.output, by simpa [World.setCell] using h.size, fun k hk hx => (Below.heap_setCell _ _ _ _ (fun e => by subst e; rcases hp with hp | hp; exact hx hp; omega)).trans (h.block k hk hx)⟩
theorem Chg.grown {X : Nat → Prop} {a w w' : World} {row : Option Nat} (h : Chg X a w) (hg : w.grownBy w' row) (hr : ∀ k, row = some k → X k ∨ a.heap.size ≤ k) : Chg X a w' :=
  ⟨hg.os.trans h.os, hg.tape.trans h.tape, hg.output.trans h.output, Nat.le_trans h.size hg.size, fun k hk hx => (hg.block k (Nat.lt_of_lt_of_le hk h.size) (fun e => by rcases hr k e.symm with h' | h'; exact hx h'; omega)).trans (h.block k hk hx)⟩
theorem Chg.below {X : Nat → Prop} {w w' : World} {B : Nat} (h : Chg X w w') (hB : B ≤ w.heap.size) (hX : ∀ k, X k → B ≤ k) : Below B w w' := ⟨h.os, h.tape, h.output, h.size, fun k hk => h.block k (by omega) (fun hx => by have := hX k hx; omega)⟩

end Go.Proofs.Ytkmiemaigalgpaa.Js

/- A value under construction, and its items. -/
set_option linter.unusedVariables false
set_option linter.unusedSimpArgs false
namespace Go.Proofs.Ytkmiemaigalgpaa.Js
open Go.RowKit Lex

/-- Where items may lie. -/
def InS (base bv : Nat) (nv iv : Value) (b : Nat) : Prop := base ≤ b ∧ some b ≠ iv.ownBlock ∧ some b ≠ nv.ownBlock ∧ b ≠ bv
/-- A value under construction, in a block of one's own: its names and its items. -/
structure Own2 (base bv n : Nat) (k : Int) (nv iv : Value) (ns : List (List UInt8)) (vs : List Value) (acc : List J) (w : World) : Prop where
  blk : w.heap[bv]? = some (.cells #[.int .i64 k, .int .i64 0, .int .i64 0, .string ⟨#[]⟩, nv, iv] 27 (0, 0))
  irow : w.ownsRow base 27 6 iv acc.length (vs.flatMap aggC)
  nrow : w.ownsRow base 9 1 nv ns.length (ns.map strW)
  vl : vs.length = acc.length
  ine : iv.ownBlock ≠ some bv
  txt : ∀ x ∈ ns, txtB x
  items : ∀ i, i < acc.length → JAt (InS base bv nv iv) w n (vs.getD i undef) (acc.getD i j0)
theorem json_info : (Try.prog.info? 27).map (fun i => (i.zero, i.size, i.bytes)) = some (some (.agg #[.int .i64 0, .int .i64 0, .int .i64 0, .string ⟨#[]⟩, .slice none 0 0, .slice none 0 0]), 6, 88) := by kernel_rfl

theorem new_cells {w : World} {base T g n cap : Nat} {xs : List Value} {c0 c1 c2 c3 c4 c5 : Value} (h : w.ownsRow base T 6 (.slice (some ⟨g, 0, none⟩) (n + 1) cap) (n + 1) (xs ++ [c0, c1, c2, c3, c4, c5])) :
    w.cell? ⟨g, n * 6, none⟩ = some c0 ∧ w.cell? ⟨g, n * 6 + 1, none⟩ = some c1 ∧ w.cell? ⟨g, n * 6 + 2, none⟩ = some c2 ∧ w.cell? ⟨g, n * 6 + 3, none⟩ = some c3 ∧ w.cell? ⟨g, n * 6 + 4, none⟩ = some c4 ∧ w.cell? ⟨g, n * 6 + 5, none⟩ = some c5 := by
  have hl : xs.length = n * 6 := by have := h.1; simp at this; omega
  have k : ∀ i, i < 6 → w.cell? ⟨g, n * 6 + i, none⟩ = [c0, c1, c2, c3, c4, c5][i]? := fun i hi => by
    rw [h.cellAt _ (by omega), List.getElem?_append_right (by omega), hl, Nat.add_sub_cancel_left]
  exact ⟨k 0 (by omega), k 1 (by omega), k 2 (by omega), k 3 (by omega), k 4 (by omega), k 5 (by omega)⟩
theorem set6 (xs : List Value) (n : Nat) (hl : xs.length = n * 6) (z0 z1 z2 z3 z4 z5 c0 c1 c2 c3 c4 c5 : Value) :
    ((((((xs ++ [z0, z1, z2, z3, z4, z5]).set (n * 6) c0).set (n * 6 + 1) c1).set (n * 6 + 2) c2).set (n * 6 + 3) c3).set (n * 6 + 4) c4).set (n * 6 + 5) c5 = xs ++ [c0, c1, c2, c3, c4, c5] := by
  simp [List.set_append, hl]
/-- An element is laid into the last place of a row. -/
theorem stored6 {w : World} {base T g n cap : Nat} {xs : List Value} {z0 z1 z2 z3 z4 z5 : Value} (h : w.ownsRow base T 6 (.slice (some ⟨g, 0, none⟩) (n + 1) cap) (n + 1) (xs ++ [z0, z1, z2, z3, z4, z5])) (c0 c1 c2 c3 c4 c5 : Value) :
    ((((((w.setCell ⟨g, n * 6, none⟩ c0).setCell ⟨g, n * 6 + 1, none⟩ c1).setCell ⟨g, n * 6 + 2, none⟩ c2).setCell ⟨g, n * 6 + 3, none⟩ c3).setCell ⟨g, n * 6 + 4, none⟩ c4).setCell ⟨g, n * 6 + 5, none⟩ c5).ownsRow base T 6 (.slice (some ⟨g, 0, none⟩) (n + 1) cap) (n + 1) (xs ++ [c0, c1, c2, c3, c4, c5]) := by
  have hl : xs.length = n * 6 := by have := h.1; simp at this; omega
  rw [← set6 xs n hl z0 z1 z2 z3 z4 z5 c0 c1 c2 c3 c4 c5]
  exact ((((((h.stored _ c0).1.stored _ c1).1.stored _ c2).1.stored _ c3).1.stored _ c4).1.stored _ c5).1


theorem setCell_comm (w : World) (a b : Addr) (u v : Value) (h : a.block ≠ b.block) : (w.setCell a u).setCell b v = (w.setCell b v).setCell a u := by
  unfold World.setCell
  congr 1
  apply Array.ext_getElem?
  intro i
  simp only [Array.getElem?_modify]
  by_cases h1 : b.block = i
  · by_cases h2 : a.block = i
    · exact absurd (h2.trans h1.symm) h
    · simp [h1, h2]
  · simp [h1]
/-- Six cells are stored. -/
def put6 (w : World) (g o : Nat) (c0 c1 c2 c3 c4 c5 : Value) : World :=
  (((((w.setCell ⟨g, o, none⟩ c0).setCell ⟨g, o + 1, none⟩ c1).setCell ⟨g, o + 2, none⟩ c2).setCell ⟨g, o + 3, none⟩ c3).setCell ⟨g, o + 4, none⟩ c4).setCell ⟨g, o + 5, none⟩ c5
theorem put6_swap (w : World) (g o bv i : Nat) (u c0 c1 c2 c3 c4 c5 : Value) (h : bv ≠ g) : put6 (w.setCell ⟨bv, i, none⟩ u) g o c0 c1 c2 c3 c4 c5 = (put6 w g o c0 c1 c2 c3 c4 c5).setCell ⟨bv, i, none⟩ u := by
  unfold put6
  rw [setCell_comm w ⟨bv, i, none⟩ ⟨g, o, none⟩ _ _ h, setCell_comm _ ⟨bv, i, none⟩ ⟨g, o + 1, none⟩ _ _ h, setCell_comm _ ⟨bv, i, none⟩ ⟨g, o + 2, none⟩ _ _ h, setCell_comm _ ⟨bv, i, none⟩ ⟨g, o + 3, none⟩ _ _ h, setCell_comm _ ⟨bv, i, none⟩ ⟨g, o + 4, none⟩ _ _ h, setCell_comm _ ⟨bv, i, none⟩ ⟨g, o + 5, none⟩ _ _ h]
theorem put6_block (w : World) (g o : Nat) (c0 c1 c2 c3 c4 c5 : Value) (b : Nat) (h : b ≠ g) : (put6 w g o c0 c1 c2 c3 c4 c5).heap[b]? = w.heap[b]? := by
  unfold put6
  rw [Below.heap_setCell _ _ _ _ h, Below.heap_setCell _ _ _ _ h, Below.heap_setCell _ _ _ _ h, Below.heap_setCell _ _ _ _ h, Below.heap_setCell _ _ _ _ h, Below.heap_setCell _ _ _ _ h]
theorem setCell_os (w : World) (a : Addr) (u : Value) : (w.setCell a u).os = w.os := rfl
theorem setCell_tape (w : World) (a : Addr) (u : Value) : (w.setCell a u).tape = w.tape := rfl
theorem setCell_output (w : World) (a : Addr) (u : Value) : (w.setCell a u).output = w.output := rfl
theorem put6_os (w : World) (g o : Nat) (c0 c1 c2 c3 c4 c5 : Value) : (put6 w g o c0 c1 c2 c3 c4 c5).os = w.os ∧ (put6 w g o c0 c1 c2 c3 c4 c5).tape = w.tape ∧ (put6 w g o c0 c1 c2 c3 c4 c5).output = w.output := by
  unfold put6
  exact ⟨by rw [setCell_os, setCell_os, setCell_os, setCell_os, setCell_os, setCell_os], by rw [setCell_tape, setCell_tape, setCell_tape, setCell_tape, setCell_tape, setCell_tape], by rw [setCell_output, setCell_output, setCell_output, setCell_output, setCell_output, setCell_output]⟩
theorem put6_size (w : World) (g o : Nat) (c0 c1 c2 c3 c4 c5 : Value) : (put6 w g o c0 c1 c2 c3 c4 c5).heap.size = w.heap.size := by
  unfold put6; simp [World.setCell]
/-- The last cell of a block is stored. -/
theorem set_cell5 {w : World} {b : Nat} {T : TypeId} {c0 c1 c2 c3 c4 c5 : Value} (h : w.heap[b]? = some (.cells #[c0, c1, c2, c3, c4, c5] T (0, 0))) (u : Value) : (w.setCell ⟨b, 5, none⟩ u).heap[b]? = some (.cells #[c0, c1, c2, c3, c4, u] T (0, 0)) := by
  simp only [World.setCell, Array.getElem?_modify]
  rw [if_pos trivial, h]
  rfl
section
variable {base bv n : Nat} {k : Int} {nv iv : Value} {ns : List (List UInt8)} {vs : List Value} {acc : List J} {w1 wS w2 : World} {g cp : Nat}
/-- What an append and its two stores leave alone. -/
theorem step_frame (hgrow : wS.grownBy w2 iv.ownBlock) (hBS : Below w1.heap.size w1 wS) (hat : iv.ownBlock = some g ∨ w1.heap.size ≤ g) (c0 c1 c2 c3 c4 c5 u : Value) :
    let W := (put6 w2 g (acc.length * 6) c0 c1 c2 c3 c4 c5).setCell ⟨bv, 5, none⟩ u
    (∀ b, b < w1.heap.size → some b ≠ iv.ownBlock → b ≠ bv → W.heap[b]? = w1.heap[b]?) ∧ w1.heap.size ≤ W.heap.size ∧ W.os = w1.os ∧ W.tape = w1.tape ∧ W.output = w1.output := by
  have hs := hgrow.size
  obtain ⟨p1, p2, p3⟩ := put6_os w2 g (acc.length * 6) c0 c1 c2 c3 c4 c5
  have s1 := setCell_os (put6 w2 g (acc.length * 6) c0 c1 c2 c3 c4 c5) ⟨bv, 5, none⟩ u
  have s2 := setCell_tape (put6 w2 g (acc.length * 6) c0 c1 c2 c3 c4 c5) ⟨bv, 5, none⟩ u
  have s3 := setCell_output (put6 w2 g (acc.length * 6) c0 c1 c2 c3 c4 c5) ⟨bv, 5, none⟩ u
  have a1 : w2.os = w1.os := hgrow.os.trans hBS.os
  have a2 : w2.tape = w1.tape := hgrow.tape.trans hBS.tape
  have a3 : w2.output = w1.output := hgrow.output.trans hBS.output
  refine ⟨fun b hb h1 h2 => ?_, ?_, (s1.trans p1).trans a1, (s2.trans p2).trans a2, (s3.trans p3).trans a3⟩
  · have hg : b ≠ g := by
      rcases hat with h | h
      · rintro rfl; exact h1 h.symm
      · omega
    have hal := hBS.block b hb
    have hsS := hBS.size
    rw [Below.heap_setCell _ _ _ _ h2, put6_block _ _ _ _ _ _ _ _ _ _ hg, hgrow.block b (by omega) h1, hal]
  · have : (put6 w2 g (acc.length * 6) c0 c1 c2 c3 c4 c5).heap.size = w2.heap.size := put6_size _ _ _ _ _ _ _ _ _
    have hs2 := hBS.size
    simp only [World.setCell, Array.size_modify] at this ⊢
    omega
/-- An item more. -/
theorem step_own (hO : Own2 base bv n k nv iv ns vs acc w1) (hgrow : wS.grownBy w2 iv.ownBlock) (hBS : Below w1.heap.size w1 wS) (hat : iv.ownBlock = some g ∨ w1.heap.size ≤ g)
    {z0 z1 z2 z3 z4 z5 c0 c1 c2 c3 c4 c5 : Value} (hown : w2.ownsRow base 27 6 (.slice (some ⟨g, 0, none⟩) (acc.length + 1) cp) (acc.length + 1) (vs.flatMap aggC ++ [z0, z1, z2, z3, z4, z5]))
    {S : Nat → Prop} {j : J} (hJ : JAt S w1 n (.agg #[c0, c1, c2, c3, c4, c5]) j) (hq : ∀ b, S b → b < w1.heap.size → base ≤ b ∧ some b ≠ iv.ownBlock ∧ some b ≠ nv.ownBlock ∧ b ≠ bv) :
    Own2 base bv n k nv (.slice (some ⟨g, 0, none⟩) (acc.length + 1) cp) ns (vs ++ [.agg #[c0, c1, c2, c3, c4, c5]]) (acc ++ [j])
      ((put6 w2 g (acc.length * 6) c0 c1 c2 c3 c4 c5).setCell ⟨bv, 5, none⟩ (.slice (some ⟨g, 0, none⟩) (acc.length + 1) cp)) := by
  obtain ⟨F1, F2, F3, F4, F5⟩ := step_frame (acc := acc) (bv := bv) (iv := iv) hgrow hBS hat c0 c1 c2 c3 c4 c5 (.slice (some ⟨g, 0, none⟩) (acc.length + 1) cp)
  have hbl := Own.block_lt hO.blk
  have hbg : bv ≠ g := by
    rcases hat with h | h
    · rintro rfl; exact hO.ine h
    · omega
  have hal := hBS.block bv hbl
  have hsS := hBS.size
  have hne2 : some bv ≠ iv.ownBlock := fun h => hO.ine h.symm
  have hb2 : (put6 w2 g (acc.length * 6) c0 c1 c2 c3 c4 c5).heap[bv]? = w1.heap[bv]? := by
    rw [put6_block _ _ _ _ _ _ _ _ _ _ hbg, hgrow.block bv (by omega) hne2, hal]
  have hnlt : ∀ b, nv.ownBlock = some b → b < w1.heap.size := fun b hb => (hO.nrow.lt b hb).2
  have hnapart : nv.ownBlock = none ∨ nv.ownBlock ≠ iv.ownBlock := Own.own_apart hO.irow hO.nrow (by decide)
  refine ⟨set_cell5 (hb2.trans hO.blk) _, ?_, ?_, by simp [hO.vl], by simpa [Value.ownBlock] using Ne.symm hbg, hO.txt, fun i hi => ?_⟩
  · have h6 := stored6 hown c0 c1 c2 c3 c4 c5
    have := ownsRow_setCell_other h6 (a := ⟨bv, 5, none⟩) (by simpa [Value.ownBlock] using Ne.symm hbg) (.slice (some ⟨g, 0, none⟩) (acc.length + 1) cp)
    simpa [put6, aggC] using this
  · refine ⟨hO.nrow.1, ?_⟩
    rcases hO.nrow.2 with hn | ⟨gn, cap, cur, hv, hbg', hg, hr⟩
    · exact .inl hn
    · refine .inr ⟨gn, cap, cur, hv, hbg', ?_, hr⟩
      have e1 : nv.ownBlock = some gn := by rw [hv]; rfl
      rw [F1 gn (hnlt gn e1) ?_ ?_]; exact hg
      · intro h
        rcases hnapart with h' | h'
        · rw [h'] at e1; cases e1
        · exact h' (e1.trans h)
      · rintro rfl
        have := hO.blk; rw [hg] at this; cases this
  · have hS : ∀ b, (base ≤ b ∧ some b ≠ iv.ownBlock ∧ some b ≠ nv.ownBlock ∧ b ≠ bv) → b < w1.heap.size → InS base bv nv (.slice (some ⟨g, 0, none⟩) (acc.length + 1) cp) b := fun b hb hlt => by
      refine ⟨hb.1, ?_, hb.2.2.1, hb.2.2.2⟩
      show some b ≠ some g
      intro e
      cases e
      rcases hat with h | h
      · exact hb.2.1 h.symm
      · omega
    by_cases hia : i < acc.length
    · have := hO.items i hia
      have e1 : (vs ++ [Value.agg #[c0, c1, c2, c3, c4, c5]]).getD i undef = vs.getD i undef := by rw [List.getD_eq_getElem?_getD, List.getD_eq_getElem?_getD, List.getElem?_append_left (by rw [hO.vl]; exact hia)]
      have e2 : (acc ++ [j]).getD i j0 = acc.getD i j0 := by rw [List.getD_eq_getElem?_getD, List.getD_eq_getElem?_getD, List.getElem?_append_left hia]
      rw [e1, e2]
      exact this.keep (fun b hb hlt => hS b hb hlt) (fun b hb hlt => F1 b hlt hb.2.1 hb.2.2.2) F2
    · have hi' : i = acc.length := by simp at hi; omega
      subst hi'
      have e1 : (vs ++ [Value.agg #[c0, c1, c2, c3, c4, c5]]).getD acc.length undef = .agg #[c0, c1, c2, c3, c4, c5] := by rw [← hO.vl, List.getD_eq_getElem?_getD, List.getElem?_append_right (Nat.le_refl _)]; simp
      have e2 : (acc ++ [j]).getD acc.length j0 = j := by rw [List.getD_eq_getElem?_getD, List.getElem?_append_right (Nat.le_refl _)]; simp
      rw [e1, e2]
      exact hJ.keep (fun b hb hlt => hS b (hq b hb hlt) hlt) (fun b hb hlt => F1 b hlt (hq b hb hlt).2.1 (hq b hb hlt).2.2.2) F2
/-- What an append to the names and its store leave alone. -/
theorem name_frame (hgrow : wS.grownBy w2 nv.ownBlock) (hBS : Below w1.heap.size w1 wS) (u : Value) :
    (∀ b, b < w1.heap.size → some b ≠ nv.ownBlock → b ≠ bv → (w2.setCell ⟨bv, 4, none⟩ u).heap[b]? = w1.heap[b]?) ∧ w1.heap.size ≤ (w2.setCell ⟨bv, 4, none⟩ u).heap.size ∧ (w2.setCell ⟨bv, 4, none⟩ u).os = w1.os ∧ (w2.setCell ⟨bv, 4, none⟩ u).tape = w1.tape ∧ (w2.setCell ⟨bv, 4, none⟩ u).output = w1.output := by
  have hs := hgrow.size
  have hsS := hBS.size
  refine ⟨fun b hb h1 h2 => ?_, ?_, hgrow.os.trans hBS.os, hgrow.tape.trans hBS.tape, hgrow.output.trans hBS.output⟩
  · rw [Below.heap_setCell _ _ _ _ h2, hgrow.block b (by omega) h1, hBS.block b hb]
  · simp only [World.setCell, Array.size_modify]; omega
theorem set_cell4 {w : World} {b : Nat} {T : TypeId} {c0 c1 c2 c3 c4 c5 : Value} (h : w.heap[b]? = some (.cells #[c0, c1, c2, c3, c4, c5] T (0, 0))) (u : Value) : (w.setCell ⟨b, 4, none⟩ u).heap[b]? = some (.cells #[c0, c1, c2, c3, u, c5] T (0, 0)) := by
  simp only [World.setCell, Array.getElem?_modify]
  rw [if_pos trivial, h]
  rfl
/-- A name more. -/
theorem step_name (hO : Own2 base bv n k nv iv ns vs acc w1) (hbv : bv < base) (hgrow : wS.grownBy w2 nv.ownBlock) (hBS : Below w1.heap.size w1 wS) (hat : nv.ownBlock = some g ∨ w1.heap.size ≤ g) {nm : List UInt8} (ht : txtB nm)
    (hown : w2.ownsRow base 9 1 (.slice (some ⟨g, 0, none⟩) (ns.length + 1) cp) (ns.length + 1) (ns.map strW ++ [strW nm])) :
    Own2 base bv n k (.slice (some ⟨g, 0, none⟩) (ns.length + 1) cp) iv (ns ++ [nm]) vs acc (w2.setCell ⟨bv, 4, none⟩ (.slice (some ⟨g, 0, none⟩) (ns.length + 1) cp)) := by
  obtain ⟨F1, F2, F3, F4, F5⟩ := name_frame (bv := bv) (nv := nv) hgrow hBS (.slice (some ⟨g, 0, none⟩) (ns.length + 1) cp)
  have hbl := Own.block_lt hO.blk
  have hsS := hBS.size
  have hnlt : ∀ b, nv.ownBlock = some b → base ≤ b ∧ b < w1.heap.size := fun b hb => hO.nrow.lt b hb
  have hne : some bv ≠ nv.ownBlock := fun h => by have := (hnlt bv h.symm).1; omega
  have hbg : bv ≠ g := by
    rcases hat with h | h
    · rintro rfl; exact hne h.symm
    · omega
  have hb2 : w2.heap[bv]? = w1.heap[bv]? := by rw [hgrow.block bv (by omega) hne, hBS.block bv hbl]
  have hapart : iv.ownBlock = none ∨ iv.ownBlock ≠ nv.ownBlock := Own.own_apart hO.nrow hO.irow (by decide)
  have hilt : ∀ b, iv.ownBlock = some b → base ≤ b ∧ b < w1.heap.size := fun b hb => hO.irow.lt b hb
  refine ⟨set_cell4 (hb2.trans hO.blk) _, ?_, ?_, hO.vl, hO.ine, ?_, fun i hi => ?_⟩
  · refine ⟨hO.irow.1, ?_⟩
    rcases hO.irow.2 with hn | ⟨gi, cap, cur, hv, hbg', hg, hr⟩
    · exact .inl hn
    · refine .inr ⟨gi, cap, cur, hv, hbg', ?_, hr⟩
      have e1 : iv.ownBlock = some gi := by rw [hv]; rfl
      rw [F1 gi (hilt gi e1).2 ?_ (by omega)]; exact hg
      intro h
      rcases hapart with h' | h'
      · rw [h'] at e1; cases e1
      · exact h' (e1.trans h)
  · have := ownsRow_setCell_other hown (a := ⟨bv, 4, none⟩) (by simpa [Value.ownBlock] using Ne.symm hbg) (.slice (some ⟨g, 0, none⟩) (ns.length + 1) cp)
    simpa using this
  · intro x hx
    rcases List.mem_append.1 hx with hx | hx
    · exact hO.txt x hx
    · simp at hx; subst hx; exact ht
  · refine (hO.items i hi).keep (fun b hb hlt => ⟨hb.1, hb.2.1, ?_, hb.2.2.2⟩) (fun b hb hlt => F1 b hlt hb.2.2.1 hb.2.2.2) F2
    show some b ≠ some g
    intro e
    cases e
    rcases hat with h | h
    · exact hb.2.2.1 h.symm
    · omega
end
end Go.Proofs.Ytkmiemaigalgpaa.Js

/- The closure of an array's items. -/
set_option linter.unusedVariables false
set_option linter.unusedSimpArgs false
namespace Go.Proofs.Ytkmiemaigalgpaa.Js
open Go.RowKit Lex

theorem Own2.chg {base bv n : Nat} {k : Int} {nv iv : Value} {ns : List (List UInt8)} {vs : List Value} {acc : List J} {w w' : World} {X : Nat → Prop} (h : Own2 base bv n k nv iv ns vs acc w) (hc : Chg X w w') (h1 : ∀ b, base ≤ b → ¬ X b) (h2 : ¬ X bv) : Own2 base bv n k nv iv ns vs acc w' := by
  have keep : ∀ {e : TypeId} {s n : Nat} {v : Value} {xs : List Value}, w.ownsRow base e s v n xs → w'.ownsRow base e s v n xs := fun {e s n v xs} hr => by
    refine ⟨hr.1, ?_⟩
    rcases hr.2 with hn | ⟨g, cap, cur, hv, hbg, hg, hq⟩
    · exact .inl hn
    · exact .inr ⟨g, cap, cur, hv, hbg, (hc.block g (Own.block_lt hg) (h1 g hbg)).trans hg, hq⟩
  exact ⟨(hc.block bv (Own.block_lt h.blk) h2).trans h.blk, keep h.irow, keep h.nrow, h.vl, h.ine, h.txt, fun i hi => (h.items i hi).keep (fun _ hb _ => hb) (fun b hb hl => hc.block b hl (h1 b hb.1)) hc.size⟩
theorem own_slice {w : World} {base e s n : Nat} {v : Value} {xs : List Value} (h : w.ownsRow base e s v n xs) : ∃ ao c, v = .slice ao n c := by
  rcases h.2 with ⟨rfl, hn⟩ | ⟨g, cp, cur, hv, _⟩
  · exact ⟨none, 0, by rw [hn]⟩
  · exact ⟨_, _, hv⟩
end Go.Proofs.Ytkmiemaigalgpaa.Js

/- The closure of an object's names and items. -/
set_option linter.unusedVariables false
set_option linter.unusedSimpArgs false
namespace Go.Proofs.Ytkmiemaigalgpaa.Js
open Go.RowKit Lex

theorem str_info2 : (Try.prog.info? 9).map (fun i => (i.zero, i.size, i.bytes)) = some (some (.string ⟨#[]⟩), 1, 16) := by kernel_rfl

end Go.Proofs.Ytkmiemaigalgpaa.Js

/- The contracts of array and object. -/
set_option linter.unusedVariables false
set_option linter.unusedSimpArgs false
namespace Go.Proofs.Ytkmiemaigalgpaa.Js
open Go.RowKit Lex

theorem flat6_get {vs : List Value} (h6 : ∀ v ∈ vs, (aggC v).length = 6) : ∀ (j i : Nat), j < vs.length → i < 6 → (vs.flatMap aggC)[j * 6 + i]? = (aggC (vs.getD j undef))[i]? := by
  induction vs with
  | nil => intro j i hj; simp at hj
  | cons x l ih =>
    intro j i hj hi
    have hx := h6 x (by simp)
    rw [List.flatMap_cons]
    cases j with
    | zero => rw [List.getElem?_append_left (by omega)]; simp
    | succ j =>
      rw [List.getElem?_append_right (by rw [hx]; omega), hx, show (j + 1) * 6 + i - 6 = j * 6 + i by omega, ih (fun v hv => h6 v (by simp [hv])) j i (by simpa using hj) hi]
      simp
/-- A value under construction reads as the value. -/
theorem Own2.jat {base bv n : Nat} {k : Int} {nv iv : Value} {ns : List (List UInt8)} {vs : List Value} {acc : List J} {w : World} (h : Own2 base bv n k nv iv ns vs acc w) (hk : i64B k) (hn : ns.length ≤ 1000000) (ha : acc.length ≤ 1000000) :
    JAt (fun b => base ≤ b) w (n + 1) (.agg #[.int .i64 k, .int .i64 0, .int .i64 0, .string ⟨#[]⟩, nv, iv]) (.mk k 0 0 [] ns acc) := by
  have hz : i64B 0 := ⟨by decide, by decide⟩
  have hmem : ∀ v ∈ vs, ∃ i, i < acc.length ∧ v = vs.getD i undef := fun v hv => by
    obtain ⟨i, hi, rfl⟩ := List.mem_iff_getElem.1 hv
    exact ⟨i, by rw [← h.vl]; exact hi, by rw [List.getD_eq_getElem?_getD, List.getElem?_eq_getElem hi]; rfl⟩
  have h6 : ∀ v ∈ vs, (aggC v).length = 6 := fun v hv => by
    obtain ⟨i, hi, rfl⟩ := hmem v hv
    obtain ⟨_, _, _, _, _, _, _, _, _, _, e⟩ := jAt_form (h.items i hi)
    rw [e]; rfl
  have hst : StrsAt (fun b => base ≤ b) w nv ns := by
    obtain ⟨an, cn, rfl⟩ := own_slice h.nrow
    rcases h.nrow.2 with ⟨e, h0⟩ | ⟨g, cap, cur, hv, hbg, hg, hnc, hcm, hcs, htake⟩
    · exact ⟨an, cn, rfl, by omega, by omega, h.txt, fun hp => by omega⟩
    · cases hv
      refine ⟨_, _, rfl, hnc, by omega, h.txt, fun _ => ⟨g, 0, rfl, hbg, Own.block_lt hg, fun j hj => ?_⟩⟩
      rw [Nat.zero_add]
      have := h.nrow.cellAt j (by omega)
      rw [this, List.getElem?_map, List.getElem?_eq_getElem hj, List.getD_eq_getElem?_getD, List.getElem?_eq_getElem hj]
      rfl
  obtain ⟨ao, ci, rfl⟩ := own_slice h.irow
  refine ⟨nv, ao, ci, rfl, hk, hz, hz, by unfold txtB; simp, hst, ?_, by omega, fun hp => ?_⟩
  · rcases h.irow.2 with ⟨e, h0⟩ | ⟨g, cap, cur, hv, hbg, hg, hnc, _⟩
    · omega
    · cases hv; exact hnc
  · rcases h.irow.2 with ⟨e, h0⟩ | ⟨g, cap, cur, hv, hbg, hg, hnc, _⟩
    · omega
    · cases hv
      refine ⟨g, 0, rfl, hbg, Own.block_lt hg, fun i hi => ⟨vs.getD i undef, fun q c hc => ?_, (h.items i hi).keep (fun b hb _ => hb.1) (fun _ _ _ => rfl) (Nat.le_refl _)⟩⟩
      have hi2 : i < vs.length := by rw [h.vl]; exact hi
      have hq : q < 6 := by
        have := (List.getElem?_eq_some_iff.1 hc).1
        rw [h6 _ (by rw [List.getD_eq_getElem?_getD, List.getElem?_eq_getElem hi2]; exact List.getElem_mem _)] at this
        exact this
      rw [Nat.zero_add, h.irow.cellAt (i * 6 + q) (by omega), flat6_get h6 i q hi2 hq, hc]

theorem alloc4 (w : World) (o1 o2 o3 o4 : Obj) : ((((w.alloc o1).alloc o2).alloc o3).alloc o4).heap[w.heap.size]? = some o1 ∧ ((((w.alloc o1).alloc o2).alloc o3).alloc o4).heap[w.heap.size + 1]? = some o2 ∧
    ((((w.alloc o1).alloc o2).alloc o3).alloc o4).heap[w.heap.size + 2]? = some o3 ∧ ((((w.alloc o1).alloc o2).alloc o3).alloc o4).heap[w.heap.size + 3]? = some o4 ∧ ((((w.alloc o1).alloc o2).alloc o3).alloc o4).heap.size = w.heap.size + 4 := by
  have n2 : ((w.alloc o1).alloc o2).heap[w.heap.size + 1]? = some o2 := by simpa using heap_alloc_new (w.alloc o1) o2
  have n3 : (((w.alloc o1).alloc o2).alloc o3).heap[w.heap.size + 2]? = some o3 := by simpa using heap_alloc_new ((w.alloc o1).alloc o2) o3
  have n4 : ((((w.alloc o1).alloc o2).alloc o3).alloc o4).heap[w.heap.size + 3]? = some o4 := by simpa using heap_alloc_new (((w.alloc o1).alloc o2).alloc o3) o4
  refine ⟨?_, ?_, ?_, n4, by simp⟩
  · rw [Below.heap_alloc _ _ _ (by simp <;> omega), Below.heap_alloc _ _ _ (by simp <;> omega), Below.heap_alloc _ _ _ (by simp)]; exact heap_alloc_new w o1
  · rw [Below.heap_alloc _ _ _ (by simp <;> omega), Below.heap_alloc _ _ _ (by simp)]; exact n2
  · rw [Below.heap_alloc _ _ _ (by simp)]; exact n3
def zero6 : Array Value := #[.int .i64 0, .int .i64 0, .int .i64 0, .string ⟨#[]⟩, .slice none 0 0, .slice none 0 0]
theorem own2_new {w : World} {base bv n : Nat} {k : Int} (h : w.heap[bv]? = some (.cells #[.int .i64 k, .int .i64 0, .int .i64 0, .string ⟨#[]⟩, .slice none 0 0, .slice none 0 0] 27 (0, 0))) : Own2 base bv n k (.slice none 0 0) (.slice none 0 0) [] [] [] w :=
  ⟨h, World.ownsRow_nil _ _ _ _, World.ownsRow_nil _ _ _ _, rfl, by simp [Value.ownBlock], fun x hx => by simp at hx, fun i hi => by simp at hi⟩
end Go.Proofs.Ytkmiemaigalgpaa.Js

/- The contracts of value and Parse. -/
set_option linter.unusedVariables false
set_option linter.unusedSimpArgs false
namespace Go.Proofs.Ytkmiemaigalgpaa.Js
open Go.RowKit Lex

theorem leaf_jat {S : Nat → Prop} {w : World} {d : Nat} {k m e : Int} {t : List UInt8} (hk : i64B k) (hm : i64B m) (he : i64B e) (ht : txtB t) : JAt S w (d + 1) (bareV k m e t) (.mk k m e t [] []) :=
  ⟨.slice none 0 0, none, 0, rfl, hk, hm, he, ht, ⟨none, 0, rfl, by simp, by simp, fun x hx => by simp at hx, fun h => by simp at h⟩, by simp, by simp, fun h => by simp at h⟩
theorem cell_alloc_old (w : World) (o : Obj) (b i : Nat) (h : b < w.heap.size) : (w.alloc o).cell? ⟨b, i, none⟩ = w.cell? ⟨b, i, none⟩ := World.cell?_of_block (w := w) (a := ⟨b, i, none⟩) (Below.heap_alloc _ _ _ h)
theorem size_set (w : World) (a : Addr) (u : Value) : (w.setCell a u).heap.size = w.heap.size := by simp [World.setCell]
end Go.Proofs.Ytkmiemaigalgpaa.Js

/- The walk of the law JsonDeep: it answers true. -/
set_option linter.unusedVariables false
set_option linter.unusedSimpArgs false
namespace Go.Proofs.Ytkmiemaigalgpaa.Js
open Go.RowKit Lex

theorem put6_self {w : World} {b : Nat} {T : TypeId} {d0 d1 d2 d3 d4 d5 : Value} (h : w.heap[b]? = some (.cells #[d0, d1, d2, d3, d4, d5] T (0, 0))) (c0 c1 c2 c3 c4 c5 : Value) : (put6 w b 0 c0 c1 c2 c3 c4 c5).heap[b]? = some (.cells #[c0, c1, c2, c3, c4, c5] T (0, 0)) := by
  unfold put6
  have e1 := heap_setCell_same w b 0 _ T c0 h
  have e2 := heap_setCell_same _ b (0 + 1) _ T c1 e1
  have e3 := heap_setCell_same _ b (0 + 2) _ T c2 e2
  have e4 := heap_setCell_same _ b (0 + 3) _ T c3 e3
  have e5 := heap_setCell_same _ b (0 + 4) _ T c4 e4
  have e6 := heap_setCell_same _ b (0 + 5) _ T c5 e5
  rw [e6]; rfl
/-- A value with one item. -/
theorem jat_one {S : Nat → Prop} {w : World} {d : Nat} {k : Int} {nv : Value} {ns : List (List UInt8)} {b : Nat} {T : TypeId} {f : Nat × Nat} {c0 c1 c2 c3 c4 c5 : Value} {j : J} (hk : i64B k) (hn : StrsAt S w nv ns) (hS : S b)
    (hb : w.heap[b]? = some (.cells #[c0, c1, c2, c3, c4, c5] T f)) (hJ : JAt S w d (.agg #[c0, c1, c2, c3, c4, c5]) j) : JAt S w (d + 1) (.agg #[.int .i64 k, .int .i64 0, .int .i64 0, .string ⟨#[]⟩, nv, .slice (some ⟨b, 0, none⟩) 1 1]) (.mk k 0 0 [] ns [j]) := by
  have z : i64B 0 := ⟨by decide, by decide⟩
  refine ⟨nv, some ⟨b, 0, none⟩, 1, rfl, hk, z, z, by unfold txtB; simp, hn, by simp, by simp, fun _ => ⟨b, 0, rfl, hS, Own.block_lt hb, fun i hi => ?_⟩⟩
  obtain rfl : i = 0 := by simp at hi; omega
  refine ⟨_, fun q c hc => ?_, hJ⟩
  rw [cell_of_row _ _ _ _ _ _ hb]
  simpa [aggC] using hc
theorem strs_nil {S : Nat → Prop} {w : World} : StrsAt S w (.slice none 0 0) [] := ⟨none, 0, rfl, by simp, by simp, fun x hx => by simp at hx, fun h => by simp at h⟩
theorem strs_one {S : Nat → Prop} {w : World} {b : Nat} {T : TypeId} {f : Nat × Nat} {t : List UInt8} (ht : txtB t) (hS : S b) (hb : w.heap[b]? = some (.cells #[.string ⟨t.toArray⟩] T f)) : StrsAt S w (.slice (some ⟨b, 0, none⟩) 1 1) [t] :=
  ⟨some ⟨b, 0, none⟩, 1, rfl, by simp, by simp, fun x hx => by simp at hx; subst hx; exact ht, fun _ => ⟨b, 0, rfl, hS, Own.block_lt hb, fun j hj => by
    obtain rfl : j = 0 := by simp at hj; omega
    rw [cell_of_row _ _ _ _ _ _ hb]; rfl⟩⟩
section
variable {wr : World} {bv k : Nat} {k' m e : Int} {t : ByteArray} {an ai : Option Addr} {nn cn ni ci : Nat}
end
theorem below_put6' {w w1 : World} {bres B : Nat} (h : Below B w w1) (hb : B ≤ bres) (c0 c1 c2 c3 c4 c5 : Value) : Below B w (put6 w1 bres 0 c0 c1 c2 c3 c4 c5) := by
  obtain ⟨p1, p2, p3⟩ := put6_os w1 bres 0 c0 c1 c2 c3 c4 c5
  exact ⟨p1.trans h.os, p2.trans h.tape, p3.trans h.output, by rw [put6_size]; exact h.size, fun k hk => (put6_block w1 bres 0 c0 c1 c2 c3 c4 c5 k (by omega)).trans (h.block k hk)⟩

end Go.Proofs.Ytkmiemaigalgpaa.Js
