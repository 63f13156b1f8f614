import Derived.Test.YtgfkpfppdoeifaaGreatDoorRd3
import Derived.Test.YtgfkpfppdoeifaaGreatDoorWr3
import Derived.Deep.AppendLies
import Derived.Deep.RegionLaw
import Derived.Deep.DrawnRows
/- A value under construction, and its items. -/
set_option linter.unusedVariables false
set_option linter.unusedSimpArgs false
namespace Go.Proofs.YtgfkpfppdoeifaaGreatDoor.Js
open Go.RowKit Lex

/-- What value leaves. -/
def VRet (w : World) (rb bt cap : Nat) (ts : List Tok) (n : Nat) (r : R) (e : Ending) (w' : World) : Prop :=
  ∃ k m e1 t an nn cn ai ni ci, e = .returned (.tuple #[.agg #[.int .i64 k, .int .i64 m, .int .i64 e1, .string t, .slice an nn cn, .slice ai ni ci], .int .i64 r.er]) ∧ Rd w' rb bt cap ts r.l ∧ Chg (· = rb) w w' ∧
    (r.er = 0 → JAt (fun b => w.heap.size ≤ b) w' n (.agg #[.int .i64 k, .int .i64 m, .int .i64 e1, .string t, .slice an nn cn, .slice ai ni ci]) r.j)
def ValOk (n : Nat) : Prop := ∀ (w : World) (rb bt cap : Nat) (ts l : List Tok), Rd w rb bt cap ts l → Calls Tryz.prog 54 #[.pointer (some ⟨rb, 0, none⟩), .int .i64 ((17 - n : Nat) : Int)] w (VRet w rb bt cap ts n (valS n l))

/-- Where items may lie. -/
def InS (base bv : Nat) (nv iv : Value) (b : Nat) : Prop := base ≤ b ∧ some b ≠ iv.ownBlock ∧ some b ≠ nv.ownBlock ∧ b ≠ bv
/-- A value under construction, in a block of one's own: its names and its items. -/
structure Own2 (base bv n : Nat) (k : Int) (nv iv : Value) (ns : List (List UInt8)) (vs : List Value) (acc : List J) (w : World) : Prop where
  blk : w.heap[bv]? = some (.cells #[.int .i64 k, .int .i64 0, .int .i64 0, .string ⟨#[]⟩, nv, iv] 49 (0, 0))
  irow : w.ownsRow base 49 6 iv acc.length (vs.flatMap aggC)
  nrow : w.ownsRow base 9 1 nv ns.length (ns.map strW)
  vl : vs.length = acc.length
  ine : iv.ownBlock ≠ some bv
  txt : ∀ x ∈ ns, txtB x
  items : ∀ i, i < acc.length → JAt (InS base bv nv iv) w n (vs.getD i undef) (acc.getD i j0)
theorem json_info : (Tryz.prog.info? 49).map (fun i => (i.zero, i.size, i.bytes)) = some (some (.agg #[.int .i64 0, .int .i64 0, .int .i64 0, .string ⟨#[]⟩, .slice none 0 0, .slice none 0 0]), 6, 88) := by kernel_rfl

theorem new_cells {w : World} {base T g n cap : Nat} {xs : List Value} {c0 c1 c2 c3 c4 c5 : Value} (h : w.ownsRow base T 6 (.slice (some ⟨g, 0, none⟩) (n + 1) cap) (n + 1) (xs ++ [c0, c1, c2, c3, c4, c5])) :
    w.cell? ⟨g, n * 6, none⟩ = some c0 ∧ w.cell? ⟨g, n * 6 + 1, none⟩ = some c1 ∧ w.cell? ⟨g, n * 6 + 2, none⟩ = some c2 ∧ w.cell? ⟨g, n * 6 + 3, none⟩ = some c3 ∧ w.cell? ⟨g, n * 6 + 4, none⟩ = some c4 ∧ w.cell? ⟨g, n * 6 + 5, none⟩ = some c5 := by
  have hl : xs.length = n * 6 := by have := h.1; simp at this; omega
  have k : ∀ i, i < 6 → w.cell? ⟨g, n * 6 + i, none⟩ = [c0, c1, c2, c3, c4, c5][i]? := fun i hi => by
    rw [h.cellAt _ (by omega), List.getElem?_append_right (by omega), hl, Nat.add_sub_cancel_left]
  exact ⟨k 0 (by omega), k 1 (by omega), k 2 (by omega), k 3 (by omega), k 4 (by omega), k 5 (by omega)⟩
theorem set6 (xs : List Value) (n : Nat) (hl : xs.length = n * 6) (z0 z1 z2 z3 z4 z5 c0 c1 c2 c3 c4 c5 : Value) :
    ((((((xs ++ [z0, z1, z2, z3, z4, z5]).set (n * 6) c0).set (n * 6 + 1) c1).set (n * 6 + 2) c2).set (n * 6 + 3) c3).set (n * 6 + 4) c4).set (n * 6 + 5) c5 = xs ++ [c0, c1, c2, c3, c4, c5] := by
  simp [List.set_append, hl]
/-- An element is laid into the last place of a row. -/
theorem stored6 {w : World} {base T g n cap : Nat} {xs : List Value} {z0 z1 z2 z3 z4 z5 : Value} (h : w.ownsRow base T 6 (.slice (some ⟨g, 0, none⟩) (n + 1) cap) (n + 1) (xs ++ [z0, z1, z2, z3, z4, z5])) (c0 c1 c2 c3 c4 c5 : Value) :
    ((((((w.setCell ⟨g, n * 6, none⟩ c0).setCell ⟨g, n * 6 + 1, none⟩ c1).setCell ⟨g, n * 6 + 2, none⟩ c2).setCell ⟨g, n * 6 + 3, none⟩ c3).setCell ⟨g, n * 6 + 4, none⟩ c4).setCell ⟨g, n * 6 + 5, none⟩ c5).ownsRow base T 6 (.slice (some ⟨g, 0, none⟩) (n + 1) cap) (n + 1) (xs ++ [c0, c1, c2, c3, c4, c5]) := by
  have hl : xs.length = n * 6 := by have := h.1; simp at this; omega
  rw [← set6 xs n hl z0 z1 z2 z3 z4 z5 c0 c1 c2 c3 c4 c5]
  exact ((((((h.stored _ c0).1.stored _ c1).1.stored _ c2).1.stored _ c3).1.stored _ c4).1.stored _ c5).1


theorem setCell_comm (w : World) (a b : Addr) (u v : Value) (h : a.block ≠ b.block) : (w.setCell a u).setCell b v = (w.setCell b v).setCell a u := by
  unfold World.setCell
  congr 1
  apply Array.ext_getElem?
  intro i
  simp only [Array.getElem?_modify]
  by_cases h1 : b.block = i
  · by_cases h2 : a.block = i
    · exact absurd (h2.trans h1.symm) h
    · simp [h1, h2]
  · simp [h1]
/-- Six cells are stored. -/
def put6 (w : World) (g o : Nat) (c0 c1 c2 c3 c4 c5 : Value) : World :=
  (((((w.setCell ⟨g, o, none⟩ c0).setCell ⟨g, o + 1, none⟩ c1).setCell ⟨g, o + 2, none⟩ c2).setCell ⟨g, o + 3, none⟩ c3).setCell ⟨g, o + 4, none⟩ c4).setCell ⟨g, o + 5, none⟩ c5
theorem put6_swap (w : World) (g o bv i : Nat) (u c0 c1 c2 c3 c4 c5 : Value) (h : bv ≠ g) : put6 (w.setCell ⟨bv, i, none⟩ u) g o c0 c1 c2 c3 c4 c5 = (put6 w g o c0 c1 c2 c3 c4 c5).setCell ⟨bv, i, none⟩ u := by
  unfold put6
  rw [setCell_comm w ⟨bv, i, none⟩ ⟨g, o, none⟩ _ _ h, setCell_comm _ ⟨bv, i, none⟩ ⟨g, o + 1, none⟩ _ _ h, setCell_comm _ ⟨bv, i, none⟩ ⟨g, o + 2, none⟩ _ _ h, setCell_comm _ ⟨bv, i, none⟩ ⟨g, o + 3, none⟩ _ _ h, setCell_comm _ ⟨bv, i, none⟩ ⟨g, o + 4, none⟩ _ _ h, setCell_comm _ ⟨bv, i, none⟩ ⟨g, o + 5, none⟩ _ _ h]
theorem put6_block (w : World) (g o : Nat) (c0 c1 c2 c3 c4 c5 : Value) (b : Nat) (h : b ≠ g) : (put6 w g o c0 c1 c2 c3 c4 c5).heap[b]? = w.heap[b]? := by
  unfold put6
  rw [Below.heap_setCell _ _ _ _ h, Below.heap_setCell _ _ _ _ h, Below.heap_setCell _ _ _ _ h, Below.heap_setCell _ _ _ _ h, Below.heap_setCell _ _ _ _ h, Below.heap_setCell _ _ _ _ h]
theorem setCell_os (w : World) (a : Addr) (u : Value) : (w.setCell a u).os = w.os := rfl
theorem setCell_tape (w : World) (a : Addr) (u : Value) : (w.setCell a u).tape = w.tape := rfl
theorem setCell_output (w : World) (a : Addr) (u : Value) : (w.setCell a u).output = w.output := rfl
theorem put6_os (w : World) (g o : Nat) (c0 c1 c2 c3 c4 c5 : Value) : (put6 w g o c0 c1 c2 c3 c4 c5).os = w.os ∧ (put6 w g o c0 c1 c2 c3 c4 c5).tape = w.tape ∧ (put6 w g o c0 c1 c2 c3 c4 c5).output = w.output := by
  unfold put6
  exact ⟨by rw [setCell_os, setCell_os, setCell_os, setCell_os, setCell_os, setCell_os], by rw [setCell_tape, setCell_tape, setCell_tape, setCell_tape, setCell_tape, setCell_tape], by rw [setCell_output, setCell_output, setCell_output, setCell_output, setCell_output, setCell_output]⟩
theorem put6_size (w : World) (g o : Nat) (c0 c1 c2 c3 c4 c5 : Value) : (put6 w g o c0 c1 c2 c3 c4 c5).heap.size = w.heap.size := by
  unfold put6; simp [World.setCell]
/-- The last cell of a block is stored. -/
theorem set_cell5 {w : World} {b : Nat} {T : TypeId} {c0 c1 c2 c3 c4 c5 : Value} (h : w.heap[b]? = some (.cells #[c0, c1, c2, c3, c4, c5] T (0, 0))) (u : Value) : (w.setCell ⟨b, 5, none⟩ u).heap[b]? = some (.cells #[c0, c1, c2, c3, c4, u] T (0, 0)) := by
  simp only [World.setCell, Array.getElem?_modify]
  rw [if_pos trivial, h]
  rfl
section
variable {base bv n : Nat} {k : Int} {nv iv : Value} {ns : List (List UInt8)} {vs : List Value} {acc : List J} {w1 wS w2 : World} {g cp : Nat}
/-- What an append and its two stores leave alone. -/
theorem step_frame (hgrow : wS.grownBy w2 iv.ownBlock) (hBS : Below w1.heap.size w1 wS) (hat : iv.ownBlock = some g ∨ w1.heap.size ≤ g) (c0 c1 c2 c3 c4 c5 u : Value) :
    let W := (put6 w2 g (acc.length * 6) c0 c1 c2 c3 c4 c5).setCell ⟨bv, 5, none⟩ u
    (∀ b, b < w1.heap.size → some b ≠ iv.ownBlock → b ≠ bv → W.heap[b]? = w1.heap[b]?) ∧ w1.heap.size ≤ W.heap.size ∧ W.os = w1.os ∧ W.tape = w1.tape ∧ W.output = w1.output := by
  have hs := hgrow.size
  obtain ⟨p1, p2, p3⟩ := put6_os w2 g (acc.length * 6) c0 c1 c2 c3 c4 c5
  have s1 := setCell_os (put6 w2 g (acc.length * 6) c0 c1 c2 c3 c4 c5) ⟨bv, 5, none⟩ u
  have s2 := setCell_tape (put6 w2 g (acc.length * 6) c0 c1 c2 c3 c4 c5) ⟨bv, 5, none⟩ u
  have s3 := setCell_output (put6 w2 g (acc.length * 6) c0 c1 c2 c3 c4 c5) ⟨bv, 5, none⟩ u
  have a1 : w2.os = w1.os := hgrow.os.trans hBS.os
  have a2 : w2.tape = w1.tape := hgrow.tape.trans hBS.tape
  have a3 : w2.output = w1.output := hgrow.output.trans hBS.output
  refine ⟨fun b hb h1 h2 => ?_, ?_, (s1.trans p1).trans a1, (s2.trans p2).trans a2, (s3.trans p3).trans a3⟩
  · have hg : b ≠ g := by
      rcases hat with h | h
      · rintro rfl; exact h1 h.symm
      · omega
    have hal := hBS.block b hb
    have hsS := hBS.size
    rw [Below.heap_setCell _ _ _ _ h2, put6_block _ _ _ _ _ _ _ _ _ _ hg, hgrow.block b (by omega) h1, hal]
  · have : (put6 w2 g (acc.length * 6) c0 c1 c2 c3 c4 c5).heap.size = w2.heap.size := put6_size _ _ _ _ _ _ _ _ _
    have hs2 := hBS.size
    simp only [World.setCell, Array.size_modify] at this ⊢
    omega
/-- An item more. -/
theorem step_own (hO : Own2 base bv n k nv iv ns vs acc w1) (hgrow : wS.grownBy w2 iv.ownBlock) (hBS : Below w1.heap.size w1 wS) (hat : iv.ownBlock = some g ∨ w1.heap.size ≤ g)
    {z0 z1 z2 z3 z4 z5 c0 c1 c2 c3 c4 c5 : Value} (hown : w2.ownsRow base 49 6 (.slice (some ⟨g, 0, none⟩) (acc.length + 1) cp) (acc.length + 1) (vs.flatMap aggC ++ [z0, z1, z2, z3, z4, z5]))
    {S : Nat → Prop} {j : J} (hJ : JAt S w1 n (.agg #[c0, c1, c2, c3, c4, c5]) j) (hq : ∀ b, S b → b < w1.heap.size → base ≤ b ∧ some b ≠ iv.ownBlock ∧ some b ≠ nv.ownBlock ∧ b ≠ bv) :
    Own2 base bv n k nv (.slice (some ⟨g, 0, none⟩) (acc.length + 1) cp) ns (vs ++ [.agg #[c0, c1, c2, c3, c4, c5]]) (acc ++ [j])
      ((put6 w2 g (acc.length * 6) c0 c1 c2 c3 c4 c5).setCell ⟨bv, 5, none⟩ (.slice (some ⟨g, 0, none⟩) (acc.length + 1) cp)) := by
  obtain ⟨F1, F2, F3, F4, F5⟩ := step_frame (acc := acc) (bv := bv) (iv := iv) hgrow hBS hat c0 c1 c2 c3 c4 c5 (.slice (some ⟨g, 0, none⟩) (acc.length + 1) cp)
  have hbl := Own.block_lt hO.blk
  have hbg : bv ≠ g := by
    rcases hat with h | h
    · rintro rfl; exact hO.ine h
    · omega
  have hal := hBS.block bv hbl
  have hsS := hBS.size
  have hne2 : some bv ≠ iv.ownBlock := fun h => hO.ine h.symm
  have hb2 : (put6 w2 g (acc.length * 6) c0 c1 c2 c3 c4 c5).heap[bv]? = w1.heap[bv]? := by
    rw [put6_block _ _ _ _ _ _ _ _ _ _ hbg, hgrow.block bv (by omega) hne2, hal]
  have hnlt : ∀ b, nv.ownBlock = some b → b < w1.heap.size := fun b hb => (hO.nrow.lt b hb).2
  have hnapart : nv.ownBlock = none ∨ nv.ownBlock ≠ iv.ownBlock := Own.own_apart hO.irow hO.nrow (by decide)
  refine ⟨set_cell5 (hb2.trans hO.blk) _, ?_, ?_, by simp [hO.vl], by simpa [Value.ownBlock] using Ne.symm hbg, hO.txt, fun i hi => ?_⟩
  · have h6 := stored6 hown c0 c1 c2 c3 c4 c5
    have := ownsRow_setCell_other h6 (a := ⟨bv, 5, none⟩) (by simpa [Value.ownBlock] using Ne.symm hbg) (.slice (some ⟨g, 0, none⟩) (acc.length + 1) cp)
    simpa [put6, aggC] using this
  · refine ⟨hO.nrow.1, ?_⟩
    rcases hO.nrow.2 with hn | ⟨gn, cap, cur, hv, hbg', hg, hr⟩
    · exact .inl hn
    · refine .inr ⟨gn, cap, cur, hv, hbg', ?_, hr⟩
      have e1 : nv.ownBlock = some gn := by rw [hv]; rfl
      rw [F1 gn (hnlt gn e1) ?_ ?_]; exact hg
      · intro h
        rcases hnapart with h' | h'
        · rw [h'] at e1; cases e1
        · exact h' (e1.trans h)
      · rintro rfl
        have := hO.blk; rw [hg] at this; cases this
  · have hS : ∀ b, (base ≤ b ∧ some b ≠ iv.ownBlock ∧ some b ≠ nv.ownBlock ∧ b ≠ bv) → b < w1.heap.size → InS base bv nv (.slice (some ⟨g, 0, none⟩) (acc.length + 1) cp) b := fun b hb hlt => by
      refine ⟨hb.1, ?_, hb.2.2.1, hb.2.2.2⟩
      show some b ≠ some g
      intro e
      cases e
      rcases hat with h | h
      · exact hb.2.1 h.symm
      · omega
    by_cases hia : i < acc.length
    · have := hO.items i hia
      have e1 : (vs ++ [Value.agg #[c0, c1, c2, c3, c4, c5]]).getD i undef = vs.getD i undef := by rw [List.getD_eq_getElem?_getD, List.getD_eq_getElem?_getD, List.getElem?_append_left (by rw [hO.vl]; exact hia)]
      have e2 : (acc ++ [j]).getD i j0 = acc.getD i j0 := by rw [List.getD_eq_getElem?_getD, List.getD_eq_getElem?_getD, List.getElem?_append_left hia]
      rw [e1, e2]
      exact this.keep (fun b hb hlt => hS b hb hlt) (fun b hb hlt => F1 b hlt hb.2.1 hb.2.2.2) F2
    · have hi' : i = acc.length := by simp at hi; omega
      subst hi'
      have e1 : (vs ++ [Value.agg #[c0, c1, c2, c3, c4, c5]]).getD acc.length undef = .agg #[c0, c1, c2, c3, c4, c5] := by rw [← hO.vl, List.getD_eq_getElem?_getD, List.getElem?_append_right (Nat.le_refl _)]; simp
      have e2 : (acc ++ [j]).getD acc.length j0 = j := by rw [List.getD_eq_getElem?_getD, List.getElem?_append_right (Nat.le_refl _)]; simp
      rw [e1, e2]
      exact hJ.keep (fun b hb hlt => hS b (hq b hb hlt) hlt) (fun b hb hlt => F1 b hlt (hq b hb hlt).2.1 (hq b hb hlt).2.2.2) F2
/-- What an append to the names and its store leave alone. -/
theorem name_frame (hgrow : wS.grownBy w2 nv.ownBlock) (hBS : Below w1.heap.size w1 wS) (u : Value) :
    (∀ b, b < w1.heap.size → some b ≠ nv.ownBlock → b ≠ bv → (w2.setCell ⟨bv, 4, none⟩ u).heap[b]? = w1.heap[b]?) ∧ w1.heap.size ≤ (w2.setCell ⟨bv, 4, none⟩ u).heap.size ∧ (w2.setCell ⟨bv, 4, none⟩ u).os = w1.os ∧ (w2.setCell ⟨bv, 4, none⟩ u).tape = w1.tape ∧ (w2.setCell ⟨bv, 4, none⟩ u).output = w1.output := by
  have hs := hgrow.size
  have hsS := hBS.size
  refine ⟨fun b hb h1 h2 => ?_, ?_, hgrow.os.trans hBS.os, hgrow.tape.trans hBS.tape, hgrow.output.trans hBS.output⟩
  · rw [Below.heap_setCell _ _ _ _ h2, hgrow.block b (by omega) h1, hBS.block b hb]
  · simp only [World.setCell, Array.size_modify]; omega
theorem set_cell4 {w : World} {b : Nat} {T : TypeId} {c0 c1 c2 c3 c4 c5 : Value} (h : w.heap[b]? = some (.cells #[c0, c1, c2, c3, c4, c5] T (0, 0))) (u : Value) : (w.setCell ⟨b, 4, none⟩ u).heap[b]? = some (.cells #[c0, c1, c2, c3, u, c5] T (0, 0)) := by
  simp only [World.setCell, Array.getElem?_modify]
  rw [if_pos trivial, h]
  rfl
/-- A name more. -/
theorem step_name (hO : Own2 base bv n k nv iv ns vs acc w1) (hbv : bv < base) (hgrow : wS.grownBy w2 nv.ownBlock) (hBS : Below w1.heap.size w1 wS) (hat : nv.ownBlock = some g ∨ w1.heap.size ≤ g) {nm : List UInt8} (ht : txtB nm)
    (hown : w2.ownsRow base 9 1 (.slice (some ⟨g, 0, none⟩) (ns.length + 1) cp) (ns.length + 1) (ns.map strW ++ [strW nm])) :
    Own2 base bv n k (.slice (some ⟨g, 0, none⟩) (ns.length + 1) cp) iv (ns ++ [nm]) vs acc (w2.setCell ⟨bv, 4, none⟩ (.slice (some ⟨g, 0, none⟩) (ns.length + 1) cp)) := by
  obtain ⟨F1, F2, F3, F4, F5⟩ := name_frame (bv := bv) (nv := nv) hgrow hBS (.slice (some ⟨g, 0, none⟩) (ns.length + 1) cp)
  have hbl := Own.block_lt hO.blk
  have hsS := hBS.size
  have hnlt : ∀ b, nv.ownBlock = some b → base ≤ b ∧ b < w1.heap.size := fun b hb => hO.nrow.lt b hb
  have hne : some bv ≠ nv.ownBlock := fun h => by have := (hnlt bv h.symm).1; omega
  have hbg : bv ≠ g := by
    rcases hat with h | h
    · rintro rfl; exact hne h.symm
    · omega
  have hb2 : w2.heap[bv]? = w1.heap[bv]? := by rw [hgrow.block bv (by omega) hne, hBS.block bv hbl]
  have hapart : iv.ownBlock = none ∨ iv.ownBlock ≠ nv.ownBlock := Own.own_apart hO.nrow hO.irow (by decide)
  have hilt : ∀ b, iv.ownBlock = some b → base ≤ b ∧ b < w1.heap.size := fun b hb => hO.irow.lt b hb
  refine ⟨set_cell4 (hb2.trans hO.blk) _, ?_, ?_, hO.vl, hO.ine, ?_, fun i hi => ?_⟩
  · refine ⟨hO.irow.1, ?_⟩
    rcases hO.irow.2 with hn | ⟨gi, cap, cur, hv, hbg', hg, hr⟩
    · exact .inl hn
    · refine .inr ⟨gi, cap, cur, hv, hbg', ?_, hr⟩
      have e1 : iv.ownBlock = some gi := by rw [hv]; rfl
      rw [F1 gi (hilt gi e1).2 ?_ (by omega)]; exact hg
      intro h
      rcases hapart with h' | h'
      · rw [h'] at e1; cases e1
      · exact h' (e1.trans h)
  · have := ownsRow_setCell_other hown (a := ⟨bv, 4, none⟩) (by simpa [Value.ownBlock] using Ne.symm hbg) (.slice (some ⟨g, 0, none⟩) (ns.length + 1) cp)
    simpa using this
  · intro x hx
    rcases List.mem_append.1 hx with hx | hx
    · exact hO.txt x hx
    · simp at hx; subst hx; exact ht
  · refine (hO.items i hi).keep (fun b hb hlt => ⟨hb.1, hb.2.1, ?_, hb.2.2.2⟩) (fun b hb hlt => F1 b hlt hb.2.2.1 hb.2.2.2) F2
    show some b ≠ some g
    intro e
    cases e
    rcases hat with h | h
    · exact hb.2.2.1 h.symm
    · omega
end
end Go.Proofs.YtgfkpfppdoeifaaGreatDoor.Js
