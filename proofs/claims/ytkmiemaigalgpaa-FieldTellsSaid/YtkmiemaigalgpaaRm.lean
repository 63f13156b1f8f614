import Derived.Test.YtkmiemaigalgpaaRk
import Derived.Test.YtkmiemaigalgpaaFo
import Derived.Test.YtkmiemaigalgpaaFi
/- The document's Make: what holds between the rounds of its loop (items lie where they lay: in what was handed in). -/
set_option linter.unusedVariables false
set_option linter.unusedSimpArgs false
namespace Go.Proofs.Ytkmiemaigalgpaa.Js
open Go.RowKit Lex

/-- Whether a name is told. -/
theorem plc_has (nm : List UInt8) : ∀ (ns : List (List UInt8)) (q n : Nat), q + ns.length ≤ n → ns.contains nm = decide (0 ≤ plcL nm ns q n)
  | [], q, n, _ => by simp [plcL]
  | x :: r, q, n, h => by
    have hl : q < n := by simp at h; omega
    rw [plcL, if_pos hl]
    by_cases e : x = nm
    · rw [if_pos e]; subst e; simp
    · rw [if_neg e, ← plc_has nm r (q + 1) n (by simp at h; omega), List.contains_cons]
      have : (nm == x) = false := by simpa using fun h => e h.symm
      rw [this, Bool.false_or]
theorem getS_two {k m e : Int} {t : List UInt8} {ns : List (List UInt8)} {is : List J} (hk : k = 7) (hl : ns.length = is.length) (nm : List UInt8) : (getS (.mk k m e t ns is) nm).2 = ns.contains nm := by
  rw [getS_at hk, plc_has nm ns 0 is.length (by omega)]
  by_cases h : plcL nm ns 0 is.length < 0
  · rw [if_pos h]; simp; omega
  · rw [if_neg h]; simp; omega

structure MR (w : World) (d : Nat) (nv iv : Value) (ns : List (List UInt8)) (vs : List Value) (acc : List J) (wr : World) : Prop where
  bel : Below w.heap.size w wr
  bres : wr.heap[w.heap.size]? = some (.cells zero6 27 (0, 0))
  blk : wr.heap[w.heap.size + 1]? = some (.cells #[.int .i64 7, .int .i64 0, .int .i64 0, .string ⟨#[]⟩, nv, iv] 27 (0, 0))
  irow : wr.ownsRow (w.heap.size + 2) 27 6 iv acc.length (vs.flatMap aggC)
  nrow : wr.ownsRow (w.heap.size + 2) 9 1 nv ns.length (ns.map strW)
  vl : vs.length = acc.length
  txt : ∀ x ∈ ns, txtB x
  items : ∀ i, i < acc.length → JAt (fun b => b < w.heap.size) w d (vs.getD i undef) (acc.getD i j0)
  sz : w.heap.size + 2 ≤ wr.heap.size
theorem own_mono {w : World} {b b' e s n : Nat} {v : Value} {xs : List Value} (h : w.ownsRow b e s v n xs) (hb : b' ≤ b) : w.ownsRow b' e s v n xs := by
  refine ⟨h.1, ?_⟩
  rcases h.2 with hn | ⟨g, cap, cur, hv, hbg, hr⟩
  · exact .inl hn
  · exact .inr ⟨g, cap, cur, hv, by omega, hr⟩
section
variable {w : World} {d : Nat} {nv iv : Value} {ns : List (List UInt8)} {vs : List Value} {acc : List J} {wr wS w2 : World} {g cp : Nat}
theorem MR.below (h : MR w d nv iv ns vs acc wr) {w' : World} {B : Nat} (hb : Below B wr w') (hB : wr.heap.size ≤ B) : MR w d nv iv ns vs acc w' := by
  have hs := h.sz
  have hs2 := hb.size
  exact ⟨h.bel.trans (hb.mono (by omega)), (hb.block _ (by omega)).trans h.bres, (hb.block _ (by omega)).trans h.blk, row_keep h.irow (fun g _ hl => hb.block g (by omega)), row_keep h.nrow (fun g _ hl => hb.block g (by omega)), h.vl, h.txt, h.items, by omega⟩
theorem MR.own3 (h : MR w d nv iv ns vs acc wr) : Own3 0 d nv iv ns vs acc wr :=
  ⟨own_mono h.irow (Nat.zero_le _), own_mono h.nrow (Nat.zero_le _), h.vl, h.txt, fun i hi => by
    have hs := h.sz
    refine (h.items i hi).keep (fun b hb _ => ⟨Nat.zero_le _, fun e => ?_, fun e => ?_⟩) (fun b hb hl => h.bel.block b hl) (by omega)
    · have := (h.irow.lt b e.symm).1; omega
    · have := (h.nrow.lt b e.symm).1; omega⟩
/-- The value, as it lies. -/
theorem MR.jat (h : MR w d nv iv ns vs acc wr) (hn : ns.length ≤ 1000000) (ha : acc.length ≤ 1000000) : JAt Any wr (d + 1) (.agg #[.int .i64 7, .int .i64 0, .int .i64 0, .string ⟨#[]⟩, nv, iv]) (.mk 7 0 0 [] ns acc) := by
  obtain ⟨ai, ci, rfl⟩ := own_slice h.irow
  obtain ⟨_, hc, hI⟩ := h.own3.its
  exact ⟨nv, ai, ci, rfl, ⟨by decide, by decide⟩, ⟨by decide, by decide⟩, ⟨by decide, by decide⟩, by unfold txtB; simp, h.own3.strs hn, hc, by omega, hI⟩
/-- A name more. -/
theorem MR.name (h : MR w d nv iv ns vs acc wr) (hgrow : wS.grownBy w2 nv.ownBlock) (hBS : Below wr.heap.size wr wS) (hat : nv.ownBlock = some g ∨ wr.heap.size ≤ g) {nm : List UInt8} (ht : txtB nm)
    (hown : w2.ownsRow (w.heap.size + 2) 9 1 (.slice (some ⟨g, 0, none⟩) (ns.length + 1) cp) (ns.length + 1) (ns.map strW ++ [strW nm])) :
    MR w d (.slice (some ⟨g, 0, none⟩) (ns.length + 1) cp) iv (ns ++ [nm]) vs acc (w2.setCell ⟨w.heap.size + 1, 4, none⟩ (.slice (some ⟨g, 0, none⟩) (ns.length + 1) cp)) := by
  obtain ⟨F1, F2, F3, F4, F5⟩ := name_frame (bv := w.heap.size + 1) (nv := nv) hgrow hBS (.slice (some ⟨g, 0, none⟩) (ns.length + 1) cp)
  have hs := h.sz
  have hsS := hBS.size
  have hnlt : ∀ b, nv.ownBlock = some b → w.heap.size + 2 ≤ b ∧ b < wr.heap.size := fun b hb => h.nrow.lt b hb
  have hilt : ∀ b, iv.ownBlock = some b → w.heap.size + 2 ≤ b ∧ b < wr.heap.size := fun b hb => h.irow.lt b hb
  have hne : some (w.heap.size + 1) ≠ nv.ownBlock := fun e => by have := (hnlt _ e.symm).1; omega
  have hbg : w.heap.size + 1 ≠ g := by
    rcases hat with e | e
    · intro e2; rw [← e2] at e; exact hne e.symm
    · omega
  have hb2 : w2.heap[w.heap.size + 1]? = wr.heap[w.heap.size + 1]? := by rw [hgrow.block _ (by omega) hne, hBS.block _ (by omega)]
  have hapart : iv.ownBlock = none ∨ iv.ownBlock ≠ nv.ownBlock := Own.own_apart h.nrow h.irow (by decide)
  refine ⟨⟨F3.trans h.bel.os, F4.trans h.bel.tape, F5.trans h.bel.output, by omega, fun b hb => ?_⟩, ?_, set_cell4 (hb2.trans h.blk) _, ?_, ?_, h.vl, ?_, h.items, by omega⟩
  · rw [F1 b (by omega) (fun e => by have := (hnlt b e.symm).1; omega) (by omega)]; exact h.bel.block b hb
  · rw [F1 _ (by omega) (fun e => by have := (hnlt _ e.symm).1; omega) (by omega)]; exact h.bres
  · exact row_keep h.irow (fun gi e1 hl => F1 gi hl (fun e => by
      rcases hapart with h' | h'
      · rw [h'] at e1; cases e1
      · exact h' (e1.trans e)) (by have := (hilt gi e1).1; omega))
  · have := ownsRow_setCell_other hown (a := ⟨w.heap.size + 1, 4, none⟩) (by simpa [Value.ownBlock] using Ne.symm hbg) (.slice (some ⟨g, 0, none⟩) (ns.length + 1) cp)
    simpa using this
  · intro x hx
    rcases List.mem_append.1 hx with hx | hx
    · exact h.txt x hx
    · simp at hx; subst hx; exact ht
/-- An item more. -/
theorem MR.item (h : MR w d nv iv ns vs acc wr) (hgrow : wS.grownBy w2 iv.ownBlock) (hBS : Below wr.heap.size wr wS) (hat : iv.ownBlock = some g ∨ wr.heap.size ≤ g)
    {c0 c1 c2 c3 c4 c5 : Value} (hown : w2.ownsRow (w.heap.size + 2) 27 6 (.slice (some ⟨g, 0, none⟩) (acc.length + 1) cp) (acc.length + 1) (vs.flatMap aggC ++ [c0, c1, c2, c3, c4, c5]))
    {j : J} (hJ : JAt (fun b => b < w.heap.size) w d (.agg #[c0, c1, c2, c3, c4, c5]) j) :
    MR w d nv (.slice (some ⟨g, 0, none⟩) (acc.length + 1) cp) ns (vs ++ [.agg #[c0, c1, c2, c3, c4, c5]]) (acc ++ [j]) (w2.setCell ⟨w.heap.size + 1, 5, none⟩ (.slice (some ⟨g, 0, none⟩) (acc.length + 1) cp)) := by
  obtain ⟨F1, F2, F3, F4, F5⟩ := item_frame5 (bv := w.heap.size + 1) (iv := iv) hgrow hBS (.slice (some ⟨g, 0, none⟩) (acc.length + 1) cp)
  have hs := h.sz
  have hsS := hBS.size
  have hnlt : ∀ b, nv.ownBlock = some b → w.heap.size + 2 ≤ b ∧ b < wr.heap.size := fun b hb => h.nrow.lt b hb
  have hilt : ∀ b, iv.ownBlock = some b → w.heap.size + 2 ≤ b ∧ b < wr.heap.size := fun b hb => h.irow.lt b hb
  have hne : some (w.heap.size + 1) ≠ iv.ownBlock := fun e => by have := (hilt _ e.symm).1; omega
  have hbg : w.heap.size + 1 ≠ g := by
    rcases hat with e | e
    · intro e2; rw [← e2] at e; exact hne e.symm
    · omega
  have hb2 : w2.heap[w.heap.size + 1]? = wr.heap[w.heap.size + 1]? := by rw [hgrow.block _ (by omega) hne, hBS.block _ (by omega)]
  have hapart : nv.ownBlock = none ∨ nv.ownBlock ≠ iv.ownBlock := Own.own_apart h.irow h.nrow (by decide)
  refine ⟨⟨F3.trans h.bel.os, F4.trans h.bel.tape, F5.trans h.bel.output, by omega, fun b hb => ?_⟩, ?_, set_cell5 (hb2.trans h.blk) _, ?_, ?_, by simp [h.vl], h.txt, fun i hi => ?_, by omega⟩
  · rw [F1 b (by omega) (fun e => by have := (hilt b e.symm).1; omega) (by omega)]; exact h.bel.block b hb
  · rw [F1 _ (by omega) (fun e => by have := (hilt _ e.symm).1; omega) (by omega)]; exact h.bres
  · have := ownsRow_setCell_other hown (a := ⟨w.heap.size + 1, 5, none⟩) (by simpa [Value.ownBlock] using Ne.symm hbg) (.slice (some ⟨g, 0, none⟩) (acc.length + 1) cp)
    simpa [aggC] using this
  · exact row_keep h.nrow (fun gn e1 hl => F1 gn hl (fun e => by
      rcases hapart with h' | h'
      · rw [h'] at e1; cases e1
      · exact h' (e1.trans e)) (by have := (hnlt gn e1).1; omega))
  · by_cases hia : i < acc.length
    · have := h.items i hia
      rwa [show (vs ++ [Value.agg #[c0, c1, c2, c3, c4, c5]]).getD i undef = vs.getD i undef by rw [List.getD_eq_getElem?_getD, List.getD_eq_getElem?_getD, List.getElem?_append_left (by rw [h.vl]; exact hia)],
        show (acc ++ [j]).getD i j0 = acc.getD i j0 by rw [List.getD_eq_getElem?_getD, List.getD_eq_getElem?_getD, List.getElem?_append_left hia]]
    · have hi' : i = acc.length := by simp at hi; omega
      subst hi'
      rwa [show (vs ++ [Value.agg #[c0, c1, c2, c3, c4, c5]]).getD acc.length undef = .agg #[c0, c1, c2, c3, c4, c5] by rw [← h.vl, List.getD_eq_getElem?_getD, List.getElem?_append_right (Nat.le_refl _)]; simp,
        show (acc ++ [j]).getD acc.length j0 = j by rw [List.getD_eq_getElem?_getD, List.getElem?_append_right (Nat.le_refl _)]; simp]
end
theorem MR.begin (w : World) (d : Nat) : MR w d (.slice none 0 0) (.slice none 0 0) [] [] [] ((w.alloc (.cells zero6 27)).alloc (.cells #[.int .i64 7, .int .i64 0, .int .i64 0, .string ⟨#[]⟩, .slice none 0 0, .slice none 0 0] 27)) := by
  refine ⟨((Below.refl _ _).alloc (Nat.le_refl _) _).alloc (by simp) _, ?_, two_new w _ _, World.ownsRow_nil _ _ _ _, World.ownsRow_nil _ _ _ _, rfl, fun x hx => by simp at hx, fun i hi => by simp at hi, by simp⟩
  rw [Below.heap_alloc _ _ _ (by simp)]; exact heap_alloc_new w _
end Go.Proofs.Ytkmiemaigalgpaa.Js
