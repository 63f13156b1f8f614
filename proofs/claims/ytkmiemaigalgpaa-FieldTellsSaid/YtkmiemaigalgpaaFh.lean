import Derived.Test.YtkmiemaigalgpaaFg
/- Layer 5: what holds between the rounds of Make's loop. -/
set_option linter.unusedVariables false
set_option linter.unusedSimpArgs false
namespace Go.Proofs.Ytkmiemaigalgpaa.Js
open Go.RowKit Lex

/-- Names and items, each name once. -/
def mkL : List (List UInt8) → List J → List (List UInt8) → List J → List (List UInt8) × List J
  | x :: r, y :: s, ns, is => if ns.contains x = true then mkL r s ns is else mkL r s (ns ++ [x]) (is ++ [y])
  | [], _, ns, is => (ns, is)
  | _ :: _, [], ns, is => (ns, is)
def mkJ (names : List (List UInt8)) (items : List J) : J := .mk 7 0 0 [] (mkL names items [] []).1 (mkL names items [] []).2

theorem Own2.below5 {base bv n : Nat} {k : Int} {nv iv : Value} {ns : List (List UInt8)} {vs : List Value} {acc : List J} {w w' : World} (h : Own2 base bv n k nv iv ns vs acc w) {B : Nat} (hb : Below B w w') (hB : w.heap.size ≤ B) : Own2 base bv n k nv iv ns vs acc w' :=
  h.chg (X := fun _ => False) ⟨hb.os, hb.tape, hb.output, hb.size, fun b hl _ => hb.block b (by omega)⟩ (fun _ _ h => h) (fun h => h)
section
variable {base bv n : Nat} {k : Int} {nv iv : Value} {ns : List (List UInt8)} {vs : List Value} {acc : List J} {w1 wS w2 : World} {g cp : Nat}
/-- What an append of an item and its store leave alone. -/
theorem item_frame5 (hgrow : wS.grownBy w2 iv.ownBlock) (hBS : Below w1.heap.size w1 wS) (u : Value) :
    (∀ b, b < w1.heap.size → some b ≠ iv.ownBlock → b ≠ bv → (w2.setCell ⟨bv, 5, none⟩ u).heap[b]? = w1.heap[b]?) ∧ w1.heap.size ≤ (w2.setCell ⟨bv, 5, none⟩ u).heap.size ∧ (w2.setCell ⟨bv, 5, none⟩ u).os = w1.os ∧ (w2.setCell ⟨bv, 5, none⟩ u).tape = w1.tape ∧ (w2.setCell ⟨bv, 5, none⟩ u).output = w1.output := by
  have hs := hgrow.size
  have hsS := hBS.size
  refine ⟨fun b hb h1 h2 => ?_, ?_, hgrow.os.trans hBS.os, hgrow.tape.trans hBS.tape, hgrow.output.trans hBS.output⟩
  · rw [Below.heap_setCell _ _ _ _ h2, hgrow.block b (by omega) h1, hBS.block b hb]
  · simp only [World.setCell, Array.size_modify]; omega
/-- An item more, appended as it is. -/
theorem step_item5 (hO : Own2 base bv n k nv iv ns vs acc w1) (hgrow : wS.grownBy w2 iv.ownBlock) (hBS : Below w1.heap.size w1 wS) (hat : iv.ownBlock = some g ∨ w1.heap.size ≤ g)
    {c0 c1 c2 c3 c4 c5 : Value} (hown : w2.ownsRow base 27 6 (.slice (some ⟨g, 0, none⟩) (acc.length + 1) cp) (acc.length + 1) (vs.flatMap aggC ++ [c0, c1, c2, c3, c4, c5]))
    {S : Nat → Prop} {j : J} (hJ : JAt S w1 n (.agg #[c0, c1, c2, c3, c4, c5]) j) (hq : ∀ b, S b → b < w1.heap.size → base ≤ b ∧ some b ≠ iv.ownBlock ∧ some b ≠ nv.ownBlock ∧ b ≠ bv) :
    Own2 base bv n k nv (.slice (some ⟨g, 0, none⟩) (acc.length + 1) cp) ns (vs ++ [.agg #[c0, c1, c2, c3, c4, c5]]) (acc ++ [j]) (w2.setCell ⟨bv, 5, none⟩ (.slice (some ⟨g, 0, none⟩) (acc.length + 1) cp)) := by
  obtain ⟨F1, F2, F3, F4, F5⟩ := item_frame5 (bv := bv) (iv := iv) hgrow hBS (.slice (some ⟨g, 0, none⟩) (acc.length + 1) cp)
  have hbl := Own.block_lt hO.blk
  have hbg : bv ≠ g := by
    rcases hat with h | h
    · rintro rfl; exact hO.ine h
    · omega
  have hsS := hBS.size
  have hne2 : some bv ≠ iv.ownBlock := fun h => hO.ine h.symm
  have hb2 : w2.heap[bv]? = w1.heap[bv]? := by rw [hgrow.block bv (by omega) hne2, hBS.block bv hbl]
  have hnlt : ∀ b, nv.ownBlock = some b → b < w1.heap.size := fun b hb => (hO.nrow.lt b hb).2
  have hnapart : nv.ownBlock = none ∨ nv.ownBlock ≠ iv.ownBlock := Own.own_apart hO.irow hO.nrow (by decide)
  refine ⟨set_cell5 (hb2.trans hO.blk) _, ?_, ?_, by simp [hO.vl], by simpa [Value.ownBlock] using Ne.symm hbg, hO.txt, fun i hi => ?_⟩
  · have := ownsRow_setCell_other hown (a := ⟨bv, 5, none⟩) (by simpa [Value.ownBlock] using Ne.symm hbg) (.slice (some ⟨g, 0, none⟩) (acc.length + 1) cp)
    simpa [aggC] using this
  · refine ⟨hO.nrow.1, ?_⟩
    rcases hO.nrow.2 with hn | ⟨gn, cap, cur, hv, hbg', hg, hr⟩
    · exact .inl hn
    · refine .inr ⟨gn, cap, cur, hv, hbg', ?_, hr⟩
      have e1 : nv.ownBlock = some gn := by rw [hv]; rfl
      rw [F1 gn (hnlt gn e1) ?_ ?_]; exact hg
      · intro h
        rcases hnapart with h' | h'
        · rw [h'] at e1; cases e1
        · exact h' (e1.trans h)
      · rintro rfl
        have := hO.blk; rw [hg] at this; cases this
  · have hS : ∀ b, (base ≤ b ∧ some b ≠ iv.ownBlock ∧ some b ≠ nv.ownBlock ∧ b ≠ bv) → b < w1.heap.size → InS base bv nv (.slice (some ⟨g, 0, none⟩) (acc.length + 1) cp) b := fun b hb hlt => by
      refine ⟨hb.1, ?_, hb.2.2.1, hb.2.2.2⟩
      show some b ≠ some g
      intro e
      cases e
      rcases hat with h | h
      · exact hb.2.1 h.symm
      · omega
    by_cases hia : i < acc.length
    · have := hO.items i hia
      have e1 : (vs ++ [Value.agg #[c0, c1, c2, c3, c4, c5]]).getD i undef = vs.getD i undef := by rw [List.getD_eq_getElem?_getD, List.getD_eq_getElem?_getD, List.getElem?_append_left (by rw [hO.vl]; exact hia)]
      have e2 : (acc ++ [j]).getD i j0 = acc.getD i j0 := by rw [List.getD_eq_getElem?_getD, List.getD_eq_getElem?_getD, List.getElem?_append_left hia]
      rw [e1, e2]
      exact this.keep (fun b hb hlt => hS b hb hlt) (fun b hb hlt => F1 b hlt hb.2.1 hb.2.2.2) F2
    · have hi' : i = acc.length := by simp at hi; omega
      subst hi'
      have e1 : (vs ++ [Value.agg #[c0, c1, c2, c3, c4, c5]]).getD acc.length undef = .agg #[c0, c1, c2, c3, c4, c5] := by rw [← hO.vl, List.getD_eq_getElem?_getD, List.getElem?_append_right (Nat.le_refl _)]; simp
      have e2 : (acc ++ [j]).getD acc.length j0 = j := by rw [List.getD_eq_getElem?_getD, List.getElem?_append_right (Nat.le_refl _)]; simp
      rw [e1, e2]
      exact hJ.keep (fun b hb hlt => hS b (hq b hb hlt) hlt) (fun b hb hlt => F1 b hlt (hq b hb hlt).2.1 (hq b hb hlt).2.2.2) F2
end

/-- Between the rounds: the place of the answer, the object, the set of its names. -/
structure MI (w : World) (n : Nat) (sn ns : List (List UInt8)) (acc : List J) (wr : World) : Prop where
  bel : Below w.heap.size w wr
  bres : wr.heap[w.heap.size]? = some (.cells zero6 27 (0, 0))
  set : SetIs wr (w.heap.size + 2) sn
  own : ∃ nv iv vs, Own2 (w.heap.size + 3) (w.heap.size + 1) n 7 nv iv ns vs acc wr
  sz : w.heap.size + 3 ≤ wr.heap.size
theorem MI.below {w : World} {n : Nat} {sn ns : List (List UInt8)} {acc : List J} {wr w' : World} (h : MI w n sn ns acc wr) {B : Nat} (hb : Below B wr w') (hB : wr.heap.size ≤ B) : MI w n sn ns acc w' := by
  obtain ⟨nv, iv, vs, hO⟩ := h.own
  have hs := h.sz
  have hs2 := hb.size
  exact ⟨h.bel.trans (hb.mono (by omega)), (hb.block _ (by omega)).trans h.bres, h.set.keep (hb.block _ (by omega)), ⟨nv, iv, vs, hO.below5 hb hB⟩, by omega⟩
theorem MI.begin {w : World} {n : Nat} : MI w n [] [] [] (((w.alloc (.cells zero6 27)).alloc (.cells #[.int .i64 7, .int .i64 0, .int .i64 0, .string ⟨#[]⟩, .slice none 0 0, .slice none 0 0] 27)).alloc (.map #[] 0)) := by
  have hs : (((w.alloc (.cells zero6 27)).alloc (.cells #[.int .i64 7, .int .i64 0, .int .i64 0, .string ⟨#[]⟩, .slice none 0 0, .slice none 0 0] 27)).alloc (.map #[] 0)).heap.size = w.heap.size + 3 := by simp
  refine ⟨(((Below.refl _ _).alloc (Nat.le_refl _) _).alloc (by simp) _).alloc (by simp; omega) _, ?_, ?_, ⟨_, _, _, own2_new ?_⟩, by omega⟩
  · rw [Below.heap_alloc _ _ _ (by simp; omega), Below.heap_alloc _ _ _ (by simp)]; exact heap_alloc_new w _
  · have := set_new ((w.alloc (.cells zero6 27)).alloc (.cells #[.int .i64 7, .int .i64 0, .int .i64 0, .string ⟨#[]⟩, .slice none 0 0, .slice none 0 0] 27))
    rw [show ((w.alloc (.cells zero6 27)).alloc (.cells #[.int .i64 7, .int .i64 0, .int .i64 0, .string ⟨#[]⟩, .slice none 0 0, .slice none 0 0] 27)).heap.size = w.heap.size + 2 by simp] at this
    exact this
  · rw [Below.heap_alloc _ _ _ (by simp)]; exact two_new w _ _
/-- A name more in the set. -/
theorem MI.seen {w : World} {n : Nat} {sn sn' ns : List (List UInt8)} {acc : List J} {wr w' : World} (h : MI w n sn ns acc wr) (hm : Moves wr.heap.size (w.heap.size + 2) wr w') (hs : SetIs w' (w.heap.size + 2) sn') : MI w n sn' ns acc w' := by
  obtain ⟨nv, iv, vs, hO⟩ := h.own
  have hsz := h.sz
  have hs2 := hm.size
  exact ⟨⟨hm.os.trans h.bel.os, hm.tape.trans h.bel.tape, hm.output.trans h.bel.output, by omega, fun k hk => (hm.block k (by omega) (by omega)).trans (h.bel.block k hk)⟩, (hm.block _ (by omega) (by omega)).trans h.bres, hs, ⟨nv, iv, vs, hO.chg (X := fun k => k = w.heap.size + 2) ⟨hm.os, hm.tape, hm.output, hm.size, fun b hl hx => hm.block b hl hx⟩ (fun b hb => by omega) (by omega)⟩, by omega⟩
/-- A name more. -/
theorem MI.name {w : World} {n : Nat} {sn ns : List (List UInt8)} {acc : List J} {wq wS w2 : World} {nv iv : Value} {vs : List Value} {g cp : Nat} {nm : List UInt8}
    (h : MI w n sn ns acc wq) (hO : Own2 (w.heap.size + 3) (w.heap.size + 1) n 7 nv iv ns vs acc wq) (hBS : Below wq.heap.size wq wS) (hgrow : wS.grownBy w2 nv.ownBlock) (hat : nv.ownBlock = some g ∨ wq.heap.size ≤ g) (ht : txtB nm)
    (hown : w2.ownsRow (w.heap.size + 3) 9 1 (.slice (some ⟨g, 0, none⟩) (ns.length + 1) cp) (ns.length + 1) (ns.map strW ++ [strW nm])) :
    MI w n sn (ns ++ [nm]) acc (w2.setCell ⟨w.heap.size + 1, 4, none⟩ (.slice (some ⟨g, 0, none⟩) (ns.length + 1) cp)) := by
  have hsq := h.sz
  obtain ⟨F1, F2, F3, F4, F5⟩ := name_frame (bv := w.heap.size + 1) (nv := nv) hgrow hBS (.slice (some ⟨g, 0, none⟩) (ns.length + 1) cp)
  have hnb : ∀ b, nv.ownBlock = some b → w.heap.size + 3 ≤ b ∧ b < wq.heap.size := fun b hb => hO.nrow.lt b hb
  refine ⟨⟨F3.trans h.bel.os, F4.trans h.bel.tape, F5.trans h.bel.output, by omega, fun b hb => ?_⟩, ?_, h.set.keep (F1 _ (by omega) (fun h => by have := (hnb _ h.symm).1; omega) (by omega)), ⟨_, iv, vs, step_name hO (by omega) hgrow hBS hat ht hown⟩, by omega⟩
  · rw [F1 b (by omega) (fun h => by have := (hnb b h.symm).1; omega) (by omega)]; exact h.bel.block b hb
  · rw [F1 _ (by omega) (fun h => by have := (hnb _ h.symm).1; omega) (by omega)]; exact h.bres
/-- An item more. -/
theorem MI.item {w : World} {n : Nat} {sn ns : List (List UInt8)} {acc : List J} {wq w1 wS w2 : World} {nv iv : Value} {vs : List Value} {g cp : Nat} {c0 c1 c2 c3 c4 c5 : Value} {j : J}
    (h : MI w n sn ns acc wq) (hO : Own2 (w.heap.size + 3) (w.heap.size + 1) n 7 nv iv ns vs acc wq) (hb1 : Below wq.heap.size wq w1) (hBS : Below w1.heap.size w1 wS) (hgrow : wS.grownBy w2 iv.ownBlock) (hat : iv.ownBlock = some g ∨ w1.heap.size ≤ g)
    (hown : w2.ownsRow (w.heap.size + 3) 27 6 (.slice (some ⟨g, 0, none⟩) (acc.length + 1) cp) (acc.length + 1) (vs.flatMap aggC ++ [c0, c1, c2, c3, c4, c5]))
    (hJ : JAt (fun b => wq.heap.size ≤ b) w1 n (.agg #[c0, c1, c2, c3, c4, c5]) j) : MI w n sn ns (acc ++ [j]) (w2.setCell ⟨w.heap.size + 1, 5, none⟩ (.slice (some ⟨g, 0, none⟩) (acc.length + 1) cp)) := by
  have h1 := h.below hb1 (Nat.le_refl _)
  have hO1 := hO.below5 hb1 (Nat.le_refl _)
  have hsq := h.sz
  have hs1 := hb1.size
  obtain ⟨F1, F2, F3, F4, F5⟩ := item_frame5 (bv := w.heap.size + 1) (iv := iv) hgrow hBS (.slice (some ⟨g, 0, none⟩) (acc.length + 1) cp)
  have hib : ∀ b, iv.ownBlock = some b → w.heap.size + 3 ≤ b ∧ b < wq.heap.size := fun b hb => hO.irow.lt b hb
  have hnb : ∀ b, nv.ownBlock = some b → w.heap.size + 3 ≤ b ∧ b < wq.heap.size := fun b hb => hO.nrow.lt b hb
  refine ⟨⟨F3.trans h1.bel.os, F4.trans h1.bel.tape, F5.trans h1.bel.output, by have := h1.sz; omega, fun b hb => ?_⟩, ?_, h1.set.keep (F1 _ (by omega) (fun h => by have := (hib _ h.symm).1; omega) (by omega)), ⟨nv, _, _, step_item5 hO1 hgrow hBS hat hown hJ (fun b hb _ => ⟨by omega, fun h => by have := (hib b h.symm).2; omega, fun h => by have := (hnb b h.symm).2; omega, by omega⟩)⟩, by have := h1.sz; omega⟩
  · rw [F1 b (by omega) (fun h => by have := (hib b h.symm).1; omega) (by omega)]; exact h1.bel.block b hb
  · rw [F1 _ (by omega) (fun h => by have := (hib _ h.symm).1; omega) (by omega)]; exact h1.bres
/-- The answer. -/
theorem MI.fin {w : World} {n : Nat} {sn ns : List (List UInt8)} {acc : List J} {wr : World} (h : MI w n sn ns acc wr) (hn : ns.length ≤ 1000000) (ha : acc.length ≤ 1000000) :
    ∃ a nn c a' nn' c', wr.heap[w.heap.size + 1]? = some (.cells #[.int .i64 7, .int .i64 0, .int .i64 0, .string ⟨#[]⟩, .slice a nn c, .slice a' nn' c'] 27 (0, 0)) ∧
      ∀ c0 c1 c2 c3 c4 c5, CRet w (n + 1) (.mk 7 0 0 [] ns acc) (.returned (.agg #[.int .i64 7, .int .i64 0, .int .i64 0, .string ⟨#[]⟩, .slice a nn c, .slice a' nn' c'])) (put6 wr w.heap.size 0 c0 c1 c2 c3 c4 c5) := by
  obtain ⟨nv, iv, vs, hO⟩ := h.own
  have hj := hO.jat ⟨by decide, by decide⟩ hn ha
  have hb := hO.blk
  obtain ⟨ao, c, rfl⟩ := own_slice hO.irow
  obtain ⟨an, cn, rfl⟩ := own_slice hO.nrow
  refine ⟨_, _, _, _, _, _, hb, fun c0 c1 c2 c3 c4 c5 => ⟨_, _, _, _, _, _, _, _, _, _, rfl, hj.keep (fun b hb _ => by omega) (fun b hb _ => put6_block _ _ 0 c0 c1 c2 c3 c4 c5 b (by omega)) (by rw [put6_size]; exact Nat.le_refl _), below_put6' h.bel (Nat.le_refl _) _ _ _ _ _ _⟩⟩
end Go.Proofs.Ytkmiemaigalgpaa.Js
