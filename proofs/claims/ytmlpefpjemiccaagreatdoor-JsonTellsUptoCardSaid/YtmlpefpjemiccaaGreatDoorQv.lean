import Derived.Test.YtmlpefpjemiccaaGreatDoorQa
/- The document's Parser: a value under construction. -/
set_option linter.unusedVariables false
set_option linter.unusedSimpArgs false
namespace Go.Proofs.YtmlpefpjemiccaaGreatDoor.Js
open Go.RowKit Lex

/-- What the document's value leaves. -/
def RVRet (w : World) (pb bt cap : Nat) (ts : List Tok) (n : Nat) (r : R) (e : Ending) (w' : World) : Prop :=
  ∃ k m e1 t an nn cn ai ni ci, e = .returned (.agg #[.int .i64 k, .int .i64 m, .int .i64 e1, .string t, .slice an nn cn, .slice ai ni ci]) ∧ Pa w' pb bt cap ts r.l r.er ∧ Chg (· = pb) w w' ∧
    (r.er = 0 → JAt (fun b => w.heap.size ≤ b) w' n (.agg #[.int .i64 k, .int .i64 m, .int .i64 e1, .string t, .slice an nn cn, .slice ai ni ci]) r.j)
def RValOk (n : Nat) : Prop := ∀ (w : World) (pb bt cap : Nat) (ts l : List Tok), Pa w pb bt cap ts l 0 → Calls Tryz.prog 29 #[.pointer (some ⟨pb, 0, none⟩), .int .i64 ((17 - n : Nat) : Int)] w (RVRet w pb bt cap ts n (valS n l))

section
variable {base bv n : Nat} {k : Int} {nv iv : Value} {ns : List (List UInt8)} {vs : List Value} {acc : List J} {w1 wS w2 : World} {g cp : Nat}
/-- What an append of an item and its store leave alone. -/
theorem item_frameQ (hgrow : wS.grownBy w2 iv.ownBlock) (hBS : Below w1.heap.size w1 wS) (u : Value) :
    (∀ b, b < w1.heap.size → some b ≠ iv.ownBlock → b ≠ bv → (w2.setCell ⟨bv, 5, none⟩ u).heap[b]? = w1.heap[b]?) ∧ w1.heap.size ≤ (w2.setCell ⟨bv, 5, none⟩ u).heap.size ∧ (w2.setCell ⟨bv, 5, none⟩ u).os = w1.os ∧ (w2.setCell ⟨bv, 5, none⟩ u).tape = w1.tape ∧ (w2.setCell ⟨bv, 5, none⟩ u).output = w1.output := by
  have hs := hgrow.size
  have hsS := hBS.size
  refine ⟨fun b hb h1 h2 => ?_, ?_, hgrow.os.trans hBS.os, hgrow.tape.trans hBS.tape, hgrow.output.trans hBS.output⟩
  · rw [Below.heap_setCell _ _ _ _ h2, hgrow.block b (by omega) h1, hBS.block b hb]
  · simp only [World.setCell, Array.size_modify]; omega
/-- An item more, appended as it is. -/
theorem step_itemQ (hO : Own2 base bv n k nv iv ns vs acc w1) (hgrow : wS.grownBy w2 iv.ownBlock) (hBS : Below w1.heap.size w1 wS) (hat : iv.ownBlock = some g ∨ w1.heap.size ≤ g)
    {c0 c1 c2 c3 c4 c5 : Value} (hown : w2.ownsRow base 27 6 (.slice (some ⟨g, 0, none⟩) (acc.length + 1) cp) (acc.length + 1) (vs.flatMap aggC ++ [c0, c1, c2, c3, c4, c5]))
    {S : Nat → Prop} {j : J} (hJ : JAt S w1 n (.agg #[c0, c1, c2, c3, c4, c5]) j) (hq : ∀ b, S b → b < w1.heap.size → base ≤ b ∧ some b ≠ iv.ownBlock ∧ some b ≠ nv.ownBlock ∧ b ≠ bv) :
    Own2 base bv n k nv (.slice (some ⟨g, 0, none⟩) (acc.length + 1) cp) ns (vs ++ [.agg #[c0, c1, c2, c3, c4, c5]]) (acc ++ [j]) (w2.setCell ⟨bv, 5, none⟩ (.slice (some ⟨g, 0, none⟩) (acc.length + 1) cp)) := by
  obtain ⟨F1, F2, F3, F4, F5⟩ := item_frameQ (bv := bv) (iv := iv) hgrow hBS (.slice (some ⟨g, 0, none⟩) (acc.length + 1) cp)
  have hbl := Own.block_lt hO.blk
  have hbg : bv ≠ g := by
    rcases hat with h | h
    · rintro rfl; exact hO.ine h
    · omega
  have hsS := hBS.size
  have hne2 : some bv ≠ iv.ownBlock := fun h => hO.ine h.symm
  have hb2 : w2.heap[bv]? = w1.heap[bv]? := by rw [hgrow.block bv (by omega) hne2, hBS.block bv hbl]
  have hnlt : ∀ b, nv.ownBlock = some b → b < w1.heap.size := fun b hb => (hO.nrow.lt b hb).2
  have hnapart : nv.ownBlock = none ∨ nv.ownBlock ≠ iv.ownBlock := Own.own_apart hO.irow hO.nrow (by decide)
  refine ⟨set_cell5 (hb2.trans hO.blk) _, ?_, ?_, by simp [hO.vl], by simpa [Value.ownBlock] using Ne.symm hbg, hO.txt, fun i hi => ?_⟩
  · have := ownsRow_setCell_other hown (a := ⟨bv, 5, none⟩) (by simpa [Value.ownBlock] using Ne.symm hbg) (.slice (some ⟨g, 0, none⟩) (acc.length + 1) cp)
    simpa [aggC] using this
  · refine ⟨hO.nrow.1, ?_⟩
    rcases hO.nrow.2 with hn | ⟨gn, cap, cur, hv, hbg', hg, hr⟩
    · exact .inl hn
    · refine .inr ⟨gn, cap, cur, hv, hbg', ?_, hr⟩
      have e1 : nv.ownBlock = some gn := by rw [hv]; rfl
      rw [F1 gn (hnlt gn e1) ?_ ?_]; exact hg
      · intro h
        rcases hnapart with h' | h'
        · rw [h'] at e1; cases e1
        · exact h' (e1.trans h)
      · rintro rfl
        have := hO.blk; rw [hg] at this; cases this
  · have hS : ∀ b, (base ≤ b ∧ some b ≠ iv.ownBlock ∧ some b ≠ nv.ownBlock ∧ b ≠ bv) → b < w1.heap.size → InS base bv nv (.slice (some ⟨g, 0, none⟩) (acc.length + 1) cp) b := fun b hb hlt => by
      refine ⟨hb.1, ?_, hb.2.2.1, hb.2.2.2⟩
      show some b ≠ some g
      intro e
      cases e
      rcases hat with h | h
      · exact hb.2.1 h.symm
      · omega
    by_cases hia : i < acc.length
    · have := hO.items i hia
      have e1 : (vs ++ [Value.agg #[c0, c1, c2, c3, c4, c5]]).getD i undef = vs.getD i undef := by rw [List.getD_eq_getElem?_getD, List.getD_eq_getElem?_getD, List.getElem?_append_left (by rw [hO.vl]; exact hia)]
      have e2 : (acc ++ [j]).getD i j0 = acc.getD i j0 := by rw [List.getD_eq_getElem?_getD, List.getD_eq_getElem?_getD, List.getElem?_append_left hia]
      rw [e1, e2]
      exact this.keep (fun b hb hlt => hS b hb hlt) (fun b hb hlt => F1 b hlt hb.2.1 hb.2.2.2) F2
    · have hi' : i = acc.length := by simp at hi; omega
      subst hi'
      have e1 : (vs ++ [Value.agg #[c0, c1, c2, c3, c4, c5]]).getD acc.length undef = .agg #[c0, c1, c2, c3, c4, c5] := by rw [← hO.vl, List.getD_eq_getElem?_getD, List.getElem?_append_right (Nat.le_refl _)]; simp
      have e2 : (acc ++ [j]).getD acc.length j0 = j := by rw [List.getD_eq_getElem?_getD, List.getElem?_append_right (Nat.le_refl _)]; simp
      rw [e1, e2]
      exact hJ.keep (fun b hb hlt => hS b (hq b hb hlt) hlt) (fun b hb hlt => F1 b hlt (hq b hb hlt).2.1 (hq b hb hlt).2.2.2) F2
end
/-- The place of the answer, and all else as it was but for the Parser. -/
structure PF (w : World) (pb : Nat) (wr : World) : Prop where
  chg : Chg (· = pb) w wr
  bres : wr.heap[w.heap.size]? = some (.cells zero6 27 (0, 0))
  sz : w.heap.size + 3 ≤ wr.heap.size
theorem PF.chgR {w : World} {pb : Nat} {wr w' : World} (h : PF w pb wr) (hp : pb < w.heap.size) (hc : Chg (· = pb) wr w') : PF w pb w' :=
  ⟨h.chg.trans hc, (hc.block _ (by have := h.sz; omega) (by omega)).trans h.bres, Nat.le_trans h.sz hc.size⟩
theorem chg_below {X : Nat → Prop} {w w' : World} (h : Below w.heap.size w w') : Chg X w w' := Chg.of_below h
/-- A value under construction. -/
def PV (w : World) (n : Nat) (K : Int) (ns : List (List UInt8)) (acc : List J) (wr : World) : Prop := ∃ nv iv vs, Own2 (w.heap.size + 3) (w.heap.size + 2) n K nv iv ns vs acc wr
theorem PV.chgR {w : World} {pb n : Nat} {K : Int} {ns : List (List UInt8)} {acc : List J} {wr w' : World} (h : PV w n K ns acc wr) (hp : pb < w.heap.size) (hc : Chg (· = pb) wr w') : PV w n K ns acc w' := by
  obtain ⟨nv, iv, vs, hO⟩ := h
  exact ⟨nv, iv, vs, hO.chgR hc (by omega) (by omega)⟩
/-- The block of the value, whatever it holds. -/
def PB (w : World) (K : Int) (wr : World) : Prop := ∃ a nn c a' nn' c', wr.heap[w.heap.size + 2]? = some (.cells #[.int .i64 K, .int .i64 0, .int .i64 0, .string ⟨#[]⟩, .slice a nn c, .slice a' nn' c'] 27 (0, 0))
/-- .. and that it is this value, n deep. -/
def PJ (w : World) (n : Nat) (K : Int) (j : J) (wr : World) : Prop := ∃ a nn c a' nn' c', wr.heap[w.heap.size + 2]? = some (.cells #[.int .i64 K, .int .i64 0, .int .i64 0, .string ⟨#[]⟩, .slice a nn c, .slice a' nn' c'] 27 (0, 0)) ∧
  JAt (fun b => w.heap.size + 3 ≤ b) wr n (.agg #[.int .i64 K, .int .i64 0, .int .i64 0, .string ⟨#[]⟩, .slice a nn c, .slice a' nn' c']) j
theorem PV.pb {w : World} {n : Nat} {K : Int} {ns : List (List UInt8)} {acc : List J} {wr : World} (h : PV w n K ns acc wr) : PB w K wr := by
  obtain ⟨nv, iv, vs, hO⟩ := h
  have hb := hO.blk
  obtain ⟨ao, c, rfl⟩ := own_slice hO.irow
  obtain ⟨an, cn, rfl⟩ := own_slice hO.nrow
  exact ⟨_, _, _, _, _, _, hb⟩
theorem PV.pj {w : World} {n : Nat} {K : Int} {ns : List (List UInt8)} {acc : List J} {wr : World} (h : PV w n K ns acc wr) (hK : i64B K) (hn : ns.length ≤ 1000000) (ha : acc.length ≤ 1000000) : PJ w (n + 1) K (.mk K 0 0 [] ns acc) wr := by
  obtain ⟨nv, iv, vs, hO⟩ := h
  have hb := hO.blk
  have hj := hO.jat hK hn ha
  obtain ⟨ao, c, rfl⟩ := own_slice hO.irow
  obtain ⟨an, cn, rfl⟩ := own_slice hO.nrow
  exact ⟨_, _, _, _, _, _, hb, hj⟩
theorem PB.chgR {w : World} {pb : Nat} {K : Int} {wr w' : World} (h : PB w K wr) (hp : pb < w.heap.size) (hc : Chg (· = pb) wr w') : PB w K w' := by
  obtain ⟨a, nn, c, a', nn', c', h⟩ := h
  exact ⟨a, nn, c, a', nn', c', (hc.block _ (Own.block_lt h) (by omega)).trans h⟩
theorem PJ.chgR {w : World} {pb n : Nat} {K : Int} {j : J} {wr w' : World} (h : PJ w n K j wr) (hp : pb < w.heap.size) (hc : Chg (· = pb) wr w') : PJ w n K j w' := by
  obtain ⟨a, nn, c, a', nn', c', h, hj⟩ := h
  exact ⟨a, nn, c, a', nn', c', (hc.block _ (Own.block_lt h) (by omega)).trans h, hj.keep (fun _ h _ => h) (fun b hb hl => hc.block b hl (by omega)) hc.size⟩
theorem PJ.pb {w : World} {n : Nat} {K : Int} {j : J} {wr : World} (h : PJ w n K j wr) : PB w K wr := by
  obtain ⟨a, nn, c, a', nn', c', h, _⟩ := h
  exact ⟨a, nn, c, a', nn', c', h⟩
/-- The end of a loop: the Parser stands where it must; if there is no error, the value is there. -/
structure PE (w : World) (pb bt cap : Nat) (ts : List Tok) (n : Nat) (K : Int) (r : R) (wr : World) : Prop where
  pa : Pa wr pb bt cap ts r.l r.er
  pf : PF w pb wr
  blk : PB w K wr
  jat : r.er = 0 → PJ w n K r.j wr
theorem PE.chgR {w : World} {pb bt cap : Nat} {ts : List Tok} {n : Nat} {K : Int} {r : R} {wr w' : World} (h : PE w pb bt cap ts n K r wr) (hp : pb < w.heap.size) (hc : Chg (fun _ => False) wr w') : PE w pb bt cap ts n K r w' := by
  have hc2 : Chg (· = pb) wr w' := hc.mono (fun _ _ h => h.elim)
  exact ⟨h.pa.chg hc (fun h => h) (fun h => h), h.pf.chgR hp hc2, h.blk.chgR hp hc2, fun he => (h.jat he).chgR hp hc2⟩
section
variable {w : World} {pb bt cap n : Nat} {ts l : List Tok} {E : Int} {K : Int} {ns : List (List UInt8)} {acc : List J} {wq w1 wS w2 : World} {nv iv : Value} {vs : List Value} {g cp : Nat} {c0 c1 c2 c3 c4 c5 : Value} {j : J}
theorem item_leaves (hp : pb < w.heap.size) (hbt : bt < w.heap.size) (hF : PF w pb wq) (hO : Own2 (w.heap.size + 3) (w.heap.size + 2) n K nv iv ns vs acc wq) (hc1 : Chg (· = pb) wq w1) (hP : Pa w1 pb bt cap ts l E) (hBS : Below w1.heap.size w1 wS) (hgrow : wS.grownBy w2 iv.ownBlock) :
    Pa (w2.setCell ⟨w.heap.size + 2, 5, none⟩ (.slice (some ⟨g, 0, none⟩) (acc.length + 1) cp)) pb bt cap ts l E ∧ PF w pb (w2.setCell ⟨w.heap.size + 2, 5, none⟩ (.slice (some ⟨g, 0, none⟩) (acc.length + 1) cp)) ∧ PB w K (w2.setCell ⟨w.heap.size + 2, 5, none⟩ (.slice (some ⟨g, 0, none⟩) (acc.length + 1) cp)) := by
  have h1 := hF.chgR hp hc1
  have hO1 := hO.chgR hc1 (by omega) (by omega)
  have hsq := hF.sz
  have hs1 := hc1.size
  obtain ⟨F1, F2, F3, F4, F5⟩ := item_frameQ (bv := w.heap.size + 2) (iv := iv) hgrow hBS (.slice (some ⟨g, 0, none⟩) (acc.length + 1) cp)
  have hib : ∀ b, iv.ownBlock = some b → w.heap.size + 3 ≤ b ∧ b < w1.heap.size := fun b hb => hO1.irow.lt b hb
  refine ⟨hP.keep (F1 pb (by omega) (fun h => by have := (hib pb h.symm).1; omega) (by omega)) (F1 bt (by omega) (fun h => by have := (hib bt h.symm).1; omega) (by omega)) F2, ⟨⟨F3.trans h1.chg.os, F4.trans h1.chg.tape, F5.trans h1.chg.output, by have := h1.sz; omega, fun b hb hx => ?_⟩, ?_, by have := h1.sz; omega⟩, ?_⟩
  · rw [F1 b (by omega) (fun h => by have := (hib b h.symm).1; omega) (by omega)]; exact h1.chg.block b hb hx
  · rw [F1 _ (by omega) (fun h => by have := (hib _ h.symm).1; omega) (by omega)]; exact h1.bres
  · have hb2 : w2.heap[w.heap.size + 2]? = w1.heap[w.heap.size + 2]? := by
      have hsS := hBS.size
      rw [hgrow.block _ (by omega) (fun h => hO1.ine h.symm), hBS.block _ (by omega)]
    have hb := set_cell5 (hb2.trans hO1.blk) (.slice (some ⟨g, 0, none⟩) (acc.length + 1) cp)
    obtain ⟨an, cn, rfl⟩ := own_slice hO1.nrow
    exact ⟨_, _, _, _, _, _, hb⟩
theorem item_makes (hp : pb < w.heap.size) (hF : PF w pb wq) (hO : Own2 (w.heap.size + 3) (w.heap.size + 2) n K nv iv ns vs acc wq) (hc1 : Chg (· = pb) wq w1) (hBS : Below w1.heap.size w1 wS) (hgrow : wS.grownBy w2 iv.ownBlock) (hat : iv.ownBlock = some g ∨ w1.heap.size ≤ g)
    (hown : w2.ownsRow (w.heap.size + 3) 27 6 (.slice (some ⟨g, 0, none⟩) (acc.length + 1) cp) (acc.length + 1) (vs.flatMap aggC ++ [c0, c1, c2, c3, c4, c5]))
    (hJ : JAt (fun b => wq.heap.size ≤ b) w1 n (.agg #[c0, c1, c2, c3, c4, c5]) j) : PV w n K ns (acc ++ [j]) (w2.setCell ⟨w.heap.size + 2, 5, none⟩ (.slice (some ⟨g, 0, none⟩) (acc.length + 1) cp)) := by
  have hO1 := hO.chgR hc1 (by omega) (by omega)
  have hsq := hF.sz
  have hib : ∀ b, iv.ownBlock = some b → w.heap.size + 3 ≤ b ∧ b < wq.heap.size := fun b hb => hO.irow.lt b hb
  have hnb : ∀ b, nv.ownBlock = some b → w.heap.size + 3 ≤ b ∧ b < wq.heap.size := fun b hb => hO.nrow.lt b hb
  exact ⟨nv, _, _, step_itemQ hO1 hgrow hBS hat hown hJ (fun b hb _ => ⟨by omega, fun h => by have := (hib b h.symm).2; omega, fun h => by have := (hnb b h.symm).2; omega, by omega⟩)⟩
theorem name_leaves {nm : List UInt8} (hp : pb < w.heap.size) (hbt : bt < w.heap.size) (hF : PF w pb wq) (hO : Own2 (w.heap.size + 3) (w.heap.size + 2) n K nv iv ns vs acc wq) (hP : Pa wq pb bt cap ts l E) (hBS : Below wq.heap.size wq wS) (hgrow : wS.grownBy w2 nv.ownBlock) (hat : nv.ownBlock = some g ∨ wq.heap.size ≤ g) (ht : txtB nm)
    (hown : w2.ownsRow (w.heap.size + 3) 9 1 (.slice (some ⟨g, 0, none⟩) (ns.length + 1) cp) (ns.length + 1) (ns.map strW ++ [strW nm])) :
    Pa (w2.setCell ⟨w.heap.size + 2, 4, none⟩ (.slice (some ⟨g, 0, none⟩) (ns.length + 1) cp)) pb bt cap ts l E ∧ PF w pb (w2.setCell ⟨w.heap.size + 2, 4, none⟩ (.slice (some ⟨g, 0, none⟩) (ns.length + 1) cp)) ∧ PV w n K (ns ++ [nm]) acc (w2.setCell ⟨w.heap.size + 2, 4, none⟩ (.slice (some ⟨g, 0, none⟩) (ns.length + 1) cp)) := by
  have hsq := hF.sz
  obtain ⟨F1, F2, F3, F4, F5⟩ := name_frame (bv := w.heap.size + 2) (nv := nv) hgrow hBS (.slice (some ⟨g, 0, none⟩) (ns.length + 1) cp)
  have hnb : ∀ b, nv.ownBlock = some b → w.heap.size + 3 ≤ b ∧ b < wq.heap.size := fun b hb => hO.nrow.lt b hb
  refine ⟨hP.keep (F1 pb (by omega) (fun h => by have := (hnb pb h.symm).1; omega) (by omega)) (F1 bt (by omega) (fun h => by have := (hnb bt h.symm).1; omega) (by omega)) F2, ⟨⟨F3.trans hF.chg.os, F4.trans hF.chg.tape, F5.trans hF.chg.output, by omega, fun b hb hx => ?_⟩, ?_, by omega⟩, ⟨_, iv, vs, step_name hO (by omega) hgrow hBS hat ht hown⟩⟩
  · rw [F1 b (by omega) (fun h => by have := (hnb b h.symm).1; omega) (by omega)]; exact hF.chg.block b hb hx
  · rw [F1 _ (by omega) (fun h => by have := (hnb _ h.symm).1; omega) (by omega)]; exact hF.bres
end
/-- The answer. -/
theorem PE.fin {w : World} {pb bt cap : Nat} {ts : List Tok} {n : Nat} {K : Int} {r : R} {wr : World} (h : PE w pb bt cap ts n K r wr) (hp : pb < w.heap.size) (hbt : bt < w.heap.size) :
    ∃ a nn c a' nn' c', wr.heap[w.heap.size + 2]? = some (.cells #[.int .i64 K, .int .i64 0, .int .i64 0, .string ⟨#[]⟩, .slice a nn c, .slice a' nn' c'] 27 (0, 0)) ∧
      ∀ c0 c1 c2 c3 c4 c5, RVRet w pb bt cap ts n r (.returned (.agg #[.int .i64 K, .int .i64 0, .int .i64 0, .string ⟨#[]⟩, .slice a nn c, .slice a' nn' c'])) (put6 wr w.heap.size 0 c0 c1 c2 c3 c4 c5) := by
  have hP : ∀ c0 c1 c2 c3 c4 c5, Pa (put6 wr w.heap.size 0 c0 c1 c2 c3 c4 c5) pb bt cap ts r.l r.er := fun c0 c1 c2 c3 c4 c5 =>
    h.pa.keep (put6_block _ _ _ _ _ _ _ _ _ _ (by omega)) (put6_block _ _ _ _ _ _ _ _ _ _ (by omega)) (by rw [put6_size]; exact Nat.le_refl _)
  have hC : ∀ c0 c1 c2 c3 c4 c5, Chg (· = pb) w (put6 wr w.heap.size 0 c0 c1 c2 c3 c4 c5) := fun c0 c1 c2 c3 c4 c5 => by
    obtain ⟨p1, p2, p3⟩ := put6_os wr w.heap.size 0 c0 c1 c2 c3 c4 c5
    exact ⟨p1.trans h.pf.chg.os, p2.trans h.pf.chg.tape, p3.trans h.pf.chg.output, by rw [put6_size]; exact h.pf.chg.size, fun k hk hx => (put6_block _ _ _ _ _ _ _ _ _ _ (by omega)).trans (h.pf.chg.block k hk hx)⟩
  by_cases he : r.er = 0
  · obtain ⟨a, nn, c, a', nn', c', hb, hj⟩ := h.jat he
    exact ⟨a, nn, c, a', nn', c', hb, fun c0 c1 c2 c3 c4 c5 => ⟨_, _, _, _, _, _, _, _, _, _, rfl, hP _ _ _ _ _ _, hC _ _ _ _ _ _, fun _ => hj.keep (fun b hb _ => by omega) (fun b hb _ => put6_block _ _ _ _ _ _ _ _ _ _ (by omega)) (by rw [put6_size]; exact Nat.le_refl _)⟩⟩
  · obtain ⟨a, nn, c, a', nn', c', hb⟩ := h.blk
    exact ⟨a, nn, c, a', nn', c', hb, fun c0 c1 c2 c3 c4 c5 => ⟨_, _, _, _, _, _, _, _, _, _, rfl, hP _ _ _ _ _ _, hC _ _ _ _ _ _, fun h => absurd h he⟩⟩
end Go.Proofs.YtmlpefpjemiccaaGreatDoor.Js
