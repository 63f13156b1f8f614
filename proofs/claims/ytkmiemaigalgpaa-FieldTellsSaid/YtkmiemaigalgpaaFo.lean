import Derived.Test.YtkmiemaigalgpaaFh
/- Layer 5: names and items under construction, as two rows of one's own. -/
set_option linter.unusedVariables false
set_option linter.unusedSimpArgs false
namespace Go.Proofs.Ytkmiemaigalgpaa.Js
open Go.RowKit Lex

def InT (base : Nat) (nv iv : Value) (b : Nat) : Prop := base ≤ b ∧ some b ≠ iv.ownBlock ∧ some b ≠ nv.ownBlock
structure Own3 (base n : Nat) (nv iv : Value) (ns : List (List UInt8)) (vs : List Value) (acc : List J) (w : World) : Prop where
  irow : w.ownsRow base 27 6 iv acc.length (vs.flatMap aggC)
  nrow : w.ownsRow base 9 1 nv ns.length (ns.map strW)
  vl : vs.length = acc.length
  txt : ∀ x ∈ ns, txtB x
  items : ∀ i, i < acc.length → JAt (InT base nv iv) w n (vs.getD i undef) (acc.getD i j0)
theorem own3_nil {base n : Nat} {w : World} : Own3 base n (.slice none 0 0) (.slice none 0 0) [] [] [] w :=
  ⟨World.ownsRow_nil _ _ _ _, World.ownsRow_nil _ _ _ _, rfl, fun x hx => by simp at hx, fun i hi => by simp at hi⟩
theorem row_keep {w w' : World} {base e s n : Nat} {v : Value} {xs : List Value} (hr : w.ownsRow base e s v n xs) (hk : ∀ g, v.ownBlock = some g → g < w.heap.size → w'.heap[g]? = w.heap[g]?) : w'.ownsRow base e s v n xs := by
  refine ⟨hr.1, ?_⟩
  rcases hr.2 with hn | ⟨g, cap, cur, hv, hbg, hg, hq⟩
  · exact .inl hn
  · exact .inr ⟨g, cap, cur, hv, hbg, (hk g (by rw [hv]; rfl) (Own.block_lt hg)).trans hg, hq⟩
theorem Own3.below {base n : Nat} {nv iv : Value} {ns : List (List UInt8)} {vs : List Value} {acc : List J} {w w' : World} (h : Own3 base n nv iv ns vs acc w) {B : Nat} (hb : Below B w w') (hB : w.heap.size ≤ B) : Own3 base n nv iv ns vs acc w' :=
  ⟨row_keep h.irow (fun g _ hl => hb.block g (by omega)), row_keep h.nrow (fun g _ hl => hb.block g (by omega)), h.vl, h.txt, fun i hi => (h.items i hi).below hb hB⟩
section
variable {base n : Nat} {nv iv : Value} {ns : List (List UInt8)} {vs : List Value} {acc : List J} {w1 wS w2 : World} {g cp : Nat}
/-- An item more. -/
theorem Own3.item (hO : Own3 base n nv iv ns vs acc w1) (hgrow : wS.grownBy w2 iv.ownBlock) (hBS : Below w1.heap.size w1 wS) (hat : iv.ownBlock = some g ∨ w1.heap.size ≤ g)
    {c0 c1 c2 c3 c4 c5 : Value} (hown : w2.ownsRow base 27 6 (.slice (some ⟨g, 0, none⟩) (acc.length + 1) cp) (acc.length + 1) (vs.flatMap aggC ++ [c0, c1, c2, c3, c4, c5]))
    {S : Nat → Prop} {j : J} (hJ : JAt S w1 n (.agg #[c0, c1, c2, c3, c4, c5]) j) (hq : ∀ b, S b → b < w1.heap.size → base ≤ b ∧ some b ≠ iv.ownBlock ∧ some b ≠ nv.ownBlock) :
    Own3 base n nv (.slice (some ⟨g, 0, none⟩) (acc.length + 1) cp) ns (vs ++ [.agg #[c0, c1, c2, c3, c4, c5]]) (acc ++ [j]) w2 := by
  have hs := hgrow.size
  have hsS := hBS.size
  have F1 : ∀ b, b < w1.heap.size → some b ≠ iv.ownBlock → w2.heap[b]? = w1.heap[b]? := fun b hb h1 => by rw [hgrow.block b (by omega) h1, hBS.block b hb]
  have hnapart : nv.ownBlock = none ∨ nv.ownBlock ≠ iv.ownBlock := Own.own_apart hO.irow hO.nrow (by decide)
  refine ⟨?_, row_keep hO.nrow (fun gn e1 hl => F1 gn hl (fun h => by
    rcases hnapart with h' | h'
    · rw [h'] at e1; cases e1
    · exact h' (e1.trans h))), by simp [hO.vl], hO.txt, fun i hi => ?_⟩
  · simpa [aggC] using hown
  · have hS : ∀ b, (base ≤ b ∧ some b ≠ iv.ownBlock ∧ some b ≠ nv.ownBlock) → b < w1.heap.size → InT base nv (.slice (some ⟨g, 0, none⟩) (acc.length + 1) cp) b := fun b hb hlt => by
      refine ⟨hb.1, ?_, hb.2.2⟩
      show some b ≠ some g
      intro e
      cases e
      rcases hat with h | h
      · exact hb.2.1 h.symm
      · omega
    by_cases hia : i < acc.length
    · have := hO.items i hia
      have e1 : (vs ++ [Value.agg #[c0, c1, c2, c3, c4, c5]]).getD i undef = vs.getD i undef := by rw [List.getD_eq_getElem?_getD, List.getD_eq_getElem?_getD, List.getElem?_append_left (by rw [hO.vl]; exact hia)]
      have e2 : (acc ++ [j]).getD i j0 = acc.getD i j0 := by rw [List.getD_eq_getElem?_getD, List.getD_eq_getElem?_getD, List.getElem?_append_left hia]
      rw [e1, e2]
      exact this.keep (fun b hb hlt => hS b hb hlt) (fun b hb hlt => F1 b hlt hb.2.1) (by omega)
    · have hi' : i = acc.length := by simp at hi; omega
      subst hi'
      have e1 : (vs ++ [Value.agg #[c0, c1, c2, c3, c4, c5]]).getD acc.length undef = .agg #[c0, c1, c2, c3, c4, c5] := by rw [← hO.vl, List.getD_eq_getElem?_getD, List.getElem?_append_right (Nat.le_refl _)]; simp
      have e2 : (acc ++ [j]).getD acc.length j0 = j := by rw [List.getD_eq_getElem?_getD, List.getElem?_append_right (Nat.le_refl _)]; simp
      rw [e1, e2]
      exact hJ.keep (fun b hb hlt => hS b (hq b hb hlt) hlt) (fun b hb hlt => F1 b hlt (hq b hb hlt).2.1) (by omega)
/-- A name more. -/
theorem Own3.name (hO : Own3 base n nv iv ns vs acc w1) (hgrow : wS.grownBy w2 nv.ownBlock) (hBS : Below w1.heap.size w1 wS) (hat : nv.ownBlock = some g ∨ w1.heap.size ≤ g) {nm : List UInt8} (ht : txtB nm)
    (hown : w2.ownsRow base 9 1 (.slice (some ⟨g, 0, none⟩) (ns.length + 1) cp) (ns.length + 1) (ns.map strW ++ [strW nm])) :
    Own3 base n (.slice (some ⟨g, 0, none⟩) (ns.length + 1) cp) iv (ns ++ [nm]) vs acc w2 := by
  have hs := hgrow.size
  have hsS := hBS.size
  have F1 : ∀ b, b < w1.heap.size → some b ≠ nv.ownBlock → w2.heap[b]? = w1.heap[b]? := fun b hb h1 => by rw [hgrow.block b (by omega) h1, hBS.block b hb]
  have hapart : iv.ownBlock = none ∨ iv.ownBlock ≠ nv.ownBlock := Own.own_apart hO.nrow hO.irow (by decide)
  refine ⟨row_keep hO.irow (fun gi e1 hl => F1 gi hl (fun h => by
    rcases hapart with h' | h'
    · rw [h'] at e1; cases e1
    · exact h' (e1.trans h))), by simpa using hown, hO.vl, ?_, fun i hi => ?_⟩
  · intro x hx
    rcases List.mem_append.1 hx with hx | hx
    · exact hO.txt x hx
    · simp at hx; subst hx; exact ht
  · refine (hO.items i hi).keep (fun b hb hlt => ⟨hb.1, hb.2.1, ?_⟩) (fun b hb hlt => F1 b hlt hb.2.2) (by omega)
    show some b ≠ some g
    intro e
    cases e
    rcases hat with h | h
    · exact hb.2.2 h.symm
    · omega
end
/-- They read as names and items. -/
theorem Own3.strs {base n : Nat} {nv iv : Value} {ns : List (List UInt8)} {vs : List Value} {acc : List J} {w : World} (h : Own3 base n nv iv ns vs acc w) (hn : ns.length ≤ 1000000) : StrsAt Any w nv ns := by
  obtain ⟨an, cn, rfl⟩ := own_slice h.nrow
  rcases h.nrow.2 with ⟨e, h0⟩ | ⟨g, cap, cur, hv, hbg, hg, hnc, hcm, hcs, htake⟩
  · exact ⟨an, cn, rfl, by omega, by omega, h.txt, fun hp => by omega⟩
  · cases hv
    refine ⟨_, _, rfl, hnc, by omega, h.txt, fun _ => ⟨g, 0, rfl, trivial, Own.block_lt hg, fun j hj => ?_⟩⟩
    rw [Nat.zero_add]
    have := h.nrow.cellAt j (by omega)
    rw [this, List.getElem?_map, List.getElem?_eq_getElem hj, List.getD_eq_getElem?_getD, List.getElem?_eq_getElem hj]
    rfl
theorem Own3.its {base n : Nat} {nv : Value} {ai : Option Addr} {ni ci : Nat} {ns : List (List UInt8)} {vs : List Value} {acc : List J} {w : World} (h : Own3 base n nv (.slice ai ni ci) ns vs acc w) : ni = acc.length ∧ acc.length ≤ ci ∧ ItemsAt Any w n ai acc := by
  have hmem : ∀ v ∈ vs, ∃ i, i < acc.length ∧ v = vs.getD i undef := fun v hv => by
    obtain ⟨i, hi, rfl⟩ := List.mem_iff_getElem.1 hv
    exact ⟨i, by rw [← h.vl]; exact hi, by rw [List.getD_eq_getElem?_getD, List.getElem?_eq_getElem hi]; rfl⟩
  have h6 : ∀ v ∈ vs, (aggC v).length = 6 := fun v hv => by
    obtain ⟨i, hi, rfl⟩ := hmem v hv
    obtain ⟨_, _, _, _, _, _, _, _, _, _, e⟩ := jAt_form (h.items i hi)
    rw [e]; rfl
  rcases h.irow.2 with ⟨e, h0⟩ | ⟨g, cap, cur, hv, hbg, hg, hnc, _⟩
  · simp at e
    exact ⟨by omega, by omega, fun hp => by omega⟩
  · cases hv
    refine ⟨rfl, hnc, fun hp => ⟨g, 0, rfl, trivial, Own.block_lt hg, fun i hi => ⟨vs.getD i undef, fun q c hc => ?_, (h.items i hi).any⟩⟩⟩
    have hi2 : i < vs.length := by rw [h.vl]; exact hi
    have hq : q < 6 := by
      have := (List.getElem?_eq_some_iff.1 hc).1
      rw [h6 _ (by rw [List.getD_eq_getElem?_getD, List.getElem?_eq_getElem hi2]; exact List.getElem_mem _)] at this
      exact this
    rw [Nat.zero_add, h.irow.cellAt (i * 6 + q) (by omega), flat6_get h6 i q hi2 hq, hc]
end Go.Proofs.Ytkmiemaigalgpaa.Js
