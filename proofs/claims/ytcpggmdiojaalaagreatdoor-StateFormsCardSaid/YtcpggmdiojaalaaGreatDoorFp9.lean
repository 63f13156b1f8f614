import Derived.Test.YtcpggmdiojaalaaGreatDoorME
/- Layer 5: names and items that are made of fields and raw values: the loop of FieldChecks and FieldOrder, plain and between its rounds. -/
set_option linter.unusedVariables false
set_option linter.unusedSimpArgs false
namespace Go.Proofs.YtcpggmdiojaalaaGreatDoor.Js
open Go.RowKit Lex

/-- What lies between the rounds. -/
structure TI (w : World) (base : Nat) (ns : List (List UInt8)) (acc : List J) (nv iv : Value) (wr : World) : Prop where
  bel : Below w.heap.size w wr
  lo : w.heap.size ≤ base
  own : ∃ vs, Own3 base 15 nv iv ns vs acc wr
  hi : base ≤ wr.heap.size
theorem TI.below {w : World} {base : Nat} {ns : List (List UInt8)} {acc : List J} {nv iv : Value} {wr w' : World} (h : TI w base ns acc nv iv wr) (hb : Below wr.heap.size wr w') : TI w base ns acc nv iv w' := by
  obtain ⟨vs, hO⟩ := h.own
  exact ⟨h.bel.trans (hb.mono h.bel.size), h.lo, ⟨vs, hO.below hb (Nat.le_refl _)⟩, Nat.le_trans h.hi hb.size⟩
theorem TI.name {w : World} {base : Nat} {ns : List (List UInt8)} {acc : List J} {nv iv : Value} {wr wS w2 : World} {g cp : Nat} {nm : List UInt8} (h : TI w base ns acc nv iv wr) (hgrow : wS.grownBy w2 nv.ownBlock) (hBS : Below wr.heap.size wr wS) (hat : nv.ownBlock = some g ∨ wr.heap.size ≤ g) (ht : txtB nm)
    (hown : w2.ownsRow base 9 1 (.slice (some ⟨g, 0, none⟩) (ns.length + 1) cp) (ns.length + 1) (ns.map strW ++ [strW nm])) : TI w base (ns ++ [nm]) acc (.slice (some ⟨g, 0, none⟩) (ns.length + 1) cp) iv w2 := by
  obtain ⟨vs, hO⟩ := h.own
  have hs := hgrow.size
  have hsS := hBS.size
  have h1 := h.bel.size
  have h2 := h.lo
  have h3 := h.hi
  have hlt := fun k hk => (hO.nrow.lt k hk).1
  exact ⟨(h.bel.trans (hBS.mono h1)).grown hgrow (by omega) (fun k hk => by have := hlt k hk; omega), h.lo, ⟨vs, hO.name hgrow hBS hat ht hown⟩, by omega⟩
theorem TI.item {w : World} {base : Nat} {ns : List (List UInt8)} {acc : List J} {nv iv : Value} {wr wm wS w2 : World} {g cp : Nat} {vs : List Value} {c0 c1 c2 c3 c4 c5 : Value} {j : J} (h : TI w base ns acc nv iv wr) (hO : Own3 base 15 nv iv ns vs acc wr) (hbm : Below wr.heap.size wr wm) (hgrow : wS.grownBy w2 iv.ownBlock) (hBS : Below wm.heap.size wm wS) (hat : iv.ownBlock = some g ∨ wm.heap.size ≤ g)
    (hown : w2.ownsRow base 45 6 (.slice (some ⟨g, 0, none⟩) (acc.length + 1) cp) (acc.length + 1) (vs.flatMap aggC ++ [c0, c1, c2, c3, c4, c5])) (hJ : JAt (fun b => wr.heap.size ≤ b) wm 15 (.agg #[c0, c1, c2, c3, c4, c5]) j) : TI w base ns (acc ++ [j]) nv (.slice (some ⟨g, 0, none⟩) (acc.length + 1) cp) w2 := by
  have hs := hgrow.size
  have hsS := hBS.size
  have hsm := hbm.size
  have h1 := h.bel.size
  have h2 := h.lo
  have h3 := h.hi
  have hlt := fun k hk => hO.irow.lt k hk
  have hnt := fun k hk => hO.nrow.lt k hk
  exact ⟨((h.bel.trans (hbm.mono h1)).trans (hBS.mono (by omega))).grown hgrow (by omega) (fun k hk => by have := (hlt k hk).1; omega), h.lo, ⟨_, (hO.below hbm (Nat.le_refl _)).item hgrow hBS hat hown hJ (fun b hb _ => ⟨by omega, fun e => by have := (hlt b e.symm).2; omega, fun e => by have := (hnt b e.symm).2; omega⟩)⟩, by omega⟩

end Go.Proofs.YtcpggmdiojaalaaGreatDoor.Js
