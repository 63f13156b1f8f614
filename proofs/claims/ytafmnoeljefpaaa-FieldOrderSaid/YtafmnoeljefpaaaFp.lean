import Derived.Test.YtafmnoeljefpaaaFo
import Derived.Test.YtafmnoeljefpaaaFR2
import Derived.Test.YtafmnoeljefpaaaFk
/- Layer 5: names and items that are made of fields and raw values: the loop of FieldChecks and FieldOrder, plain and between its rounds. -/
set_option linter.unusedVariables false
set_option linter.unusedSimpArgs false
namespace Go.Proofs.Ytafmnoeljefpaaa.Js
open Go.RowKit Lex

/-- What lies between the rounds. -/
structure TI (w : World) (base : Nat) (ns : List (List UInt8)) (acc : List J) (nv iv : Value) (wr : World) : Prop where
  bel : Below w.heap.size w wr
  lo : w.heap.size ≤ base
  own : ∃ vs, Own3 base 15 nv iv ns vs acc wr
  hi : base ≤ wr.heap.size
theorem fit14 (w : World) (v : Value) (r : RT) (h : ∀ n, RAt w n v r) : Calls Try.prog 5 #[v, .int .i64 2] w (FRet w 15 (fitJ 14 r)) := fit_ok 14 (by omega) w v r (h 14)
theorem TI.below {w : World} {base : Nat} {ns : List (List UInt8)} {acc : List J} {nv iv : Value} {wr w' : World} (h : TI w base ns acc nv iv wr) (hb : Below wr.heap.size wr w') : TI w base ns acc nv iv w' := by
  obtain ⟨vs, hO⟩ := h.own
  exact ⟨h.bel.trans (hb.mono h.bel.size), h.lo, ⟨vs, hO.below hb (Nat.le_refl _)⟩, Nat.le_trans h.hi hb.size⟩
theorem TI.name {w : World} {base : Nat} {ns : List (List UInt8)} {acc : List J} {nv iv : Value} {wr wS w2 : World} {g cp : Nat} {nm : List UInt8} (h : TI w base ns acc nv iv wr) (hgrow : wS.grownBy w2 nv.ownBlock) (hBS : Below wr.heap.size wr wS) (hat : nv.ownBlock = some g ∨ wr.heap.size ≤ g) (ht : txtB nm)
    (hown : w2.ownsRow base 9 1 (.slice (some ⟨g, 0, none⟩) (ns.length + 1) cp) (ns.length + 1) (ns.map strW ++ [strW nm])) : TI w base (ns ++ [nm]) acc (.slice (some ⟨g, 0, none⟩) (ns.length + 1) cp) iv w2 := by
  obtain ⟨vs, hO⟩ := h.own
  have hs := hgrow.size
  have hsS := hBS.size
  have h1 := h.bel.size
  have h2 := h.lo
  have h3 := h.hi
  have hlt := fun k hk => (hO.nrow.lt k hk).1
  exact ⟨(h.bel.trans (hBS.mono h1)).grown hgrow (by omega) (fun k hk => by have := hlt k hk; omega), h.lo, ⟨vs, hO.name hgrow hBS hat ht hown⟩, by omega⟩
theorem TI.item {w : World} {base : Nat} {ns : List (List UInt8)} {acc : List J} {nv iv : Value} {wr wm wS w2 : World} {g cp : Nat} {vs : List Value} {c0 c1 c2 c3 c4 c5 : Value} {j : J} (h : TI w base ns acc nv iv wr) (hO : Own3 base 15 nv iv ns vs acc wr) (hbm : Below wr.heap.size wr wm) (hgrow : wS.grownBy w2 iv.ownBlock) (hBS : Below wm.heap.size wm wS) (hat : iv.ownBlock = some g ∨ wm.heap.size ≤ g)
    (hown : w2.ownsRow base 35 6 (.slice (some ⟨g, 0, none⟩) (acc.length + 1) cp) (acc.length + 1) (vs.flatMap aggC ++ [c0, c1, c2, c3, c4, c5])) (hJ : JAt (fun b => wr.heap.size ≤ b) wm 15 (.agg #[c0, c1, c2, c3, c4, c5]) j) : TI w base ns (acc ++ [j]) nv (.slice (some ⟨g, 0, none⟩) (acc.length + 1) cp) w2 := by
  have hs := hgrow.size
  have hsS := hBS.size
  have hsm := hbm.size
  have h1 := h.bel.size
  have h2 := h.lo
  have h3 := h.hi
  have hlt := fun k hk => hO.irow.lt k hk
  have hnt := fun k hk => hO.nrow.lt k hk
  exact ⟨((h.bel.trans (hbm.mono h1)).trans (hBS.mono (by omega))).grown hgrow (by omega) (fun k hk => by have := (hlt k hk).1; omega), h.lo, ⟨_, (hO.below hbm (Nat.le_refl _)).item hgrow hBS hat hown hJ (fun b hb _ => ⟨by omega, fun e => by have := (hlt b e.symm).2; omega, fun e => by have := (hnt b e.symm).2; omega⟩)⟩, by omega⟩

theorem chkL_lt (j : J) : ∀ (fs : List Fd) (i : Nat), (chkL j fs i = -1 ∧ ∀ f ∈ fs, j.k = 7 ∧ hasB j f = true) ∨ ∃ p, p < fs.length ∧ chkL j fs i = (i + p : Nat) ∧ (∀ q, q < p → j.k = 7 ∧ hasB j (fs.getD q fd0) = true) ∧ ¬ (j.k = 7 ∧ hasB j (fs.getD p fd0) = true)
  | [], i => .inl ⟨rfl, fun f hf => by simp at hf⟩
  | f :: r, i => by
    rw [chkL]
    by_cases h : j.k = 7 ∧ hasB j f = true
    · rw [if_pos h]
      rcases chkL_lt j r (i + 1) with ⟨h1, h2⟩ | ⟨p, h1, h2, h3, h4⟩
      · exact .inl ⟨h1, fun x hx => by rcases List.mem_cons.1 hx with rfl | hx; exact h; exact h2 x hx⟩
      · refine .inr ⟨p + 1, by simp; omega, by rw [h2]; omega, fun q hq => ?_, by simpa using h4⟩
        cases q with
        | zero => simpa using h
        | succ q => simpa using h3 q (by omega)
    · rw [if_neg h]
      exact .inr ⟨0, by simp, by simp, fun q hq => by omega, by simpa using h⟩
theorem chkL_take (j : J) (fs : List Fd) (p : Nat) (h : ∀ q, q < p → j.k = 7 ∧ hasB j (fs.getD q fd0) = true) (hp : p ≤ fs.length) : chkL j (fs.take p) 0 = -1 := by
  rcases chkL_lt j (fs.take p) 0 with ⟨h1, _⟩ | ⟨q, h1, h2, h3, h4⟩
  · exact h1
  · exfalso
    have hq : q < p := by simp at h1; omega
    apply h4
    have := h q hq
    rw [List.getD_eq_getElem?_getD, List.getElem?_take, if_pos hq, ← List.getD_eq_getElem?_getD]
    exact this
theorem chkL_one (j : J) (f : Fd) (h : ¬ (j.k = 7 ∧ hasB j f = true)) : chkL j [f] 0 = 0 := by
  rw [chkL, if_neg h]; rfl
end Go.Proofs.Ytafmnoeljefpaaa.Js
