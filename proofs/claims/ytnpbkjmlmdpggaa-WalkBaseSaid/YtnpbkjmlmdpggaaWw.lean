import Derived.Test.YtnpbkjmlmdpggaaWv
import Derived.Test.YtnpbkjmlmdpggaaYl
/- What the laws of stage 13 begin with. -/
set_option linter.unusedVariables false
set_option linter.unusedSimpArgs false
namespace Go.Proofs.Ytnpbkjmlmdpggaa.Wk
open Go.RowKit Go.Shelf Ly Od

/-- The raw order's box, the layout's, the order's; the path. -/
structure H3 (w : World) (x : RawR) (ta : Option Addr) (tc : Nat) (lb : Nat) (n : Int) (la : Option Addr) (lc : Nat) (es : List Ed) (ob : Nat) (X : O) (an ae : Option Addr) (cn ce : Nat) (ao : Option Addr) (pc : Nat) (p : List Int) (W : World) : Prop where
  raw : ∀ (j : Nat) (v : Value), (#[.int .i64 x.h, .int .i64 x.o, .int .i64 x.u, .int .i64 x.q, .int .i64 x.f, .int .i64 x.r, .slice ta x.ts.length tc] : Array Value)[j]? = some v → W.cell? ⟨w.heap.size, j, none⟩ = some v
  lay : ∀ (j : Nat) (v : Value), (#[.int .i64 n, .slice la es.length lc] : Array Value)[j]? = some v → W.cell? ⟨lb, j, none⟩ = some v
  ed : EdgesAt W (.slice la es.length lc) es
  box : ∀ (j : Nat) (v : Value), (#[.int .i64 X.h, .string ⟨X.v.toArray⟩, .int .i64 X.o, .int .i64 X.u, .slice an X.ns.length cn, .slice ae X.es.length ce] : Array Value)[j]? = some v → W.cell? ⟨ob, j, none⟩ = some v
  ord : OAt (NotO W) W (.agg #[.int .i64 X.h, .string ⟨X.v.toArray⟩, .int .i64 X.o, .int .i64 X.u, .slice an X.ns.length cn, .slice ae X.es.length ce]) X
  pth : IntsAt W (.slice ao p.length pc) p
  bel : Below w.heap.size w W
theorem OAt.grown {w w' : World} {v : Value} {x : O} (h : OAt (NotO w) w v x) (hb : Below w.heap.size w w') : OAt (NotO w') w' v x := OAt.keepN h (fun _ h => h) (fun b _ hl => hb.block b hl) hb.size
theorem H3.grow {w : World} {x : RawR} {ta : Option Addr} {tc : Nat} {lb : Nat} {n : Int} {la : Option Addr} {lc : Nat} {es : List Ed} {ob : Nat} {X : O} {an ae : Option Addr} {cn ce : Nat} {ao : Option Addr} {pc : Nat} {p : List Int} {W W' : World}
    (h : H3 w x ta tc lb n la lc es ob X an ae cn ce ao pc p W) (hb : Below W.heap.size W W') : H3 w x ta tc lb n la lc es ob X an ae cn ce ao pc p W' :=
  ⟨fun j v e => (hb.cell (cell_lt (h.raw j v e))).trans (h.raw j v e), fun j v e => (hb.cell (cell_lt (h.lay j v e))).trans (h.lay j v e), h.ed.below hb (Nat.le_refl _), fun j v e => (hb.cell (cell_lt (h.box j v e))).trans (h.box j v e), OAt.grown h.ord hb, h.pth.below hb (Nat.le_refl _), h.bel.trans (hb.mono h.bel.size)⟩
theorem made_fits {n : Int} {es : List Ed} {x : RawR} {p : List Int} (hp : LP n es p) (hr : RightL n es) : fitsS Tp.nameB n es (madeO x p) = true := hp.fits hr (made_right hp hr)
/-- How much of it is released. -/
def relN (x : RawR) (p : List Int) : Nat := (1 + pickS x.r (((p.length + 1) / 2 : Nat) : Int)).toNat
theorem relN_in {x : RawR} {p : List Int} (hp : 0 < p.length) : ((relN x p : Nat) : Int) = 1 + pickS x.r (((p.length + 1) / 2 : Nat) : Int) ∧ 1 ≤ relN x p ∧ relN x p ≤ (p.length + 1) / 2 := by
  have h9 := pickS_nonneg (c := x.r) (n := (((p.length + 1) / 2 : Nat) : Int)) (by omega)
  have h10 := pickS_lt (c := x.r) (n := (((p.length + 1) / 2 : Nat) : Int)) (by omega)
  unfold relN
  refine ⟨by omega, by omega, by omega⟩
theorem made_rel {x : RawR} {p : List Int} (hp : 0 < p.length) : madeO x p = overO (pickS x.h 50) [118] (pickS x.o 3) (pickS x.u 4) p (2 * pickS x.q 20) (relN x p : Nat) := by
  rw [(relN_in (x := x) hp).1]; rfl
theorem made_base {n : Int} {es : List Ed} {x : RawR} {p : List Int} (hp : LP n es p) (hr : RightL n es) (h41 : p.length ≤ 41) : baseS Tp.nameB (madeO x p) = p.take (2 * relN x p - 1) ∧ baseO (madeO x p) = relN x p ∧ lastR (madeO x p) = ⟨pi p (2 * (relN x p - 1)), 2 * pickS x.q 20 + 2 * ((relN x p - 1 : Nat) : Int), true⟩ := by
  have ho := hp.odd
  obtain ⟨_, h2, h3⟩ := relN_in (x := x) (p := p) (by omega)
  have hx := made_right (x := x) hp hr
  rw [made_rel (by omega)] at hx ⊢
  exact base_over hx ho (by omega) h2 (by omega)
theorem stable_on (X : O) : Stable (fun z wv => OAt (NotO wv) wv z X) := fun z w w' h hb => OAt.grown h hb
theorem stable_tn (X : O) (t : Bool) : Stable (fun z wv => ∃ ov, z = .tuple #[ov, .bool t] ∧ OAt (NotO wv) wv ov X) := fun z w w' ⟨ov, e, h⟩ hb => ⟨ov, e, OAt.grown h hb⟩
/-- A box that holds an order. -/
def BoxN (B : Nat) (X : O) (z : Value) (wv : World) : Prop := ∃ b row, z = .pointer (some ⟨b, 0, none⟩) ∧ B ≤ b ∧ wv.heap[b]? = some (.cells row 25 (0, 0)) ∧ OAt (NotO wv) wv (.agg row) X
theorem stable_bn (B : Nat) (X : O) : Stable (BoxN B X) := fun z w w' ⟨b, row, e, h0, h1, h2⟩ hb => ⟨b, row, e, h0, (hb.block b (Array.getElem?_eq_some_iff.1 h1).1).trans h1, OAt.grown h2 hb⟩
theorem oat_row {w : World} {b : Nat} {row row' : Array Value} {v : Value} {X : O} (hq : w.heap[b]? = some (.cells row 25 (0, 0))) (h : OAt (NotO w) w v X) : OAt (NotO (w.setRow b row')) (w.setRow b row') v X :=
  OAt.keepN h (fun _ h => h) (fun k hn _ => setRow_other w b k _ (fun e => by subst e; exact hn _ _ hq)) (Below.setRow (Below.refl 0 w) (Nat.zero_le b) _).size
end Go.Proofs.Ytnpbkjmlmdpggaa.Wk
