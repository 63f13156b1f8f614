import Derived.Test.YtnpbkjmlmdpggaaKo
import Derived.Test.YtnpbkjmlmdpggaaKj
/- Orders in memory: o/XOd without its plain part. -/
set_option linter.unusedVariables false
set_option linter.unusedSimpArgs false
namespace Go.Proofs.Ytnpbkjmlmdpggaa.Od
open Go.RowKit Js Lex

def stV (x : St) : Value := .agg #[.int .i64 x.id, .int .i64 x.seq, .bool x.rel]
/-- A slice that reads as a list of stops, or of ways; its memory lies in S. -/
def StsAt (S : Nat → Prop) (w : World) (v : Value) (l : List St) : Prop :=
  ∃ ao cap, v = .slice ao l.length cap ∧ l.length ≤ cap ∧ l.length ≤ 5864062014805 ∧ (∀ x ∈ l, i64B x.id ∧ i64B x.seq) ∧
    (0 < l.length → ∃ b off, ao = some ⟨b, off, none⟩ ∧ S b ∧ b < w.heap.size ∧ ∀ i, i < l.length → LiesAt w b (off + i * 3) (stV (l.getD i st0)))
def oV (h : Int) (v : List UInt8) (o u : Int) (nv ev : Value) : Value := .agg #[.int .i64 h, .string ⟨v.toArray⟩, .int .i64 o, .int .i64 u, nv, ev]
/-- A value that reads as an order. -/
def OAt (S : Nat → Prop) (w : World) (v : Value) (x : O) : Prop :=
  ∃ nv ev, v = oV x.h x.v x.o x.u nv ev ∧ i64B x.h ∧ x.v.length ≤ 140737488355328 ∧ i64B x.o ∧ i64B x.u ∧ StsAt S w nv x.ns ∧ StsAt S w ev x.es
theorem StsAt.keep {S S' : Nat → Prop} {w w' : World} {v : Value} {l : List St} (h : StsAt S w v l) (hS : ∀ b, S b → b < w.heap.size → S' b) (hk : ∀ b, S b → b < w.heap.size → w'.heap[b]? = w.heap[b]?) (hs : w.heap.size ≤ w'.heap.size) : StsAt S' w' v l := by
  obtain ⟨ao, cap, h1, h2, h3, h4, h5⟩ := h
  refine ⟨ao, cap, h1, h2, h3, h4, fun hp => ?_⟩
  obtain ⟨b, off, e1, e2, e3, e4⟩ := h5 hp
  exact ⟨b, off, e1, hS b e2 e3, Nat.lt_of_lt_of_le e3 hs, fun i hi => (e4 i hi).keep (hk b e2 e3)⟩
theorem StsAt.below {S : Nat → Prop} {w w' : World} {v : Value} {l : List St} (h : StsAt S w v l) {B : Nat} (hb : Below B w w') (hB : w.heap.size ≤ B) : StsAt S w' v l :=
  h.keep (fun _ h _ => h) (fun b _ hl => hb.block b (by omega)) hb.size
theorem StsAt.any {S : Nat → Prop} {w : World} {v : Value} {l : List St} (h : StsAt S w v l) : StsAt Any w v l := h.keep (fun _ _ _ => trivial) (fun _ _ _ => rfl) (Nat.le_refl _)
theorem OAt.keep {S S' : Nat → Prop} {w w' : World} {v : Value} {x : O} (h : OAt S w v x) (hS : ∀ b, S b → b < w.heap.size → S' b) (hk : ∀ b, S b → b < w.heap.size → w'.heap[b]? = w.heap[b]?) (hs : w.heap.size ≤ w'.heap.size) : OAt S' w' v x := by
  obtain ⟨nv, ev, h1, h2, h3, h4, h5, h6, h7⟩ := h
  exact ⟨nv, ev, h1, h2, h3, h4, h5, h6.keep hS hk hs, h7.keep hS hk hs⟩
theorem OAt.below {S : Nat → Prop} {w w' : World} {v : Value} {x : O} (h : OAt S w v x) {B : Nat} (hb : Below B w w') (hB : w.heap.size ≤ B) : OAt S w' v x :=
  h.keep (fun _ h _ => h) (fun b _ hl => hb.block b (by omega)) hb.size
theorem OAt.any {S : Nat → Prop} {w : World} {v : Value} {x : O} (h : OAt S w v x) : OAt Any w v x := h.keep (fun _ _ _ => trivial) (fun _ _ _ => rfl) (Nat.le_refl _)
/-- A stop's three cells. -/
theorem three_cells {w : World} {b off : Nat} {x : St} (h : LiesAt w b off (stV x)) : w.cell? ⟨b, off, none⟩ = some (.int .i64 x.id) ∧ w.cell? ⟨b, off + 1, none⟩ = some (.int .i64 x.seq) ∧ w.cell? ⟨b, off + 2, none⟩ = some (.bool x.rel) :=
  ⟨h 0 _ rfl, h 1 _ rfl, h 2 _ rfl⟩
/-- An order, taken apart. -/
theorem OAt.open_ {S : Nat → Prop} {w : World} {v : Value} {x : O} (h : OAt S w v x) :
    ∃ an cn ae ce, v = .agg #[.int .i64 x.h, .string ⟨x.v.toArray⟩, .int .i64 x.o, .int .i64 x.u, .slice an x.ns.length cn, .slice ae x.es.length ce] ∧ i64B x.h ∧ x.v.length ≤ 140737488355328 ∧ i64B x.o ∧ i64B x.u ∧ StsAt S w (.slice an x.ns.length cn) x.ns ∧ StsAt S w (.slice ae x.es.length ce) x.es := by
  obtain ⟨nv, ev, h1, h2, h3, h4, h5, h6, h7⟩ := h
  obtain ⟨an, cn, e1, _⟩ := id h6
  obtain ⟨ae, ce, e2, _⟩ := id h7
  subst e1 e2
  exact ⟨an, cn, ae, ce, h1, h2, h3, h4, h5, h6, h7⟩
theorem sts_nil {S : Nat → Prop} {w : World} {c : Nat} : StsAt S w (.slice none 0 c) [] := ⟨none, c, rfl, by simp, by simp, fun x hx => by simp at hx, fun h => by simp at h⟩
theorem o0_at {S : Nat → Prop} {w : World} : OAt S w (.agg #[.int .i64 0, .string ⟨#[]⟩, .int .i64 0, .int .i64 0, .slice none 0 0, .slice none 0 0]) o0 :=
  ⟨_, _, rfl, ⟨by decide, by decide⟩, by simp [o0], ⟨by decide, by decide⟩, ⟨by decide, by decide⟩, sts_nil, sts_nil⟩
end Go.Proofs.Ytnpbkjmlmdpggaa.Od
