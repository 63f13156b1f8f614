import Derived.Test.YtnpbkjmlmdpggaaYe
/- marked and comeTo: rows of bools by value. -/
set_option linter.unusedVariables false
set_option linter.unusedSimpArgs false
namespace Go.Proofs.Ytnpbkjmlmdpggaa.Ly
open Go.RowKit

def Marks (n : Int) (bl : List Int) (c : List Bool) : Prop := c.length = 40 ∧ ∀ i : Nat, i < 40 → (atb c i = true ↔ (i : Int) < n ∧ (i : Int) ∈ bl)
theorem Marks.zero (n : Int) : Marks n [] (List.replicate 40 false) := ⟨by simp, fun i _ => by rw [atb_rep]; simp⟩
theorem Marks.yes {n : Int} {bl : List Int} {k : Nat} {c : List Bool} (h : Marks n (bl.take k) c) (hk : k < bl.length) (hn : n ≤ 40) (hx : nodeB n (ati bl k) = true) : Marks n (bl.take (k + 1)) (c.set (ati bl k).toNat true) := by
  obtain ⟨h0, h1⟩ := nodeB_iff.1 hx
  refine ⟨by simpa using h.1, fun i hi => ?_⟩
  rw [atb_set (by rw [h.1]; omega), mem_take_at hk]
  by_cases e : i = (ati bl k).toNat
  · rw [if_pos e]
    exact ⟨fun _ => ⟨by omega, .inr (by omega)⟩, fun _ => rfl⟩
  · rw [if_neg e, h.2 i hi]
    constructor
    · rintro ⟨x, y⟩; exact ⟨x, .inl y⟩
    · rintro ⟨x, y | y⟩
      · exact ⟨x, y⟩
      · omega
theorem Marks.no {n : Int} {bl : List Int} {k : Nat} {c : List Bool} (h : Marks n (bl.take k) c) (hk : k < bl.length) (hx : nodeB n (ati bl k) = false) : Marks n (bl.take (k + 1)) c := by
  refine ⟨h.1, fun i hi => ?_⟩
  rw [mem_take_at hk, h.2 i hi]
  constructor
  · rintro ⟨x, y⟩; exact ⟨x, .inl y⟩
  · rintro ⟨x, y | y⟩
    · exact ⟨x, y⟩
    · have := nodeB_iff (n := n) (a := ati bl k)
      rw [hx] at this
      exact absurd (this.2 ⟨by omega, by omega⟩) (by simp)
theorem nodes_size : (Try.prog.info? 81).map (·.size) = some 40 := by kernel_rfl
theorem size_of {c : List Bool} (h : c.length = 40) : (Try.prog.info? 81).map (·.size) = some (boolC c).size := by rw [nodes_size, boolC_size, h]
theorem boolC_one (c : List Bool) : (boolC c).all (·.oneCell') = true := by
  rw [Array.all_eq_true_iff_forall_mem]
  intro v hv
  simp [boolC] at hv
  rcases hv with ⟨_, rfl⟩ | ⟨_, rfl⟩ <;> rfl
theorem zero40 : (#[.bool false, .bool false, .bool false, .bool false, .bool false, .bool false, .bool false, .bool false, .bool false, .bool false, .bool false, .bool false, .bool false, .bool false, .bool false, .bool false, .bool false, .bool false, .bool false, .bool false, .bool false, .bool false, .bool false, .bool false, .bool false, .bool false, .bool false, .bool false, .bool false, .bool false, .bool false, .bool false, .bool false, .bool false, .bool false, .bool false, .bool false, .bool false, .bool false, .bool false] : Array Value) = boolC (List.replicate 40 false) := rfl
theorem Below.setRow {B : Nat} {a w : World} (h : Below B a w) {g : Nat} (hg : B ≤ g) (cs : Array Value) : Below B a (w.setRow g cs) :=
  ⟨h.os, h.tape, h.output, by rw [setRow_size]; exact h.size, fun k hk => (setRow_other w g k cs (by omega)).trans (h.block k hk)⟩
/-- What a loop over a row of bools leaves: a layout's box, the result's block, the row. -/
structure MI (n : Int) (v : Value) (w wr : World) (bx rs ar : Nat) (c : List Bool) : Prop where
  below : Below w.heap.size w wr
  box : BoxAt n v wr bx
  res : ArrAt wr rs 81 (List.replicate 40 false)
  arr : ArrAt wr ar 81 c
  len : c.length = 40
  ge : w.heap.size ≤ ar
  ger : w.heap.size ≤ rs
  n1 : bx ≠ ar
  n2 : rs ≠ ar
theorem MI.grow {n : Int} {v : Value} {w wr wr' : World} {bx rs ar : Nat} {c : List Bool} (h : MI n v w wr bx rs ar c) (hb : Below wr.heap.size wr wr') : MI n v w wr' bx rs ar c :=
  ⟨h.below.trans (hb.mono h.below.size), h.box.below hb, h.res.below hb h.res.lt, h.arr.below hb h.arr.lt, h.len, h.ge, h.ger, h.n1, h.n2⟩
theorem MI.set {n : Int} {v : Value} {w wr : World} {bx rs ar : Nat} {c : List Bool} (h : MI n v w wr bx rs ar c) (i : Nat) : MI n v w (wr.setCell ⟨ar, i, none⟩ (.bool true)) bx rs ar (c.set i true) := by
  refine ⟨h.below.setCell h.ge _, ⟨?_, ?_, ?_⟩, h.res.other _ h.n2, h.arr.set i, by simpa using h.len, h.ge, h.ger, h.n1, h.n2⟩
  · rw [World.cell?_setCell_other _ _ _ _ (fun e => h.n1 (congrArg Addr.block e).symm)]; exact h.box.c0
  · rw [World.cell?_setCell_other _ _ _ _ (fun e => h.n1 (congrArg Addr.block e).symm)]; exact h.box.c1
  · have := h.box.lt
    simpa using this
/-- A row of bools that was made. -/
def RetMarks (n : Int) (bl : List Int) (w : World) (e : Ending) (w' : World) : Prop := ∃ c, e = .returned (.agg (boolC c)) ∧ Marks n bl c ∧ Below w.heap.size w w'
theorem MI.start (n : Int) (v : Value) (w : World) : MI n v w (((w.alloc (.cells #[.int .i64 n, v] 32)).alloc (.cells (boolC (List.replicate 40 false)) 81)).alloc (.cells (boolC (List.replicate 40 false)) 81)) w.heap.size (w.heap.size + 1) (w.heap.size + 1 + 1) (List.replicate 40 false) := by
  have hb : Below w.heap.size w (w.alloc (.cells #[.int .i64 n, v] 32)) := (Below.refl _ w).alloc (Nat.le_refl _) _
  have h2 := heap_alloc2_new (w.alloc (.cells #[.int .i64 n, v] 32)) (.cells (boolC (List.replicate 40 false)) 81) (.cells (boolC (List.replicate 40 false)) 81)
  have h1 := heap_alloc2_old (w.alloc (.cells #[.int .i64 n, v] 32)) (.cells (boolC (List.replicate 40 false)) 81) (.cells (boolC (List.replicate 40 false)) 81)
  have hs : (w.alloc (.cells #[.int .i64 n, v] 32)).heap.size = w.heap.size + 1 := by simp
  rw [hs] at h1 h2
  have hb2 := ((Below.refl (w.alloc (.cells #[.int .i64 n, v] 32)).heap.size (w.alloc (.cells #[.int .i64 n, v] 32))).alloc (Nat.le_refl _) (.cells (boolC (List.replicate 40 false)) 81)).alloc (by simp) (.cells (boolC (List.replicate 40 false)) 81)
  exact ⟨hb.trans (hb2.mono (by simp)), (BoxAt.new n v w).below hb2, h1, h2, by simp, by omega, by omega, by omega, by omega⟩
end Go.Proofs.Ytnpbkjmlmdpggaa.Ly
