import Derived.Test.YthmblgfcjbiomaaHa
import Derived.Test.YthmblgfcjbiomaaChecked
import Derived.WalkKit
import Derived.BigCall
import Derived.ProofKit
import Derived.Below
import Derived.Lib.Hide
import Derived.Deep.QuietTactic
import Derived.Lib.QuietBelow
import Derived.BigRegion
import Derived.BigQuiet
import Derived.Laws.OwnMore
/- A pile in memory; less and swap. -/
set_option linter.unusedVariables false
set_option linter.unusedSimpArgs false
namespace Go.Proofs.Ythmblgfcjbiomaa.Hp
open Go.RowKit

def pairC (p : Pr) : List Value := [.int .i64 p.1, .int .i64 p.2]
def flat (l : List Pr) : List Value := l.flatMap pairC
theorem flat_len (l : List Pr) : (flat l).length = l.length * 2 := by
  induction l with
  | nil => rfl
  | cons x r ih => simp [flat, pairC] at ih ⊢; omega
theorem flat_append (l m : List Pr) : flat (l ++ m) = flat l ++ flat m := by simp [flat]
theorem flat_cons (x : Pr) (l : List Pr) : flat (x :: l) = .int .i64 x.1 :: .int .i64 x.2 :: flat l := rfl
theorem flat_get : ∀ {l : List Pr} {i : Nat}, i < l.length → (flat l)[i * 2]? = some (.int .i64 (at' l i).1) ∧ (flat l)[i * 2 + 1]? = some (.int .i64 (at' l i).2)
  | [], i, h => by simp at h
  | x :: r, 0, h => ⟨rfl, rfl⟩
  | x :: r, i + 1, h => by
    have := flat_get (l := r) (i := i) (by simpa using h)
    rw [flat_cons, show (i + 1) * 2 = i * 2 + 1 + 1 by omega]
    exact this
theorem flat_set : ∀ {l : List Pr} {i : Nat} (p : Pr), flat (l.set i p) = ((flat l).set (i * 2) (.int .i64 p.1)).set (i * 2 + 1) (.int .i64 p.2)
  | [], i, p => rfl
  | x :: r, 0, p => rfl
  | x :: r, i + 1, p => by
    rw [List.set_cons_succ, flat_cons, flat_cons, flat_set (l := r), show (i + 1) * 2 = i * 2 + 1 + 1 by omega]
    rfl
theorem flat_take : ∀ {l : List Pr} (n : Nat), flat (l.take n) = (flat l).take (n * 2)
  | [], n => by simp [flat]
  | x :: r, 0 => rfl
  | x :: r, n + 1 => by
    rw [List.take_succ_cons, flat_cons, flat_cons, flat_take (l := r), show (n + 1) * 2 = n * 2 + 1 + 1 by omega]
    rfl

/-- A heap's block, and the row that its entries lie in. -/
structure HpAt (base : Nat) (w : World) (b : Nat) (v : Value) (l : List Pr) : Prop where
  ge : base ≤ b
  cell : w.heap[b]? = some (.cells #[v] 72 (0, 0))
  row : w.ownsRow base 75 2 v l.length (flat l)
  short : l.length ≤ 1000

theorem HpAt.lt {base b : Nat} {w : World} {v : Value} {l : List Pr} (h : HpAt base w b v l) : b < w.heap.size := (Array.getElem?_eq_some_iff.1 h.cell).1
theorem HpAt.base_le {base b : Nat} {w : World} {v : Value} {l : List Pr} (h : HpAt base w b v l) : base ≤ w.heap.size := Nat.le_of_lt (Nat.lt_of_le_of_lt h.ge h.lt)
theorem HpAt.get {base b : Nat} {w : World} {v : Value} {l : List Pr} (h : HpAt base w b v l) : w.cell? ⟨b, 0, none⟩ = some v := by
  rw [cell_of_row w b 0 _ _ _ h.cell]
  rfl
theorem HpAt.thaw {base b : Nat} {w : World} {v : Value} {l : List Pr} (h : HpAt base w b v l) : w.frozen? ⟨b, 0, none⟩ = false := frozen_of_row w b 0 _ _ h.cell
/-- The row's block is not the heap's. -/
theorem HpAt.ne {base b : Nat} {w : World} {v : Value} {l : List Pr} (h : HpAt base w b v l) : v.ownBlock ≠ some b := by
  intro e
  rcases h.row.2 with ⟨rfl, _⟩ | ⟨g, cap, cur, rfl, _, hg, _⟩
  · cases e
  · cases e
    have := h.cell
    rw [hg] at this
    simp at this
theorem HpAt.below {base b : Nat} {w w' : World} {v : Value} {l : List Pr} (h : HpAt base w b v l) (hb : Below w.heap.size w w') : HpAt base w' b v l :=
  ⟨h.ge, (hb.block b h.lt).trans h.cell, h.row.kept ⟨hb.os, hb.tape, hb.output, hb.size, fun k hk _ => hb.block k hk⟩ (row := none) (by cases hv : v.ownBlock <;> simp), h.short⟩
/-- A row that is not empty. -/
theorem HpAt.form {base b : Nat} {w : World} {v : Value} {l : List Pr} (h : HpAt base w b v l) (h0 : 0 < l.length) : ∃ g cap, v = .slice (some ⟨g, 0, none⟩) l.length cap ∧ l.length ≤ cap ∧ g ≠ b ∧ base ≤ g ∧ g < w.heap.size := by
  rcases h.row.2 with ⟨rfl, hn⟩ | ⟨g, cap, cur, rfl, hbg, hg, hc, _⟩
  · omega
  · exact ⟨g, cap, rfl, hc, fun e => h.ne (by rw [← e]; rfl), hbg, (Array.getElem?_eq_some_iff.1 hg).1⟩
theorem HpAt.form0 {base b : Nat} {w : World} {v : Value} {l : List Pr} (h : HpAt base w b v l) : ∃ ao cap, v = .slice ao l.length cap := by
  rcases h.row.2 with ⟨rfl, hn⟩ | ⟨g, cap, cur, rfl, hbg, hg, hc, _⟩
  · exact ⟨none, 0, by rw [hn]⟩
  · exact ⟨_, cap, rfl⟩
theorem HpAt.cells {base b g cap : Nat} {w : World} {l : List Pr} (h : HpAt base w b (.slice (some ⟨g, 0, none⟩) l.length cap) l) {i : Nat} (hi : i < l.length) :
    w.cell? ⟨g, i * 2, none⟩ = some (.int .i64 (at' l i).1) ∧ w.cell? ⟨g, i * 2 + 1, none⟩ = some (.int .i64 (at' l i).2) := by
  rw [h.row.cellAt _ (by omega), h.row.cellAt _ (by omega)]
  exact flat_get hi
theorem HpAt.melt {base b g cap n : Nat} {w : World} {l : List Pr} (h : HpAt base w b (.slice (some ⟨g, 0, none⟩) n cap) l) (j : Nat) : w.frozen? ⟨g, j, none⟩ = false := by
  rcases h.row.2 with ⟨h', _⟩ | ⟨g', cap', cur, h', _, hg, _⟩
  · simp at h'
  · simp only [Value.slice.injEq, Option.some.injEq, Addr.mk.injEq, and_true, true_and] at h'
    obtain ⟨rfl, rfl, rfl⟩ := h'
    exact frozen_of_row w g j cur _ hg

theorem nan_any (n : Int) (w : World) : Calls Try.prog 49 #[.int .i64 n] w (fun e w' => e = .returned (.bool false) ∧ w = w') := by
  go_enter Try.func49, Try.ntmps49
  go_wp2
  go_ret
  simp
def cmpZ (m n : Int) : Int := if m < n then -1 else if n < m then 1 else 0
theorem compare_any (m n : Int) (w : World) : Calls Try.prog 47 #[.int .i64 m, .int .i64 n] w (fun e w' => e = .returned (.int .i64 (cmpZ m n)) ∧ w = w') := by
  rcases Int.lt_trichotomy m n with h | h | h
  · rw [show cmpZ m n = -1 by simp [cmpZ, h]]
    have h1 : decide (m < n) = true := by simpa using h
    go_enter Try.func47, Try.ntmps47
    go_wp2_with (go_at_call 49; (with_reducible refine (nan_any _ _).mono ?_); rintro e w' ⟨rfl, rfl⟩)
    go_ret
    exact ⟨rfl, rfl⟩
  · subst h
    rw [show cmpZ m m = 0 by simp [cmpZ]]
    go_enter Try.func47, Try.ntmps47
    go_wp2_with (go_at_call 49; (with_reducible refine (nan_any _ _).mono ?_); rintro e w' ⟨rfl, rfl⟩)
    go_ret
    exact ⟨rfl, rfl⟩
  · rw [show cmpZ m n = 1 by simp [cmpZ, h]; omega]
    have h1 : decide (m < n) = false := by simp; omega
    have h2 : decide (n < m) = true := by simpa using h
    go_enter Try.func47, Try.ntmps47
    go_wp2_with (go_at_call 49; (with_reducible refine (nan_any _ _).mono ?_); rintro e w' ⟨rfl, rfl⟩)
    go_ret
    exact ⟨rfl, rfl⟩
theorem less_int (m n : Int) (w : World) : Calls Try.prog 48 #[.int .i64 m, .int .i64 n] w (fun e w' => e = .returned (.bool (decide (m < n))) ∧ w = w') := by
  generalize h : decide (m < n) = t
  go_enter Try.func48, Try.ntmps48
  go_wp2_with (go_at_call 49; (with_reducible refine (nan_any _ _).mono ?_); rintro e w' ⟨rfl, rfl⟩)
  go_ret
  simp [h]

end Go.Proofs.Ythmblgfcjbiomaa.Hp
