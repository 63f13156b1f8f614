import Derived.Test.YthmblgfcjbiomaaHc
/- swap. -/
set_option linter.unusedVariables false
set_option linter.unusedSimpArgs false
namespace Go.Proofs.Ythmblgfcjbiomaa.Hp
open Go.RowKit

theorem grown_trans {a b c : World} {r : Option Nat} (h : a.grownBy b r) (k : b.grownBy c r) : a.grownBy c r :=
  ⟨k.os.trans h.os, k.tape.trans h.tape, k.output.trans h.output, Nat.le_trans h.size k.size, fun i hi hr => (k.block i (Nat.lt_of_lt_of_le hi h.size) hr).trans (h.block i hi hr)⟩
theorem grown_below {a b : World} {r : Option Nat} (h : Below a.heap.size a b) : a.grownBy b r := ⟨h.os, h.tape, h.output, h.size, fun k hk _ => h.block k hk⟩
theorem grown_drew {a b : World} {r : Option Nat} (h : a.grownBy b r) : a.grownBy b.drew r := ⟨h.os, h.tape, h.output, h.size, h.block⟩
theorem HpAt.drew {base b : Nat} {w : World} {v : Value} {l : List Pr} (h : HpAt base w b v l) : HpAt base w.drew b v l := ⟨h.ge, h.cell, h.row, h.short⟩
/-- An entry is stored. -/
theorem HpAt.put {base b g cap : Nat} {w : World} {l : List Pr} (h : HpAt base w b (.slice (some ⟨g, 0, none⟩) l.length cap) l) (i : Nat) (p : Pr) :
    HpAt base ((w.setCell ⟨g, i * 2, none⟩ (.int .i64 p.1)).setCell ⟨g, i * 2 + 1, none⟩ (.int .i64 p.2)) b (.slice (some ⟨g, 0, none⟩) l.length cap) (l.set i p) ∧
      w.grownBy ((w.setCell ⟨g, i * 2, none⟩ (.int .i64 p.1)).setCell ⟨g, i * 2 + 1, none⟩ (.int .i64 p.2)) (some g) := by
  have h1 := h.row.stored (i * 2) (.int .i64 p.1)
  have h2 := h1.1.stored (i * 2 + 1) (.int .i64 p.2)
  have hg := grown_trans h1.2 h2.2
  refine ⟨⟨h.ge, ?_, ?_, by simpa using h.short⟩, hg⟩
  · rw [hg.block b h.lt (fun e => h.ne e.symm)]
    exact h.cell
  · rw [List.length_set, flat_set]
    exact h2.1
theorem HpAt.swapped {base b g cap : Nat} {w : World} {l : List Pr} (h : HpAt base w b (.slice (some ⟨g, 0, none⟩) l.length cap) l) (i j : Nat) (p q : Pr) (hp : p = at' l i) (hq : q = at' l j) :
    HpAt base ((((w.setCell ⟨g, i * 2, none⟩ (.int .i64 q.1)).setCell ⟨g, i * 2 + 1, none⟩ (.int .i64 q.2)).setCell ⟨g, j * 2, none⟩ (.int .i64 p.1)).setCell ⟨g, j * 2 + 1, none⟩ (.int .i64 p.2)) b (.slice (some ⟨g, 0, none⟩) l.length cap) (swapL l i j) ∧
      w.grownBy ((((w.setCell ⟨g, i * 2, none⟩ (.int .i64 q.1)).setCell ⟨g, i * 2 + 1, none⟩ (.int .i64 q.2)).setCell ⟨g, j * 2, none⟩ (.int .i64 p.1)).setCell ⟨g, j * 2 + 1, none⟩ (.int .i64 p.2)) (some g) := by
  subst hp hq
  have h1 := h.put i (at' l j)
  have h2 := HpAt.put (l := l.set i (at' l j)) (by rw [List.length_set]; exact h1.1) j (at' l i)
  refine ⟨?_, grown_trans h1.2 h2.2⟩
  have := h2.1
  rw [List.length_set] at this
  exact this
def SwapRet (base : Nat) (w : World) (b : Nat) (v : Value) (l : List Pr) (e : Ending) (w' : World) : Prop := e = .returned (.tuple #[]) ∧ HpAt base w' b v l ∧ w.grownBy w' v.ownBlock

set_option maxHeartbeats 4000000 in
theorem swap_any {base : Nat} {w : World} {b : Nat} {v : Value} {l : List Pr} (h : HpAt base w b v l) (i j : Nat) (hi : i < l.length) (hj : j < l.length) :
    Calls Try.prog 43 #[.pointer (some ⟨b, 0, none⟩), .int .i64 i, .int .i64 j] w (SwapRet base w b v (swapL l i j)) := by
  obtain ⟨g, cap, rfl, hnc, hgb, hbg, hgs⟩ := h.form (by omega)
  have hn := h.short
  have hc := h.get
  have hf := h.thaw
  have ⟨c1, c2⟩ := h.cells hi
  have ⟨c3, c4⟩ := h.cells hj
  have hm := h.melt
  have hlt := h.lt
  have HS := Lib.hid (h.swapped i j (at' l i) (at' l j) rfl rfl)
  obtain ⟨Q, HQ⟩ : ∃ Q, Hid (SwapRet base w b (.slice (some ⟨g, 0, none⟩) l.length cap) (swapL l i j) = Q) := ⟨_, rfl⟩
  rw [HQ.out]
  generalize at' l i = p at *
  generalize at' l j = q at *
  obtain ⟨p1, p2⟩ := p
  obtain ⟨q1, q2⟩ := q
  clear h
  generalize hN : l.length = n at *
  have HNN := Lib.hid hN
  clear hN
  dsimp only at *
  by_cases hij : i = j
  · subst hij
    have k5 : ¬ i * 2 = i * 2 + 1 := by omega
    have k6 : ¬ i * 2 + 1 = i * 2 := by omega
    go_enter Try.func43, Try.ntmps43
    go_wp2_with fail
    go_region
    go_end0
    rw [← HQ.out]
    have hS := HS.out
    rw [show q1 = p1 from by have := c1.symm.trans c3; simpa using this.symm, show q2 = p2 from by have := c2.symm.trans c4; simpa using this.symm] at hS
    exact ⟨rfl, hS.1.drew, grown_drew hS.2⟩
  · have k1 : ¬ i * 2 = j * 2 := by omega
    have k2 : ¬ i * 2 + 1 = j * 2 := by omega
    have k3 : ¬ i * 2 = j * 2 + 1 := by omega
    have k4 : ¬ i * 2 + 1 = j * 2 + 1 := by omega
    have k5 : ¬ j * 2 = i * 2 + 1 := by omega
    have k6 : ¬ j * 2 + 1 = i * 2 := by omega
    have k7 : ¬ j = i := by omega
    go_enter Try.func43, Try.ntmps43
    go_wp2_with fail
    go_region
    go_end0
    rw [← HQ.out]
    exact ⟨rfl, HS.out.1.drew, grown_drew HS.out.2⟩
end Go.Proofs.Ythmblgfcjbiomaa.Hp
