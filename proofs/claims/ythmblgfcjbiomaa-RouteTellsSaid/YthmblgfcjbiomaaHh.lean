import Derived.Test.YthmblgfcjbiomaaHg
/- take. -/
set_option linter.unusedVariables false
set_option linter.unusedSimpArgs false
namespace Go.Proofs.Ythmblgfcjbiomaa.Hp
open Go.RowKit

theorem Only.refl (b : Nat) (r : Option Nat) (w : World) : Only b r r w w := ⟨rfl, rfl, rfl, Nat.le_refl _, fun _ _ _ _ => rfl, fun _ h => .inl h⟩
theorem Only.below {b : Nat} {r r' : Option Nat} {a c d : World} (h : Only b r r' a c) (k : Below a.heap.size c d) : Only b r r' a d :=
  ⟨k.os.trans h.os, k.tape.trans h.tape, k.output.trans h.output, Nat.le_trans h.size k.size, fun i hi hb hr => (k.block i hi).trans (h.block i hi hb hr), h.row⟩
theorem Only.setb {b : Nat} {r r' : Option Nat} {a c : World} (h : Only b r r' a c) (j : Nat) (u : Value) : Only b r r' a (c.setCell ⟨b, j, none⟩ u) :=
  ⟨h.os, h.tape, h.output, by simp [World.setCell]; exact h.size, fun i hi hb hr => (heap_setCell_other c ⟨b, j, none⟩ i u hb).trans (h.block i hi hb hr), h.row⟩
theorem HpAt.keep {base b : Nat} {w w' : World} {v : Value} {l : List Pr} (h : HpAt base w b v l) (hb : w'.heap[b]? = w.heap[b]?) (hr : ∀ g, v.ownBlock = some g → w'.heap[g]? = w.heap[g]?) : HpAt base w' b v l := by
  refine ⟨h.ge, hb.trans h.cell, ⟨h.row.1, ?_⟩, h.short⟩
  rcases h.row.2 with hn | ⟨g, cap, cur, hv, hbg, hg, hq⟩
  · exact .inl hn
  · exact .inr ⟨g, cap, cur, hv, hbg, (hr g (by rw [hv]; rfl)).trans hg, hq⟩
/-- The last entry goes. -/
theorem HpAt.cut {base b g cap m : Nat} {w : World} {l : List Pr} (h : HpAt base w b (.slice (some ⟨g, 0, none⟩) (m + 1) cap) l) (hm : l.length = m + 1) :
    HpAt base (w.setCell ⟨b, 0, none⟩ (.slice (some ⟨g, 0, none⟩) m cap)) b (.slice (some ⟨g, 0, none⟩) m cap) (l.take m) := by
  have hgb : g ≠ b := fun e => h.ne (by rw [← e]; rfl)
  refine ⟨h.ge, ?_, ?_, by have := h.short; simp; omega⟩
  · rw [heap_setCell_same w b 0 _ _ _ h.cell]
    rfl
  · have hr := h.row
    rw [hm] at hr
    refine ⟨by rw [flat_len], .inr ?_⟩
    rcases hr.2 with ⟨h', _⟩ | ⟨g', cap', cur, h', hbg, hg, hnc, hcm, hcs, htk⟩
    · simp at h'
    · simp only [Value.slice.injEq, Option.some.injEq, Addr.mk.injEq, and_true, true_and] at h'
      obtain ⟨rfl, rfl⟩ := h'
      refine ⟨g, cap, cur, by simp [hm], hbg, by rw [heap_setCell_other w ⟨b, 0, none⟩ g _ hgb]; exact hg, by simp; omega, hcm, hcs, ?_⟩
      rw [flat_take, ← htk, List.take_take]
      congr 1
      simp
      omega
/-- What take leaves. -/
def TakeRet (base : Nat) (w : World) (b : Nat) (v : Value) (l : List Pr) (e : Ending) (w' : World) : Prop :=
  e = .returned (.tuple #[.agg #[.int .i64 (at' l 0).1, .int .i64 (at' l 0).2], .bool (!l.isEmpty)]) ∧ ∃ v' l', HpAt base w' b v' l' ∧ Pile l' ∧ (l = [] ∧ l' = [] ∨ l.Perm (at' l 0 :: l')) ∧ Only b v.ownBlock v'.ownBlock w w'
theorem sink_at {base : Nat} {w : World} {b : Nat} {v : Value} {l : List Pr} (h : HpAt base w b v l) (hd : Down l 0) :
    Calls Try.prog 44 #[.pointer (some ⟨b, 0, none⟩), .int .i64 0] w (MoveRet base w b v l) := sink_any h hd

set_option maxHeartbeats 4000000 in
theorem take_none {base : Nat} {w : World} {b : Nat} {v : Value} (h : HpAt base w b v []) :
    Calls Try.prog 40 #[.pointer (some ⟨b, 0, none⟩)] w (TakeRet base w b v []) := by
  obtain ⟨ao, cap, rfl⟩ := h.form0
  obtain ⟨Q, HQ⟩ : ∃ Q, Hid (TakeRet base w b (.slice ao 0 cap) [] = Q) := ⟨_, rfl⟩
  simp only [List.length_nil] at h ⊢
  rw [HQ.out]
  have hc := h.get
  have hf := h.thaw
  have hlt := h.lt
  have hB : Below w.heap.size w (w.alloc (Obj.cells #[.int .i64 0, .int .i64 0] 75)) := (Below.refl _ w).alloc (Nat.le_refl _) _
  have H1 := Lib.hid (h.below hB)
  have H := Lib.hid h
  clear h
  go_enter Try.func40, Try.ntmps40
  go_wp2_with fail
  refine bodyPost_ret (v := .tuple #[.agg #[.int .i64 0, .int .i64 0], .bool false]) (by simp [results, Try.results40, go_sem]) rfl ?_
  rw [← HQ.out]
  exact ⟨rfl, _, [], H1.out, fun i _ h => by simp at h, .inl ⟨rfl, rfl⟩, (Only.refl _ _ _).below hB⟩
theorem HpAt.cells' {base b g cap n : Nat} {w : World} {l : List Pr} (h : HpAt base w b (.slice (some ⟨g, 0, none⟩) n cap) l) (hn : l.length = n) {i : Nat} (hi : i < n) :
    w.cell? ⟨g, i * 2, none⟩ = some (.int .i64 (at' l i).1) ∧ w.cell? ⟨g, i * 2 + 1, none⟩ = some (.int .i64 (at' l i).2) := by
  subst hn
  exact h.cells hi
theorem HpAt.put' {base b g cap n : Nat} {w : World} {l : List Pr} (h : HpAt base w b (.slice (some ⟨g, 0, none⟩) n cap) l) (hn : l.length = n) (i : Nat) (p : Pr) :
    HpAt base ((w.setCell ⟨g, i * 2, none⟩ (.int .i64 p.1)).setCell ⟨g, i * 2 + 1, none⟩ (.int .i64 p.2)) b (.slice (some ⟨g, 0, none⟩) n cap) (l.set i p) ∧
      w.grownBy ((w.setCell ⟨g, i * 2, none⟩ (.int .i64 p.1)).setCell ⟨g, i * 2 + 1, none⟩ (.int .i64 p.2)) (some g) := by
  subst hn
  exact h.put i p
theorem Only.trans {b : Nat} {r r' r'' : Option Nat} {a c d : World} (h : Only b r r' a c) (k : Only b r' r'' c d) : Only b r r'' a d :=
  ⟨k.os.trans h.os, k.tape.trans h.tape, k.output.trans h.output, Nat.le_trans h.size k.size, fun i hi hb hr => (k.block i (Nat.lt_of_lt_of_le hi h.size) hb (fun e => by
    rcases h.row i e.symm with h1 | h1
    · exact hr h1.symm
    · omega)).trans (h.block i hi hb hr), fun g hg => by
      rcases k.row g hg with h1 | h1
      · exact h.row g h1
      · exact .inr (Nat.le_trans h.size h1)⟩
/-- Behind the stores of take: the last entry is gone. -/
theorem take_mid {base b g cap m : Nat} {w w4 : World} {l : List Pr} (hm : l.length = m + 1) (h : HpAt base w4 b (.slice (some ⟨g, 0, none⟩) (m + 1) cap) (swapL l 0 m)) (hg : w.grownBy w4 (some g)) :
    HpAt base (((w4.setCell ⟨g, m * 2, none⟩ (.int .i64 0)).setCell ⟨g, m * 2 + 1, none⟩ (.int .i64 0)).setCell ⟨b, 0, none⟩ (.slice (some ⟨g, 0, none⟩) m cap)) b (.slice (some ⟨g, 0, none⟩) m cap) (cutL l) ∧
      Only b (some g) (some g) w (((w4.setCell ⟨g, m * 2, none⟩ (.int .i64 0)).setCell ⟨g, m * 2 + 1, none⟩ (.int .i64 0)).setCell ⟨b, 0, none⟩ (.slice (some ⟨g, 0, none⟩) m cap)) := by
  have h1 := h.put' (by rw [length_swapL, hm]) m (0, 0)
  have h2 := h1.1.cut (by rw [List.length_set, length_swapL, hm])
  refine ⟨?_, (((Only.refl _ _ _).grown hg).grown h1.2).setb 0 _⟩
  have e : (((swapL l 0 m).set m ((0, 0) : Pr)).take m) = cutL l := by
    unfold cutL
    rw [hm, Nat.add_sub_cancel]
    apply List.ext_getElem?
    intro i
    rw [List.getElem?_take, List.getElem?_take]
    by_cases hi : i < m
    · rw [if_pos hi, if_pos hi, List.getElem?_set, if_neg (by omega)]
    · rw [if_neg hi, if_neg hi]
  rw [e] at h2
  exact h2
set_option maxHeartbeats 4000000 in
theorem take_some {base : Nat} {w : World} {b : Nat} {v : Value} {l : List Pr} (h : HpAt base w b v l) (hp : Pile l) (h0 : 0 < l.length) :
    Calls Try.prog 40 #[.pointer (some ⟨b, 0, none⟩)] w (TakeRet base w b v l) := by
  obtain ⟨g, cap, rfl, hnc, hgb, hbg, hgs⟩ := h.form h0
  obtain ⟨m, hm⟩ : ∃ m, l.length = m + 1 := ⟨l.length - 1, by omega⟩
  obtain ⟨Q, HQ⟩ : ∃ Q, Hid (TakeRet base w b (.slice (some ⟨g, 0, none⟩) l.length cap) l = Q) := ⟨_, rfl⟩
  rw [HQ.out]
  rw [hm] at h HQ hnc
  have hc := h.get
  have hf := h.thaw
  have hlt := h.lt
  have hs := h.short
  have hs2 : m ≤ 999 := by omega
  obtain ⟨c1, c2⟩ := HpAt.cells (l := l) (by rw [hm]; exact h) h0
  simp only [Nat.zero_mul, Nat.zero_add] at c1 c2
  have hmelt := h.melt
  have H := Lib.hid h
  have HM := Lib.hid hm
  have HP := Lib.hid hp
  clear h hm hp
  generalize hx : at' l 0 = x at *
  obtain ⟨x1, x2⟩ := x
  dsimp only at *
  have HX := Lib.hid hx
  clear hx
  have hne1 : b ≠ w.heap.size := by omega
  have hne2 : b ≠ w.heap.size + 1 := by omega
  have hne3 : g ≠ w.heap.size := by omega
  have hne4 : g ≠ w.heap.size + 1 := by omega
  have hlt2 : b < w.heap.size + 1 := by omega
  have hgs2 : g < w.heap.size + 1 := by omega
  go_enter Try.func40, Try.ntmps40
  go_wp2_with fail
  go_region
  obtain ⟨W0, HW0⟩ : ∃ W0, Hid (((w.alloc (Obj.cells #[.int .i64 0, .int .i64 0] 75)).alloc (Obj.cells #[.int .i64 x1, .int .i64 x2] 75)).drew = W0) := ⟨_, rfl⟩
  have HB0 : Hid (Below w.heap.size w W0) := by
    rw [← HW0.out]
    exact (((Below.refl _ w).alloc (Nat.le_refl _) _).alloc (by simp) _).drew
  have R1 : Hid (W0.heap[w.heap.size]? = some (.cells #[.int .i64 0, .int .i64 0] 75 (0, 0))) := by
    rw [← HW0.out]
    exact (Below.heap_alloc _ _ _ (by simp)).trans (heap_alloc_new w _)
  have R2 : Hid (W0.heap[w.heap.size + 1]? = some (.cells #[.int .i64 x1, .int .i64 x2] 75 (0, 0))) := by
    rw [← HW0.out]
    exact two_new w _ _
  have HZ : Hid (W0.heap.size = w.heap.size + 2) := by
    rw [← HW0.out]
    show ((w.alloc _).alloc _).heap.size = _
    simp
  rw [HW0.out]
  clear HW0
  have H0 := Lib.hid (H.out.below HB0.out)
  have hbg' : b ≠ g := fun e => hgb e.symm
  have hmc : m ≤ cap := by omega
  go_wp2_with (first
    | (go_at_call 43; (with_reducible refine (swap_at H0.out 0 m 0 _ (by simp) rfl (by rw [HM.out]; omega) (by rw [HM.out]; omega)).mono ?_); rintro e w4 ⟨rfl, hp4, hg4⟩; have k1 := hp4.get; have k2 := hp4.thaw; have ⟨k3, k4⟩ := hp4.cells' (by rw [length_swapL, HM.out]) (show m < m + 1 by omega); have k5 := hp4.melt; have HTM := Lib.hid (take_mid HM.out hp4 hg4); clear hp4 hg4)
    | (go_at_call 44; (with_reducible refine (sink_at HTM.out.1 HP.out.cut).mono ?_); rintro e w7 ⟨rfl, l', hp7, hpl7, hpm7, hg7⟩; have HO7 := Lib.hid (HTM.out.2.grown hg7); have e1 := (HO7.out.block w.heap.size (by rw [HZ.out]; omega) (by omega) (by simp; omega)).trans R1.out; have e2 := (HO7.out.block (w.heap.size + 1) (by rw [HZ.out]; omega) (by omega) (by simp; omega)).trans R2.out; have y1 := cell_of_row w7 _ 0 _ _ _ e1; have y2 := cell_of_row w7 _ 1 _ _ _ e1; have y3 := cell_of_row w7 _ 0 _ _ _ e2; have y4 := cell_of_row w7 _ 1 _ _ _ e2; have y5 := frozen_of_row w7 _ 0 _ _ e1; have y6 := frozen_of_row w7 _ 1 _ _ e1; simp at y1 y2 y3 y4; have HP7 := Lib.hid hp7; clear hp7 hg7 e1 e2))
  refine bodyPost_ret (v := .tuple #[.agg #[.int .i64 x1, .int .i64 x2], .bool true]) (by simp [results, Try.results40, go_sem, y1, y2, y3, y4, y5, y6]) rfl ?_
  rw [← HQ.out]
  have h8 : Below w.heap.size w7 ((w7.setCell ⟨w.heap.size, 0, none⟩ (.int .i64 x1)).setCell ⟨w.heap.size, 1, none⟩ (.int .i64 x2)) := ((Below.refl _ w7).setCell (p := ⟨w.heap.size, 0, none⟩) (Nat.le_refl _) _).setCell (p := ⟨w.heap.size, 1, none⟩) (Nat.le_refl _) _
  refine ⟨?_, _, l', HP7.out.keep (h8.block b hlt) (fun g' e => by cases e; exact h8.block g hgs), hpl7, .inr ?_, (((Only.refl b (some g) w).below HB0.out).trans HO7.out).below h8⟩
  · have he : l.isEmpty = false := by
      cases l with
      | nil => simp at h0
      | cons => rfl
    rw [HX.out, he]
    rfl
  · exact (perm_cut (by rw [HM.out]; omega)).trans (hpm7.symm.cons _)
end Go.Proofs.Ythmblgfcjbiomaa.Hp
