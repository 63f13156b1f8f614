import Derived.Test.YtkmiemaigalgpaaFd
/- Layer 5: the contracts of tell with number, text and flag; of Num, Text and Flag. -/
set_option linter.unusedVariables false
set_option linter.unusedSimpArgs false
namespace Go.Proofs.Ytkmiemaigalgpaa.Js
open Go.RowKit Lex

/-- What is told of an object's item of a name. -/
def tellG {α : Type} (z : α) (f : J → α × Bool) (j : J) (nm : List UInt8) : α × Bool := if plc j nm < 0 then (z, false) else f (j.is.getD (plc j nm).toNat j0)
theorem plc_B (j : J) (nm : List UInt8) (P : Int) (h : plc j nm = P) : -1 ≤ P ∧ P < j.is.length := by rw [← h]; exact plc_lt j nm
/-- The item at a place, in memory. -/
theorem item_at {S : Nat → Prop} {w : World} {d : Nat} {ai : Option Addr} {is : List J} (hit : ItemsAt S w d ai is) {P : Int} (h0 : 0 ≤ P) (hP : P < is.length) :
    ∃ b off c0 c1 c2 c3 c4 c5, ai = some ⟨b, off, none⟩ ∧ b < w.heap.size ∧ LiesAt w b (off + P.toNat * 6) (.agg #[c0, c1, c2, c3, c4, c5]) ∧ JAt S w d (.agg #[c0, c1, c2, c3, c4, c5]) (is.getD P.toNat j0) := by
  obtain ⟨b, off, e1, e2, e3, e4⟩ := hit (by omega)
  obtain ⟨u, q1, q2⟩ := e4 P.toNat (by omega)
  obtain ⟨k, m, e, t, an, nn, cn, ai', ni, ci, rfl⟩ := jAt_form q2
  exact ⟨b, off, _, _, _, _, _, _, e1, e3, q1, q2⟩

set_option maxHeartbeats 4000000 in
set_option maxRecDepth 100000 in
theorem tellI_any (S : Nat → Prop) (d : Nat) (v : Value) (j : J) (nm : List UInt8) (w : World) (h : JAt S w d v j) : Calls Try.prog 32 #[v, .string ⟨nm.toArray⟩, .func (.func 33) #[] #[]] w (Ret (.tuple #[.int .i64 (tellG (0 : Int) numS j nm).1, .bool (tellG (0 : Int) numS j nm).2]) w) := by
  have PL := Lib.hid (fun (w' : World) (hb : Below w.heap.size w w') => place_any S d v j nm w' (h.below hb (Nat.le_refl _)))
  obtain ⟨P, hP⟩ : ∃ P, plc j nm = P := ⟨_, rfl⟩
  have hB := plc_B j nm P hP
  unfold tellG
  rw [hP] at PL ⊢
  clear hP
  obtain ⟨k, m, e, t, ns, is⟩ := j
  obtain ⟨d', an, cn, ai, ci, hd', rfl, _, _, _, _, _, hn1, hn, hi1, hi, hit⟩ := h.open_
  have HIT : Hid (ItemsAt S w d' ai is) := hit
  clear hit h
  change -1 ≤ P ∧ P < is.length at hB
  obtain ⟨hB0, hB1⟩ := hB
  by_cases hn : P < 0
  · rw [if_pos hn]
    go_enter Try.func32, Try.ntmps32
    go_wp2_with (go_at_call 46; (with_reducible refine (PL.out _ (belowOne _ _)).mono ?_); rintro e1 w1 ⟨rfl, hb1⟩)
    go_ret2
    exact ⟨rfl, Dec.below_call hb1⟩
  · rw [if_neg hn]
    obtain ⟨b, off, c0, c1, c2, c3, c4, c5, rfl, hbl, hl, hJ⟩ := item_at HIT.out (by omega) hB1
    have IC := Lib.hid (fun (w' : World) (hb : Below w.heap.size w w') => number_any S d' _ _ w' (hJ.below hb (Nat.le_refl _)))
    have HL := Lib.hid hl
    change Calls _ _ _ _ (Ret (.tuple #[.int .i64 (numS (is.getD P.toNat j0)).1, .bool (numS (is.getD P.toNat j0)).2]) w)
    generalize numS (is.getD P.toNat j0) = R at *
    obtain ⟨r1, r2⟩ := R
    clear hl hJ HIT
    go_enter Try.func32, Try.ntmps32
    go_wp2_with (first
      | (go_at_call 46; (with_reducible refine (PL.out _ (belowOne _ _)).mono ?_); rintro e1 w1 ⟨rfl, hb1⟩; have x1 := (hb1.block _ (by simp)).trans (heap_alloc_new w _); obtain ⟨y0, y1, y2, y3, y4, y5⟩ := six_of x1; have HBW := Lib.hid (Dec.below_call hb1); obtain ⟨z0, z1, z2, z3, z4, z5⟩ := (HL.out.keep (HBW.out.block b hbl)).six)
      | (go_at_call 33; (with_reducible refine (IC.out _ HBW.out).mono ?_); rintro e2 w2 ⟨rfl, hb2⟩))
    go_ret2
    exact ⟨rfl, HBW.out.trans (hb2.mono HBW.out.size)⟩

set_option maxHeartbeats 1000000 in
set_option maxRecDepth 100000 in
theorem FNum_any (S : Nat → Prop) (d : Nat) (v : Value) (j : J) (nm : List UInt8) (w : World) (h : JAt S w d v j) : Calls Try.prog 10 #[v, .string ⟨nm.toArray⟩] w (Ret (.tuple #[.int .i64 (tellG (0 : Int) numS j nm).1, .bool (tellG (0 : Int) numS j nm).2]) w) := by
  have TE := Lib.hid (fun (w' : World) (hb : Below w.heap.size w w') => tellI_any S d v j nm w' (h.below hb (Nat.le_refl _)))
  generalize tellG (0 : Int) numS j nm = R at *
  obtain ⟨r1, r2⟩ := R
  obtain ⟨k, m, e, t, an, nn, cn, ai, ni, ci, rfl⟩ := jAt_form h
  clear h
  go_enter Try.func10, Try.ntmps10
  go_wp2_with (go_at_call 32; (with_reducible refine (TE.out _ (belowOne _ _)).mono ?_); rintro e1 w1 ⟨rfl, hb1⟩)
  go_ret2
  exact ⟨rfl, Dec.below_call hb1⟩

set_option maxHeartbeats 4000000 in
set_option maxRecDepth 100000 in
theorem tellS_any (S : Nat → Prop) (d : Nat) (v : Value) (j : J) (nm : List UInt8) (w : World) (h : JAt S w d v j) : Calls Try.prog 35 #[v, .string ⟨nm.toArray⟩, .func (.func 36) #[] #[]] w (Ret (.tuple #[.string ⟨(tellG ([] : List UInt8) txtS j nm).1.toArray⟩, .bool (tellG ([] : List UInt8) txtS j nm).2]) w) := by
  have PL := Lib.hid (fun (w' : World) (hb : Below w.heap.size w w') => place_any S d v j nm w' (h.below hb (Nat.le_refl _)))
  obtain ⟨P, hP⟩ : ∃ P, plc j nm = P := ⟨_, rfl⟩
  have hB := plc_B j nm P hP
  unfold tellG
  rw [hP] at PL ⊢
  clear hP
  obtain ⟨k, m, e, t, ns, is⟩ := j
  obtain ⟨d', an, cn, ai, ci, hd', rfl, _, _, _, _, _, hn1, hn, hi1, hi, hit⟩ := h.open_
  have HIT : Hid (ItemsAt S w d' ai is) := hit
  clear hit h
  change -1 ≤ P ∧ P < is.length at hB
  obtain ⟨hB0, hB1⟩ := hB
  by_cases hn : P < 0
  · rw [if_pos hn]
    go_enter Try.func35, Try.ntmps35
    go_wp2_with (go_at_call 46; (with_reducible refine (PL.out _ (belowOne _ _)).mono ?_); rintro e1 w1 ⟨rfl, hb1⟩)
    go_ret2
    exact ⟨rfl, Dec.below_call hb1⟩
  · rw [if_neg hn]
    obtain ⟨b, off, c0, c1, c2, c3, c4, c5, rfl, hbl, hl, hJ⟩ := item_at HIT.out (by omega) hB1
    have IC := Lib.hid (fun (w' : World) (hb : Below w.heap.size w w') => text_any S d' _ _ w' (hJ.below hb (Nat.le_refl _)))
    have HL := Lib.hid hl
    change Calls _ _ _ _ (Ret (.tuple #[.string ⟨(txtS (is.getD P.toNat j0)).1.toArray⟩, .bool (txtS (is.getD P.toNat j0)).2]) w)
    generalize txtS (is.getD P.toNat j0) = R at *
    obtain ⟨r1, r2⟩ := R
    clear hl hJ HIT
    go_enter Try.func35, Try.ntmps35
    go_wp2_with (first
      | (go_at_call 46; (with_reducible refine (PL.out _ (belowOne _ _)).mono ?_); rintro e1 w1 ⟨rfl, hb1⟩; have x1 := (hb1.block _ (by simp)).trans (heap_alloc_new w _); obtain ⟨y0, y1, y2, y3, y4, y5⟩ := six_of x1; have HBW := Lib.hid (Dec.below_call hb1); obtain ⟨z0, z1, z2, z3, z4, z5⟩ := (HL.out.keep (HBW.out.block b hbl)).six)
      | (go_at_call 36; (with_reducible refine (IC.out _ HBW.out).mono ?_); rintro e2 w2 ⟨rfl, hb2⟩))
    go_ret2
    exact ⟨rfl, HBW.out.trans (hb2.mono HBW.out.size)⟩

set_option maxHeartbeats 1000000 in
set_option maxRecDepth 100000 in
theorem FText_any (S : Nat → Prop) (d : Nat) (v : Value) (j : J) (nm : List UInt8) (w : World) (h : JAt S w d v j) : Calls Try.prog 12 #[v, .string ⟨nm.toArray⟩] w (Ret (.tuple #[.string ⟨(tellG ([] : List UInt8) txtS j nm).1.toArray⟩, .bool (tellG ([] : List UInt8) txtS j nm).2]) w) := by
  have TE := Lib.hid (fun (w' : World) (hb : Below w.heap.size w w') => tellS_any S d v j nm w' (h.below hb (Nat.le_refl _)))
  generalize tellG ([] : List UInt8) txtS j nm = R at *
  obtain ⟨r1, r2⟩ := R
  obtain ⟨k, m, e, t, an, nn, cn, ai, ni, ci, rfl⟩ := jAt_form h
  clear h
  go_enter Try.func12, Try.ntmps12
  go_wp2_with (go_at_call 35; (with_reducible refine (TE.out _ (belowOne _ _)).mono ?_); rintro e1 w1 ⟨rfl, hb1⟩)
  go_ret2
  exact ⟨rfl, Dec.below_call hb1⟩

set_option maxHeartbeats 4000000 in
set_option maxRecDepth 100000 in
theorem tellB_any (S : Nat → Prop) (d : Nat) (v : Value) (j : J) (nm : List UInt8) (w : World) (h : JAt S w d v j) : Calls Try.prog 37 #[v, .string ⟨nm.toArray⟩, .func (.func 38) #[] #[]] w (Ret (.tuple #[.bool (tellG false flagS j nm).1, .bool (tellG false flagS j nm).2]) w) := by
  have PL := Lib.hid (fun (w' : World) (hb : Below w.heap.size w w') => place_any S d v j nm w' (h.below hb (Nat.le_refl _)))
  obtain ⟨P, hP⟩ : ∃ P, plc j nm = P := ⟨_, rfl⟩
  have hB := plc_B j nm P hP
  unfold tellG
  rw [hP] at PL ⊢
  clear hP
  obtain ⟨k, m, e, t, ns, is⟩ := j
  obtain ⟨d', an, cn, ai, ci, hd', rfl, _, _, _, _, _, hn1, hn, hi1, hi, hit⟩ := h.open_
  have HIT : Hid (ItemsAt S w d' ai is) := hit
  clear hit h
  change -1 ≤ P ∧ P < is.length at hB
  obtain ⟨hB0, hB1⟩ := hB
  by_cases hn : P < 0
  · rw [if_pos hn]
    go_enter Try.func37, Try.ntmps37
    go_wp2_with (go_at_call 46; (with_reducible refine (PL.out _ (belowOne _ _)).mono ?_); rintro e1 w1 ⟨rfl, hb1⟩)
    go_ret2
    exact ⟨rfl, Dec.below_call hb1⟩
  · rw [if_neg hn]
    obtain ⟨b, off, c0, c1, c2, c3, c4, c5, rfl, hbl, hl, hJ⟩ := item_at HIT.out (by omega) hB1
    have IC := Lib.hid (fun (w' : World) (hb : Below w.heap.size w w') => flag_any S d' _ _ w' (hJ.below hb (Nat.le_refl _)))
    have HL := Lib.hid hl
    change Calls _ _ _ _ (Ret (.tuple #[.bool (flagS (is.getD P.toNat j0)).1, .bool (flagS (is.getD P.toNat j0)).2]) w)
    generalize flagS (is.getD P.toNat j0) = R at *
    obtain ⟨r1, r2⟩ := R
    clear hl hJ HIT
    go_enter Try.func37, Try.ntmps37
    go_wp2_with (first
      | (go_at_call 46; (with_reducible refine (PL.out _ (belowOne _ _)).mono ?_); rintro e1 w1 ⟨rfl, hb1⟩; have x1 := (hb1.block _ (by simp)).trans (heap_alloc_new w _); obtain ⟨y0, y1, y2, y3, y4, y5⟩ := six_of x1; have HBW := Lib.hid (Dec.below_call hb1); obtain ⟨z0, z1, z2, z3, z4, z5⟩ := (HL.out.keep (HBW.out.block b hbl)).six)
      | (go_at_call 38; (with_reducible refine (IC.out _ HBW.out).mono ?_); rintro e2 w2 ⟨rfl, hb2⟩))
    go_ret2
    exact ⟨rfl, HBW.out.trans (hb2.mono HBW.out.size)⟩

set_option maxHeartbeats 1000000 in
set_option maxRecDepth 100000 in
theorem FFlag_any (S : Nat → Prop) (d : Nat) (v : Value) (j : J) (nm : List UInt8) (w : World) (h : JAt S w d v j) : Calls Try.prog 14 #[v, .string ⟨nm.toArray⟩] w (Ret (.tuple #[.bool (tellG false flagS j nm).1, .bool (tellG false flagS j nm).2]) w) := by
  have TE := Lib.hid (fun (w' : World) (hb : Below w.heap.size w w') => tellB_any S d v j nm w' (h.below hb (Nat.le_refl _)))
  generalize tellG false flagS j nm = R at *
  obtain ⟨r1, r2⟩ := R
  obtain ⟨k, m, e, t, an, nn, cn, ai, ni, ci, rfl⟩ := jAt_form h
  clear h
  go_enter Try.func14, Try.ntmps14
  go_wp2_with (go_at_call 37; (with_reducible refine (TE.out _ (belowOne _ _)).mono ?_); rintro e1 w1 ⟨rfl, hb1⟩)
  go_ret2
  exact ⟨rfl, Dec.below_call hb1⟩
end Go.Proofs.Ytkmiemaigalgpaa.Js
