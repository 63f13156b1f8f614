import Derived.Test.YtkmiemaigalgpaaFj
/- Layer 5: the contracts of Get and of List. -/
set_option linter.unusedVariables false
set_option linter.unusedSimpArgs false
namespace Go.Proofs.Ytkmiemaigalgpaa.Js
open Go.RowKit Lex

theorem ItemsAt.deep {S : Nat → Prop} {w : World} {d d' : Nat} {ai : Option Addr} {is : List J} (h : ItemsAt S w d ai is) (hd : d ≤ d') : ItemsAt S w d' ai is := fun hp => by
  obtain ⟨b, off, q1, q2, q3, q4⟩ := h hp
  exact ⟨b, off, q1, q2, q3, fun i hi => by obtain ⟨u, r1, r2⟩ := q4 i hi; exact ⟨u, r1, r2.deep hd⟩⟩
theorem zero_at {S : Nat → Prop} {w : World} {d : Nat} : JAt S w (d + 1) (.agg #[.int .i64 0, .int .i64 0, .int .i64 0, .string ⟨#[]⟩, .slice none 0 0, .slice none 0 0]) j0 := leaf_jat (t := []) ⟨by decide, by decide⟩ ⟨by decide, by decide⟩ ⟨by decide, by decide⟩ (by unfold txtB; simp)
theorem three_new {w w1 : World} {o1 o2 o3 : Obj} (hb : Below (((w.alloc o1).alloc o2).alloc o3).heap.size (((w.alloc o1).alloc o2).alloc o3) w1) :
    w1.heap[w.heap.size]? = some o1 ∧ w1.heap[w.heap.size + 1]? = some o2 ∧ w1.heap[w.heap.size + 1 + 1]? = some o3 ∧ w.heap.size + 2 < w1.heap.size ∧ Below w.heap.size w w1 := by
  have hs := hb.size
  simp at hs
  refine ⟨(hb.block _ (by simp <;> omega)).trans ?_, (hb.block _ (by simp <;> omega)).trans ?_, (hb.block _ (by simp <;> omega)).trans ?_, by omega, ((((Below.refl _ _).alloc (Nat.le_refl _) _).alloc (by simp) _).alloc (by simp; omega) _).trans (hb.mono (by simp; omega))⟩
  · rw [Below.heap_alloc _ _ _ (by simp; omega)]; exact two_old w o1 o2
  · rw [Below.heap_alloc _ _ _ (by simp)]; exact two_new w o1 o2
  · simpa using heap_alloc_new ((w.alloc o1).alloc o2) o3
theorem belowThree (w : World) (o1 o2 o3 : Obj) : Below w.heap.size w (((w.alloc o1).alloc o2).alloc o3) := (((Below.refl _ _).alloc (Nat.le_refl _) _).alloc (by simp) _).alloc (by simp; omega) _

set_option maxHeartbeats 4000000 in
set_option maxRecDepth 100000 in
theorem tellJ_any (S : Nat → Prop) (d : Nat) (v : Value) (j : J) (nm : List UInt8) (w : World) (h : JAt S w d v j) : Calls Try.prog 30 #[v, .string ⟨nm.toArray⟩, .func (.func 31) #[] #[]] w (GRet w d (getS j nm)) := by
  have PL := Lib.hid (fun (w' : World) (hb : Below w.heap.size w w') => place_any S d v j nm w' (h.below hb (Nat.le_refl _)))
  obtain ⟨P, hP⟩ : ∃ P, plc j nm = P := ⟨_, rfl⟩
  have hB := plc_B j nm P hP
  unfold getS
  rw [hP] at PL ⊢
  clear hP
  obtain ⟨k, m, e, t, ns, is⟩ := j
  obtain ⟨d', an, cn, ai, ci, hd', rfl, _, _, _, _, _, hn1, hn, hi1, hi, hit⟩ := h.open_
  subst hd'
  have HIT : Hid (ItemsAt S w d' ai is) := hit
  clear hit h
  change -1 ≤ P ∧ P < is.length at hB
  obtain ⟨hB0, hB1⟩ := hB
  by_cases hn : P < 0
  · rw [if_pos hn]
    go_enter Try.func30, Try.ntmps30
    go_wp2_with (go_at_call 46; (with_reducible refine (PL.out _ (belowThree _ _ _ _)).mono ?_); rintro e1 w1 ⟨rfl, hb1⟩; obtain ⟨x1, x2, x3, x4, hbw⟩ := three_new hb1; obtain ⟨y0, y1, y2, y3, y4, y5⟩ := six_of x3; obtain ⟨⟨z0, z1, z2, z3, z4, z5⟩, g0, g1, g2, g3, g4, g5⟩ := twelve_of x2)
    refine bodyPost_ret (v := .tuple #[.agg #[.int .i64 0, .int .i64 0, .int .i64 0, .string ⟨#[]⟩, .slice none 0 0, .slice none 0 0], .bool false]) (by simp [results, Try.results30, go_sem, z0, z1, z2, z3, z4, z5]) rfl ?_
    obtain ⟨q1, q2⟩ := cret_fin (bres := w.heap.size + 1) (n := d' + 1) (j := j0) hbw (by omega) zero_at (.int .i64 0) (.int .i64 0) (.int .i64 0) (.string ⟨#[]⟩) (.slice none 0 0) (.slice none 0 0)
    exact ⟨_, _, _, _, _, _, _, _, _, _, rfl, q1, q2⟩
  · rw [if_neg hn]
    obtain ⟨b, off, c0, c1, c2, c3, c4, c5, rfl, hbl, hl, hJ⟩ := item_at HIT.out (by omega) hB1
    have IC := Lib.hid (fun (w' : World) (hb : Below w.heap.size w w') => whole_any S d' _ _ w' (hJ.below hb (Nat.le_refl _)))
    unfold GRet at IC
    have HL := Lib.hid hl
    change Calls _ _ _ _ (GRet w (d' + 1) (is.getD P.toNat j0, true))
    clear hl hJ HIT
    generalize is.getD P.toNat j0 = y at *
    go_enter Try.func30, Try.ntmps30
    go_wp2_with (first
      | (go_at_call 46; (with_reducible refine (PL.out _ (belowThree _ _ _ _)).mono ?_); rintro e1 w1 ⟨rfl, hb1⟩; obtain ⟨x1, x2, x3, x4, hbw⟩ := three_new hb1; obtain ⟨y0, y1, y2, y3, y4, y5⟩ := six_of x1; have HBW := Lib.hid hbw; obtain ⟨v0, v1, v2, v3, v4, v5⟩ := (HL.out.keep (HBW.out.block b hbl)).six)
      | (go_at_call 31; (with_reducible refine (IC.out _ HBW.out).mono ?_); rintro e2 w2 ⟨k2, m2, e2', t2, an2, nn2, cn2, ai2, ni2, ci2, rfl, hJ2, hb2⟩; obtain ⟨⟨z0, z1, z2, z3, z4, z5⟩, g0, g1, g2, g3, g4, g5⟩ := twelve_of ((hb2.block _ (Own.block_lt x2)).trans x2)))
    refine bodyPost_ret (v := .tuple #[.agg #[.int .i64 k2, .int .i64 m2, .int .i64 e2', .string t2, .slice an2 nn2 cn2, .slice ai2 ni2 ci2], .bool true]) (by simp [results, Try.results30, go_sem, z0, z1, z2, z3, z4, z5]) rfl ?_
    obtain ⟨q1, q2⟩ := cret_fin (bres := w.heap.size + 1) (n := d' + 1) (j := y) (hbw.trans (hb2.mono hbw.size)) (by omega) ((hJ2.deep (Nat.le_succ _)).keep (fun b hb _ => by have hb' : w1.heap.size ≤ b := hb; exact ⟨by omega, by omega⟩) (fun _ _ _ => rfl) (Nat.le_refl _)) (.int .i64 k2) (.int .i64 m2) (.int .i64 e2') (.string t2) (.slice an2 nn2 cn2) (.slice ai2 ni2 ci2)
    exact ⟨_, _, _, _, _, _, _, _, _, _, rfl, q1, q2⟩
set_option maxHeartbeats 2000000 in
set_option maxRecDepth 100000 in
theorem get5_any (S : Nat → Prop) (d : Nat) (v : Value) (j : J) (nm : List UInt8) (w : World) (h : JAt S w d v j) : Calls Try.prog 8 #[v, .string ⟨nm.toArray⟩] w (GRet w d (getS j nm)) := by
  have TE := Lib.hid (fun (w' : World) (hb : Below w.heap.size w w') => tellJ_any S d v j nm w' (h.below hb (Nat.le_refl _)))
  unfold GRet at TE
  generalize getS j nm = R at *
  obtain ⟨r1, r2⟩ := R
  obtain ⟨k, m, e, t, an, nn, cn, ai, ni, ci, rfl⟩ := jAt_form h
  clear h
  go_enter Try.func8, Try.ntmps8
  go_wp2_with (go_at_call 30; (with_reducible refine (TE.out _ (belowTwo _ _ _)).mono ?_); rintro e1 w1 ⟨k2, m2, e2', t2, an2, nn2, cn2, ai2, ni2, ci2, rfl, hJ2, hb1⟩; obtain ⟨x1, x2, x3, hbw⟩ := two_boxes hb1; obtain ⟨⟨z0, z1, z2, z3, z4, z5⟩, g0, g1, g2, g3, g4, g5⟩ := twelve_of x2)
  refine bodyPost_ret (v := .tuple #[.agg #[.int .i64 k2, .int .i64 m2, .int .i64 e2', .string t2, .slice an2 nn2 cn2, .slice ai2 ni2 ci2], .bool r2]) (by simp [results, Try.results8, go_sem, z0, z1, z2, z3, z4, z5]) rfl ?_
  obtain ⟨q1, q2⟩ := cret_fin (bres := w.heap.size + 1) (n := d) (j := r1) hbw (by omega) (hJ2.keep (fun b hb _ => by simp at hb; exact ⟨by omega, by omega⟩) (fun _ _ _ => rfl) (Nat.le_refl _)) (.int .i64 k2) (.int .i64 m2) (.int .i64 e2') (.string t2) (.slice an2 nn2 cn2) (.slice ai2 ni2 ci2)
  exact ⟨_, _, _, _, _, _, _, _, _, _, rfl, q1, q2⟩

def lsG (j : J) (nm : List UInt8) : List J × Bool := tellG [] lstS j nm
set_option maxHeartbeats 4000000 in
set_option maxRecDepth 100000 in
theorem tellL_any (S : Nat → Prop) (d : Nat) (v : Value) (j : J) (nm : List UInt8) (w : World) (h : JAt S w d v j) : Calls Try.prog 39 #[v, .string ⟨nm.toArray⟩, .func (.func 40) #[] #[]] w (LsRet w d (lsG j nm)) := by
  have PL := Lib.hid (fun (w' : World) (hb : Below w.heap.size w w') => place_any S d v j nm w' (h.below hb (Nat.le_refl _)))
  obtain ⟨P, hP⟩ : ∃ P, plc j nm = P := ⟨_, rfl⟩
  have hB := plc_B j nm P hP
  unfold lsG tellG
  rw [hP] at PL ⊢
  clear hP
  obtain ⟨k, m, e, t, ns, is⟩ := j
  obtain ⟨d', an, cn, ai, ci, hd', rfl, _, _, _, _, _, hn1, hn, hi1, hi, hit⟩ := h.open_
  subst hd'
  have HIT : Hid (ItemsAt S w d' ai is) := hit
  clear hit h
  change -1 ≤ P ∧ P < is.length at hB
  obtain ⟨hB0, hB1⟩ := hB
  by_cases hn : P < 0
  · rw [if_pos hn]
    go_enter Try.func39, Try.ntmps39
    go_wp2_with (go_at_call 46; (with_reducible refine (PL.out _ (belowOne _ _)).mono ?_); rintro e1 w1 ⟨rfl, hb1⟩)
    go_ret2
    exact ⟨none, 0, rfl, Nat.le_refl _, fun h => by simp at h, Dec.below_call hb1⟩
  · rw [if_neg hn]
    obtain ⟨b, off, c0, c1, c2, c3, c4, c5, rfl, hbl, hl, hJ⟩ := item_at HIT.out (by omega) hB1
    have IC := Lib.hid (fun (w' : World) (hb : Below w.heap.size w w') => list5_any S d' _ _ w' (hJ.below hb (Nat.le_refl _)))
    unfold LsRet at IC
    have HL := Lib.hid hl
    change Calls _ _ _ _ (LsRet w (d' + 1) (lstS (is.getD P.toNat j0)))
    generalize lstS (is.getD P.toNat j0) = R at *
    obtain ⟨r1, r2⟩ := R
    clear hl hJ HIT
    go_enter Try.func39, Try.ntmps39
    go_wp2_with (first
      | (go_at_call 46; (with_reducible refine (PL.out _ (belowOne _ _)).mono ?_); rintro e1 w1 ⟨rfl, hb1⟩; have x1 := (hb1.block _ (by simp)).trans (heap_alloc_new w _); obtain ⟨y0, y1, y2, y3, y4, y5⟩ := six_of x1; have HBW := Lib.hid (Dec.below_call hb1); obtain ⟨z0, z1, z2, z3, z4, z5⟩ := (HL.out.keep (HBW.out.block b hbl)).six)
      | (go_at_call 40; (with_reducible refine (IC.out _ HBW.out).mono ?_); rintro e2 w2 ⟨ai2, ci2, rfl, hc2, hI2, hb2⟩))
    go_ret2
    exact ⟨ai2, ci2, rfl, hc2, (hI2.deep (Nat.le_succ _)).keep (fun b hb _ => Nat.le_trans HBW.out.size hb) (fun _ _ _ => rfl) (Nat.le_refl _), HBW.out.trans (hb2.mono HBW.out.size)⟩
set_option maxHeartbeats 2000000 in
set_option maxRecDepth 100000 in
theorem flist_any (S : Nat → Prop) (d : Nat) (v : Value) (j : J) (nm : List UInt8) (w : World) (h : JAt S w d v j) : Calls Try.prog 16 #[v, .string ⟨nm.toArray⟩] w (LsRet w d (lsG j nm)) := by
  have TE := Lib.hid (fun (w' : World) (hb : Below w.heap.size w w') => tellL_any S d v j nm w' (h.below hb (Nat.le_refl _)))
  unfold LsRet at TE
  generalize lsG j nm = R at *
  obtain ⟨r1, r2⟩ := R
  obtain ⟨k, m, e, t, an, nn, cn, ai, ni, ci, rfl⟩ := jAt_form h
  clear h
  go_enter Try.func16, Try.ntmps16
  go_wp2_with (go_at_call 39; (with_reducible refine (TE.out _ (belowOne _ _)).mono ?_); rintro e1 w1 ⟨ai2, ci2, rfl, hc2, hI2, hb1⟩)
  go_ret2
  exact ⟨ai2, ci2, rfl, hc2, hI2.keep (fun b hb _ => by simp at hb; omega) (fun _ _ _ => rfl) (Nat.le_refl _), Dec.below_call hb1⟩
end Go.Proofs.Ytkmiemaigalgpaa.Js
