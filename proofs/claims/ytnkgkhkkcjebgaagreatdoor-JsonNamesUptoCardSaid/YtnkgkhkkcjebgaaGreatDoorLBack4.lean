import Derived.Test.YtnkgkhkkcjebgaaGreatDoorFt7
/- The walk of the law JsonBack: it answers true. -/
set_option linter.unusedVariables false
set_option linter.unusedSimpArgs false
namespace Go.Proofs.YtnkgkhkkcjebgaaGreatDoor.Js
open Go.RowKit Lex

theorem box5 {w w1 : World} {T : TypeId} {c0 c1 c2 c3 c4 : Value} (hb : Below (w.alloc (.cells #[c0, c1, c2, c3, c4] T)).heap.size (w.alloc (.cells #[c0, c1, c2, c3, c4] T)) w1) : w1.heap[w.heap.size]? = some (.cells #[c0, c1, c2, c3, c4] T (0, 0)) ∧ w.heap.size < w1.heap.size ∧ Below w.heap.size w w1 := by
  have hs := hb.size
  simp at hs
  exact ⟨(hb.block _ (by simp)).trans (heap_alloc_new w _), by omega, ((Below.refl _ _).alloc (Nat.le_refl _) _).trans (hb.mono (by simp))⟩
theorem box6 {w w1 : World} {T : TypeId} {c0 c1 c2 c3 c4 c5 : Value} (hb : Below (w.alloc (.cells #[c0, c1, c2, c3, c4, c5] T)).heap.size (w.alloc (.cells #[c0, c1, c2, c3, c4, c5] T)) w1) : w1.heap[w.heap.size]? = some (.cells #[c0, c1, c2, c3, c4, c5] T (0, 0)) ∧ w.heap.size < w1.heap.size ∧ Below w.heap.size w w1 := by
  have hs := hb.size
  simp at hs
  exact ⟨(hb.block _ (by simp)).trans (heap_alloc_new w _), by omega, ((Below.refl _ _).alloc (Nat.le_refl _) _).trans (hb.mono (by simp))⟩
theorem below_step {a b c : World} (h : Below a.heap.size a b) (k : Below b.heap.size b c) : Below a.heap.size a c := h.trans (k.mono h.size)
theorem below_a (w : World) (o : Obj) : Below w.heap.size w (w.alloc o) := (Below.refl _ _).alloc (Nat.le_refl _) _

set_option maxHeartbeats 4000000 in
set_option maxRecDepth 100000 in
theorem back_walk (v : Value) (r : RT) (w : World) (hT : Dec.Tab w) (hR : RAt w 15 v r) (hs : rsz r ≤ 1048576) : Calls Tryz.prog 5 #[v] w (Ret (.bool true) w) := by
  have A1 := Lib.hid (fun (w' : World) (hb : Below w.heap.size w w') => awake_any w' (hT.below hb))
  obtain ⟨p1, p2, p3⟩ := fit_printed 15 r (by omega) hs
  obtain ⟨k, m, e, ao, tl, c, ai, ni, ci, rfl, -⟩ := hR.form
  have F1 := Lib.hid (fun (w' : World) (hb : Below w.heap.size w w') => fit_at 15 (by omega) 1 rfl w' _ r (hR.below hb))
  have PP := Lib.hid (fun h => parse_print (j := fitJ 15 r) p1 h)
  have hne := print_ne p1
  have HT : Hid (∀ w', Below w.heap.size w w' → Dec.Tab w') := fun w' hb => hT.below hb
  clear hR hs hT
  generalize fitJ 15 r = jj at *
  have RI := Lib.hid (fun w' v' (h : JA Any w' v' jj) => right_of Any v' jj w' h)
  rw [p1] at RI
  have PR := Lib.hid (fun w' v' (hT : Dec.Tab w') (h : JA Any w' v' jj) => print_of Any v' jj w' hT h (by omega))
  rw [p2] at PR
  have SA := Lib.hid (fun w' v1 v2 (h : JA Any w' v1 jj) (h2 : JA Any w' v2 jj) => same_of Any Any v1 v2 jj jj w' h h2)
  rw [sameJ_refl] at SA
  clear p1 p2
  generalize printJ jj = s at *
  by_cases hl : s.length ≤ 20000
  · have PX := Lib.hid (fun w' => parse_x s 0 jj 0 (PP.out (by omega)) _ rfl (by unfold maxLen; omega) w')
    have hl' : (s.length : Int) ≤ 20000 := by omega
    have hne' : ¬ s = [] := hne
    have hie : s.isEmpty = false := by simpa using hne
    go_enter Tryz.func5, Tryz.ntmps5
    go_wp2_with (first
      | (go_at_call 11; (with_reducible refine (A1.out _ (below_a _ _)).mono ?_); rintro e1 w1 ⟨rfl, hb1⟩; obtain ⟨x1, x2, hbw1⟩ := box5 hb1; obtain ⟨y0, y1, y2, y3, y4⟩ := five_of x1)
      | (go_at_call 12; (with_reducible refine (F1.out _ hbw1).mono ?_); rintro e2 w2 ⟨k2, m2, e2', t2, an2, nn2, cn2, ai2, ni2, ci2, rfl, hJ2, hb2⟩; have hbw2 := below_step hbw1 hb2; have HJ2 := Lib.hid hJ2)
      | (go_at_call 16; (with_reducible refine (PR.out _ _ (HT.out _ (below_step hbw2 (below_a _ _))) (HJ2.out.below (below_a _ _) (Nat.le_refl _))).mono ?_); rintro e3 w3 ⟨rfl, hb3⟩; obtain ⟨x3, x4, hbw3'⟩ := box6 hb3; obtain ⟨z0, z1, z2, z3, z4, z5⟩ := six_of x3; have hbw3 := below_step hbw2 hbw3')
      | (go_at_call 20; (with_reducible refine (PX.out _).mono ?_); rintro e4 w4 ⟨k4, m4, e4', t4, an4, nn4, cn4, ai4, ni4, ci4, rfl, hJ4, hb4⟩; have hbw4' := below_step hbw3' hb4; have hbw4 := below_step hbw3 hb4; have x5 := (hb4.block _ x4).trans x3; obtain ⟨q0, q1, q2, q3, q4, q5⟩ := six_of x5; have x6 : w2.heap.size < w4.heap.size := Own.block_lt x5; have HJ4 := Lib.hid hJ4.any)
      | (go_at_call 14; (with_reducible refine (RI.out _ _ (HJ2.out.below (below_step hbw4' (below_a _ _)) (Nat.le_refl _))).mono ?_); rintro e5 w5 ⟨rfl, hb5⟩; obtain ⟨x7, x8, hbw5'⟩ := box6 hb5; obtain ⟨u0, u1, u2, u3, u4, u5⟩ := six_of x7; have x9 := (hbw5'.block _ x6).trans x5; obtain ⟨v0, v1, v2, v3, v4, v5⟩ := six_of x9; have hbw5 := below_step hbw4 hbw5')
      | (go_at_call 17; (with_reducible refine (SA.out _ _ _ (HJ2.out.below (below_step hbw4' hbw5') (Nat.le_refl _)) (HJ4.out.below hbw5' (Nat.le_refl _))).mono ?_); rintro e6 w6 ⟨rfl, hb6⟩; have hbw6 := below_step hbw5 hb6))
    go_ret
    exact ⟨rfl, hbw6⟩
  · have hl' : 20000 < (s.length : Int) := by omega
    go_enter Tryz.func5, Tryz.ntmps5
    go_wp2_with (first
      | (go_at_call 11; (with_reducible refine (A1.out _ (below_a _ _)).mono ?_); rintro e1 w1 ⟨rfl, hb1⟩; obtain ⟨x1, x2, hbw1⟩ := box5 hb1; obtain ⟨y0, y1, y2, y3, y4⟩ := five_of x1)
      | (go_at_call 12; (with_reducible refine (F1.out _ hbw1).mono ?_); rintro e2 w2 ⟨k2, m2, e2', t2, an2, nn2, cn2, ai2, ni2, ci2, rfl, hJ2, hb2⟩; have hbw2 := below_step hbw1 hb2; have HJ2 := Lib.hid hJ2)
      | (go_at_call 16; (with_reducible refine (PR.out _ _ (HT.out _ (below_step hbw2 (below_a _ _))) (HJ2.out.below (below_a _ _) (Nat.le_refl _))).mono ?_); rintro e3 w3 ⟨rfl, hb3⟩; obtain ⟨x3, x4, hbw3'⟩ := box6 hb3; have hbw3 := below_step hbw2 hbw3'))
    go_ret
    exact ⟨rfl, hbw3⟩
end Go.Proofs.YtnkgkhkkcjebgaaGreatDoor.Js
