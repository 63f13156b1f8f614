import Derived.Test.YtnkgkhkkcjebgaaGreatDoorLBack4
import Derived.Deep.RegionHeld3
/- The walk of the law JsonApart: it answers true. -/
set_option linter.unusedVariables false
set_option linter.unusedSimpArgs false
namespace Go.Proofs.YtnkgkhkkcjebgaaGreatDoor.Js
open Go.RowKit Lex

theorem two_box {w w1 : World} {o1 o2 : Obj} (hb : Below ((w.alloc o1).alloc o2).heap.size ((w.alloc o1).alloc o2) w1) : w1.heap[w.heap.size]? = some o1 ∧ w1.heap[w.heap.size + 1]? = some o2 ∧ w.heap.size + 1 < w1.heap.size ∧ Below w.heap.size w w1 := by
  have hs := hb.size
  simp at hs
  exact ⟨(hb.block _ (by simp; omega)).trans (two_old w o1 o2), (hb.block _ (by simp)).trans (two_new w o1 o2), by omega, (below2 w _ _).trans (hb.mono (by simp; omega))⟩

set_option maxHeartbeats 8000000 in
set_option maxRecDepth 100000 in
theorem apart_walk (v : Value) (r : RT) (v' : Value) (r' : RT) (w : World) (hT : Dec.Tab w) (hR : RAt w 15 v r) (hs : rsz r ≤ 1048576) (hR' : RAt w 15 v' r') (hs' : rsz r' ≤ 1048576) : Calls Tryz.prog 7 #[v, v'] w (Ret (.bool true) w) := by
  have A1 := Lib.hid (fun (w' : World) (hb : Below w.heap.size w w') => awake_any w' (hT.below hb))
  obtain ⟨p1, p2, p3⟩ := fit_printed 15 r (by omega) hs
  obtain ⟨p1', p2', p3'⟩ := fit_printed 15 r' (by omega) hs'
  obtain ⟨k, m, e, ao, tl, c, ai, ni, ci, rfl, -⟩ := hR.form
  obtain ⟨k', m', e', ao', tl', c', ai', ni', ci', rfl, -⟩ := hR'.form
  have F1 := Lib.hid (fun (w' : World) (hb : Below w.heap.size w w') => fit_at 15 (by omega) 1 rfl w' _ r (hR.below hb))
  have F2 := Lib.hid (fun (w' : World) (hb : Below w.heap.size w w') => fit_at 15 (by omega) 1 rfl w' _ r' (hR'.below hb))
  have hne := print_ne p1
  have HPS := Lib.hid (print_same p1 p1')
  have HT : Hid (∀ w', Below w.heap.size w w' → Dec.Tab w') := fun w' hb => hT.below hb
  clear hR hs hT hR' hs'
  generalize fitJ 15 r = jj at *
  generalize fitJ 15 r' = jw at *
  have PR := Lib.hid (fun w' v' (hT : Dec.Tab w') (h : JA Any w' v' jj) => print_of Any v' jj w' hT h (by omega))
  rw [p2] at PR
  have PW := Lib.hid (fun w' v' (hT : Dec.Tab w') (h : JA Any w' v' jw) => print_of Any v' jw w' hT h (by omega))
  rw [p2'] at PW
  have SA := Lib.hid (fun w' v1 v2 (h : JA Any w' v1 jj) (h2 : JA Any w' v2 jw) => same_of Any Any v1 v2 jj jw w' h h2)
  clear p1 p2 p1' p2'
  rw [← HPS.out] at SA
  clear HPS
  generalize printJ jj = s at *
  generalize printJ jw = s' at *
  have hne' : ¬ s = [] := hne
  have hie : s.isEmpty = false := by simpa using hne
  go_enter Tryz.func7, Tryz.ntmps7
  go_wp2_with (first
    | (go_at_call 11; (with_reducible refine (A1.out _ (below2 _ _ _)).mono ?_); rintro e1 w1 ⟨rfl, hb1⟩; obtain ⟨x1, x2, x3, hbw1⟩ := two_box hb1; obtain ⟨y0, y1, y2, y3, y4⟩ := five_of x1; obtain ⟨z0, z1, z2, z3, z4⟩ := five_of x2)
    | (go_at_call 12; (with_reducible refine (F1.out _ hbw1).mono ?_); rintro e2 w2 ⟨k2, m2, e2', t2, an2, nn2, cn2, ai2, ni2, ci2, rfl, hJ2, hb2⟩; have hbw2 := below_step hbw1 (below_step hb2 (below_a w2 (.cells #[.int .i64 k2, .int .i64 m2, .int .i64 e2', .string t2, .slice an2 nn2 cn2, .slice ai2 ni2 ci2] 27))); have x4 := ((below_step hb2 (below_a w2 (.cells #[.int .i64 k2, .int .i64 m2, .int .i64 e2', .string t2, .slice an2 nn2 cn2, .slice ai2 ni2 ci2] 27))).block _ x3).trans x2; obtain ⟨q0, q1, q2, q3, q4⟩ := five_of x4; have HJ2 := Lib.hid hJ2)
    | (go_at_call 12; (with_reducible refine (F2.out _ hbw2).mono ?_); rintro e3 w3 ⟨k3, m3, e3', t3, an3, nn3, cn3, ai3, ni3, ci3, rfl, hJ3, hb3⟩))
  have hbw3 := below_step hbw2 hb3
  have HJ3 := Lib.hid hJ3
  have HBA := Lib.hid hb3
  obtain ⟨x5, x6, hb23⟩ := box6 hb3
  have hW : Below w.heap.size w (w3.alloc (.cells #[.int .i64 k3, .int .i64 m3, .int .i64 e3', .string t3, .slice an3 nn3 cn3, .slice ai3 ni3 ci3] 27)) := below_step hbw3 (below_a _ _)
  have xA : (w3.alloc (.cells #[.int .i64 k3, .int .i64 m3, .int .i64 e3', .string t3, .slice an3 nn3 cn3, .slice ai3 ni3 ci3] 27)).heap[w2.heap.size]? = some (.cells #[.int .i64 k2, .int .i64 m2, .int .i64 e2', .string t2, .slice an2 nn2 cn2, .slice ai2 ni2 ci2] 27 (0, 0)) := (Below.heap_alloc _ _ _ x6).trans x5
  have xB : (w3.alloc (.cells #[.int .i64 k3, .int .i64 m3, .int .i64 e3', .string t3, .slice an3 nn3 cn3, .slice ai3 ni3 ci3] 27)).heap[w3.heap.size]? = some (.cells #[.int .i64 k3, .int .i64 m3, .int .i64 e3', .string t3, .slice an3 nn3 cn3, .slice ai3 ni3 ci3] 27 (0, 0)) := heap_alloc_new _ _
  have jA : JA Any (w3.alloc (.cells #[.int .i64 k3, .int .i64 m3, .int .i64 e3', .string t3, .slice an3 nn3 cn3, .slice ai3 ni3 ci3] 27)) (.agg #[.int .i64 k2, .int .i64 m2, .int .i64 e2', .string t2, .slice an2 nn2 cn2, .slice ai2 ni2 ci2]) jj := (HJ2.out.below hb23 (Nat.le_refl _)).below (below_a _ _) (Nat.le_refl _)
  have jB : JA Any (w3.alloc (.cells #[.int .i64 k3, .int .i64 m3, .int .i64 e3', .string t3, .slice an3 nn3 cn3, .slice ai3 ni3 ci3] 27)) (.agg #[.int .i64 k3, .int .i64 m3, .int .i64 e3', .string t3, .slice an3 nn3 cn3, .slice ai3 ni3 ci3]) jw := HJ3.out.below (below_a _ _) (Nat.le_refl _)
  have hl3 : w3.heap.size < (w3.alloc (.cells #[.int .i64 k3, .int .i64 m3, .int .i64 e3', .string t3, .slice an3 nn3 cn3, .slice ai3 ni3 ci3] 27)).heap.size := by simp
  go_wp2_with fail
  generalize w3.alloc (.cells #[.int .i64 k3, .int .i64 m3, .int .i64 e3', .string t3, .slice an3 nn3 cn3, .slice ai3 ni3 ci3] 27) = W0 at *
  have PV : Hid (∀ w', Below W0.heap.size W0 w' → Calls Tryz.prog 16 #[.agg #[.int .i64 k2, .int .i64 m2, .int .i64 e2', .string t2, .slice an2 nn2 cn2, .slice ai2 ni2 ci2]] w' (Ret (.string ⟨s.toArray⟩) w')) := fun w' hb => PR.out _ _ (HT.out _ (below_step hW hb)) (jA.below hb (Nat.le_refl _))
  have PU : Hid (∀ w', Below W0.heap.size W0 w' → Calls Tryz.prog 16 #[.agg #[.int .i64 k3, .int .i64 m3, .int .i64 e3', .string t3, .slice an3 nn3 cn3, .slice ai3 ni3 ci3]] w' (Ret (.string ⟨s'.toArray⟩) w')) := fun w' hb => PW.out _ _ (HT.out _ (below_step hW hb)) (jB.below hb (Nat.le_refl _))
  have SV : Hid (∀ w', Below W0.heap.size W0 w' → Calls Tryz.prog 17 #[.agg #[.int .i64 k2, .int .i64 m2, .int .i64 e2', .string t2, .slice an2 nn2 cn2, .slice ai2 ni2 ci2], .agg #[.int .i64 k3, .int .i64 m3, .int .i64 e3', .string t3, .slice an3 nn3 cn3, .slice ai3 ni3 ci3]] w' (Ret (.bool (s == s')) w')) := fun w' hb => SA.out _ _ _ (jA.below hb (Nat.le_refl _)) (jB.below hb (Nat.le_refl _))
  obtain ⟨a0, a1, a2, a3, a4, a5⟩ := six_of xA
  obtain ⟨b0, b1, b2, b3, b4, b5⟩ := six_of xB
  have hlA : w2.heap.size < W0.heap.size := Own.block_lt xA
  have HC : Hid (∀ w', Below W0.heap.size W0 w' → Below W0.heap.size W0 w' ∧ w'.cell? ⟨w2.heap.size, 0, none⟩ = some (.int .i64 k2) ∧ w'.cell? ⟨w2.heap.size, 1, none⟩ = some (.int .i64 m2) ∧ w'.cell? ⟨w2.heap.size, 2, none⟩ = some (.int .i64 e2') ∧ w'.cell? ⟨w2.heap.size, 3, none⟩ = some (.string t2) ∧ w'.cell? ⟨w2.heap.size, 4, none⟩ = some (.slice an2 nn2 cn2) ∧ w'.cell? ⟨w2.heap.size, 5, none⟩ = some (.slice ai2 ni2 ci2) ∧ w'.cell? ⟨w3.heap.size, 0, none⟩ = some (.int .i64 k3) ∧ w'.cell? ⟨w3.heap.size, 1, none⟩ = some (.int .i64 m3) ∧ w'.cell? ⟨w3.heap.size, 2, none⟩ = some (.int .i64 e3') ∧ w'.cell? ⟨w3.heap.size, 3, none⟩ = some (.string t3) ∧ w'.cell? ⟨w3.heap.size, 4, none⟩ = some (.slice an3 nn3 cn3) ∧ w'.cell? ⟨w3.heap.size, 5, none⟩ = some (.slice ai3 ni3 ci3)) := fun w' h => ⟨h, (h.cell (p := ⟨w2.heap.size, 0, none⟩) hlA).trans a0, (h.cell (p := ⟨w2.heap.size, 1, none⟩) hlA).trans a1, (h.cell (p := ⟨w2.heap.size, 2, none⟩) hlA).trans a2, (h.cell (p := ⟨w2.heap.size, 3, none⟩) hlA).trans a3, (h.cell (p := ⟨w2.heap.size, 4, none⟩) hlA).trans a4, (h.cell (p := ⟨w2.heap.size, 5, none⟩) hlA).trans a5,
    (h.cell (p := ⟨w3.heap.size, 0, none⟩) hl3).trans b0, (h.cell (p := ⟨w3.heap.size, 1, none⟩) hl3).trans b1, (h.cell (p := ⟨w3.heap.size, 2, none⟩) hl3).trans b2, (h.cell (p := ⟨w3.heap.size, 3, none⟩) hl3).trans b3, (h.cell (p := ⟨w3.heap.size, 4, none⟩) hl3).trans b4, (h.cell (p := ⟨w3.heap.size, 5, none⟩) hl3).trans b5⟩
  have HW := Lib.hid hW
  have hB0 : Below W0.heap.size W0 W0.drew := (Below.refl _ _).drew
  clear hW xA xB jA jB x1 x2 x3 x4 x5 x6 hb1 hb2 hb3 hb23 hJ2 hJ3 HJ2 HJ3 HBA hbw1 hbw2 hbw3 y0 y1 y2 y3 y4 z0 z1 z2 z3 z4 q0 q1 q2 q3 q4 PR PW SA F1 F2 A1 HT hne
  go_region_held3 (fun w' => Below W0.heap.size W0 w' ∧ w'.cell? ⟨w2.heap.size, 0, none⟩ = some (.int .i64 k2) ∧ w'.cell? ⟨w2.heap.size, 1, none⟩ = some (.int .i64 m2) ∧ w'.cell? ⟨w2.heap.size, 2, none⟩ = some (.int .i64 e2') ∧ w'.cell? ⟨w2.heap.size, 3, none⟩ = some (.string t2) ∧ w'.cell? ⟨w2.heap.size, 4, none⟩ = some (.slice an2 nn2 cn2) ∧ w'.cell? ⟨w2.heap.size, 5, none⟩ = some (.slice ai2 ni2 ci2) ∧ w'.cell? ⟨w3.heap.size, 0, none⟩ = some (.int .i64 k3) ∧ w'.cell? ⟨w3.heap.size, 1, none⟩ = some (.int .i64 m3) ∧ w'.cell? ⟨w3.heap.size, 2, none⟩ = some (.int .i64 e3') ∧ w'.cell? ⟨w3.heap.size, 3, none⟩ = some (.string t3) ∧ w'.cell? ⟨w3.heap.size, 4, none⟩ = some (.slice an3 nn3 cn3) ∧ w'.cell? ⟨w3.heap.size, 5, none⟩ = some (.slice ai3 ni3 ci3))
    (first
      | go_keep
      | exact HC.out _ hB0
      | (go_split_ands; exact HC.out _ (below_step (by assumption) hb5)))
    (first
      | (go_at_call 16; go_split_ands; (with_reducible refine (PV.out _ (by assumption)).mono ?_); rintro e5 w5 ⟨rfl, hb5⟩)
      | (go_at_call 16; go_split_ands; (with_reducible refine (PU.out _ (by assumption)).mono ?_); rintro e5 w5 ⟨rfl, hb5⟩)
      | (go_at_call 17; go_split_ands; (with_reducible refine (SV.out _ (by assumption)).mono ?_); rintro e5 w5 ⟨rfl, hb5⟩))
  all_goals go_wp2_with fail
  all_goals go_ret
  all_goals (go_split_ands; exact ⟨by first | rfl | simp, below_step HW.out (by assumption)⟩)
end Go.Proofs.YtnkgkhkkcjebgaaGreatDoor.Js
