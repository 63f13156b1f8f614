import Derived.Test.YtmlpefpjemiccaaGreatDoorJAwake
/- The contract of awake. -/
set_option linter.unusedVariables false
set_option linter.unusedSimpArgs false
namespace Go.Proofs.YtmlpefpjemiccaaGreatDoor.Js
open Go.RowKit Lex

set_option maxHeartbeats 4000000 in
set_option maxRecDepth 100000 in
theorem awake_any (w : World) (hT : Dec.Tab w) : Calls Tryz.prog 5 #[] w (Ret (.bool true) w) := by
  have P1 := Lib.hid (parse_x [32, 123, 34, 97, 34, 32, 58, 32, 91, 49, 46, 53, 48, 44, 32, 110, 117, 108, 108, 93, 125, 32] 0 exJ 0 ex1 ⟨#[32, 123, 34, 97, 34, 32, 58, 32, 91, 49, 46, 53, 48, 44, 32, 110, 117, 108, 108, 93, 125, 32]⟩ rfl (by decide) w)
  have P2 := Lib.hid (fun w => parse_x [123, 34, 97, 34, 58, 49, 44, 34, 97, 34] 42 j0 7 ex2 ⟨#[123, 34, 97, 34, 58, 49, 44, 34, 97, 34]⟩ rfl (by decide) w)
  have HT := Lib.hid hT
  clear hT
  go_enter Tryz.func5, Tryz.ntmps5
  go_wp2_with fail
  (with_reducible refine (P1.out).mono ?_)
  rintro e1 w1 ⟨k, m, e', t, an, nn, cn, ai, ni, ci, rfl, hJ, hb1⟩
  have HJ : Hid (∀ w', Below w1.heap.size w1 w' → JA Any w' (.agg #[.int .i64 k, .int .i64 m, .int .i64 e', .string t, .slice an nn cn, .slice ai ni ci]) exJ) := fun w' h => (hJ.any).below h (Nat.le_refl _)
  have HTT : Hid (∀ w', Below w1.heap.size w1 w' → Dec.Tab w') := fun w' h => HT.out.below (hb1.trans (h.mono hb1.size))
  clear hJ
  go_wp2_with fail
  (with_reducible refine (P2.out _).mono ?_)
  rintro e2 w2 ⟨k2, m2, e2', t2, an2, nn2, cn2, ai2, ni2, ci2, rfl, hJ2, hb2⟩
  have hs1 := hb1.size
  have hs2 := hb2.size
  simp at hs2
  have hl2 : w1.heap.size < w2.heap.size := by omega
  obtain ⟨z0, z1, z2, z3, z4, z5⟩ := box_cells hb2
  have hbw2 : Below w1.heap.size w1 w2 := ((Below.refl _ _).alloc (Nat.le_refl _) _).trans (hb2.mono (by simp))
  have hbw2' : ∀ o, Below w1.heap.size w1 (w2.alloc o) := fun o => hbw2.alloc (by omega) o
  have HBW := Lib.hid hbw2'
  have hcell2 : ∀ o w', Below (w2.alloc o).heap.size (w2.alloc o) w' → ∀ i, w'.cell? ⟨w1.heap.size, i, none⟩ = w2.cell? ⟨w1.heap.size, i, none⟩ := fun o w' h i => (h.cell (p := ⟨w1.heap.size, i, none⟩) (by simp; omega)).trans (cell_alloc_old _ _ _ _ hl2)
  have HC := Lib.hid hcell2
  clear hJ2 hbw2' hcell2
  have hpr : (printJ exJ).length ≤ 35184372088832 := by rw [ex_printJ]; decide
  have PR := Lib.hid (fun w' (h : Below w1.heap.size w1 w') => print_of Any _ exJ w' (HTT.out w' h) (HJ.out w' h) hpr)
  rw [ex_print] at PR
  have RI := Lib.hid (fun w' (h : Below w1.heap.size w1 w') => right_of Any _ exJ w' (HJ.out w' h))
  rw [ex_right] at RI
  have SA := Lib.hid (fun w' (h : Below w1.heap.size w1 w') => same_of Any Any _ _ exJ exJ w' (HJ.out w' h) (HJ.out w' h))
  rw [ex_same.1] at SA
  have SB := Lib.hid (fun w' (h : Below w1.heap.size w1 w') => same_of Any Any _ _ exJ j0 w' (HJ.out w' h) ⟨1, zero_jat⟩)
  rw [ex_same.2] at SB
  unfold bareV at SB
  clear hpr
  go_wp2_with (first
    | (go_at_call 10; (with_reducible refine (PR.out _ (HBW.out _)).mono ?_); rintro e3 w3 ⟨rfl, hb3⟩; have c0 := HC.out _ _ hb3; have hbw3 := (HBW.out _).trans (hb3.mono (by simp; omega)))
    | (go_at_call 8; (with_reducible refine (RI.out _ hbw3).mono ?_); rintro e4 w4 ⟨rfl, hb4⟩; have hb34 := hb3.trans (hb4.mono hb3.size); have d0 := HC.out _ _ hb34; have hbw4 := hbw3.trans (hb4.mono hbw3.size))
    | (go_at_call 11; (with_reducible refine (SA.out _ hbw4).mono ?_); rintro e5 w5 ⟨rfl, hb5⟩; have hb35 := hb34.trans (hb5.mono hb34.size); have g0 := HC.out _ _ hb35; have hbw5 := hbw4.trans (hb5.mono hbw4.size))
    | (go_at_call 11; (with_reducible refine (SB.out _ hbw5).mono ?_); rintro e6 w6 ⟨rfl, hb6⟩; have hbw6 := hbw5.trans (hb6.mono hbw5.size)))
  go_ret
  exact ⟨rfl, hb1.trans (hbw6.mono hs1)⟩
end Go.Proofs.YtmlpefpjemiccaaGreatDoor.Js
