import Derived.Test.YtmlpefpjemiccaaGreatDoorParse
import Derived.Test.YtmlpefpjemiccaaGreatDoorWr3
import Derived.Test.YtmlpefpjemiccaaGreatDoorAwake
/- The contract of awake: chapter 4's examples come out true. -/
set_option linter.unusedVariables false
set_option linter.unusedSimpArgs false
namespace Go.Proofs.YtmlpefpjemiccaaGreatDoor.Js
open Go.RowKit Lex

theorem parse_x (s : List UInt8) (E : Int) (j : J) (n : Nat) (hP : parseS s = (E, j, n)) (b : ByteArray) (hb : (⟨s.toArray⟩ : ByteArray) = b) (hs : s.length ≤ maxLen) (w : World) : Calls Tryz.prog 14 #[.string b] w fun e w' =>
    ∃ k m e1 t an nn cn ai ni ci, e = .returned (.tuple #[.agg #[.int .i64 k, .int .i64 m, .int .i64 e1, .string t, .slice an nn cn, .slice ai ni ci], .int .i64 E, .int .i64 n]) ∧
      JA (fun b => w.heap.size ≤ b) w' (.agg #[.int .i64 k, .int .i64 m, .int .i64 e1, .string t, .slice an nn cn, .slice ai ni ci]) j ∧ Below w.heap.size w w' := by
  subst hb
  have := parse_any s w hs
  rw [hP] at this
  exact this

theorem dec_parse : Dec.parseS [49, 46, 53, 48] = (15, -1, true) := by
  have h1 : Dec.splitS [49, 46, 53, 48] = some (false, [49], [53, 48], 0) := by decide +kernel
  unfold Dec.parseS
  rw [h1, if_neg (by decide)]
  have h2 : Dec.valS (some (false, [49], [53, 48], 0)) = Dec.mk (15 * 10) (-2) := rfl
  rw [h2, Dec.mk_mul]
  exact Dec.mk_right 15 (-1) (by decide +kernel)
theorem isW_150 : IsW [49, 46, 53, 48] ⟨3, [49, 46, 53, 48], 15, -1, 0⟩ := by
  refine ⟨by simp, by decide, fun rest hr => ?_⟩
  have ht : ([49, 46, 53, 48] ++ rest).takeWhile numB = [49, 46, 53, 48] := takeWhile_all (by decide) (fun c r e => (hr c r e).1)
  have hf : firstL ([49, 46, 53, 48] ++ rest) = numberL ([49, 46, 53, 48] ++ rest) := by simp [firstL, signB, digB]
  rw [hf, numberL, spanN, ht, dec_parse, if_pos rfl]
def exJ : J := .mk 7 0 0 [] [[97]] [.mk 6 0 0 [] [] [.mk 4 15 (-1) [] [] [], .mk 1 0 0 [] [] []]]
theorem ex1_scan : scanS [32, 123, 34, 97, 34, 32, 58, 32, 91, 49, 46, 53, 48, 44, 32, 110, 117, 108, 108, 93, 125, 32] = .inr [⟨1, [123], 0, 0, 1⟩, ⟨2, [97], 0, 0, 2⟩, ⟨1, [58], 0, 0, 6⟩, ⟨1, [91], 0, 0, 8⟩, ⟨3, [49, 46, 53, 48], 15, -1, 9⟩, ⟨1, [44], 0, 0, 13⟩, ⟨4, nullL, 0, 0, 15⟩, ⟨1, [93], 0, 0, 19⟩, ⟨1, [125], 0, 0, 20⟩, ⟨5, [], 0, 0, 22⟩] := by
  unfold scanS
  rw [if_neg (by decide)]
  rw [show ([32, 123, 34, 97, 34, 32, 58, 32, 91, 49, 46, 53, 48, 44, 32, 110, 117, 108, 108, 93, 125, 32] : List UInt8) = 32 :: (123 :: ([34, 97, 34] ++ (32 :: (58 :: (32 :: (91 :: ([49, 46, 53, 48] ++ (44 :: (32 :: (nullL ++ (93 :: (125 :: (32 :: []))))))))))))) from rfl]
  rw [scanL_blank blank32, scan_sign (by decide), scan_word isW_a (by intro c r h; cases h; decide), scanL_blank blank32, scan_sign (by decide), scanL_blank blank32, scan_sign (by decide), scan_word isW_150 (by intro c r h; cases h; decide), scan_sign (by decide),
    scanL_blank blank32, scan_word (isW_three (w := nullL) (by decide)) (by intro c r h; cases h; decide), scan_sign (by decide), scan_sign (by decide), scanL_blank blank32, scanL_nil]
  rfl
theorem ex1 : parseS [32, 123, 34, 97, 34, 32, 58, 32, 91, 49, 46, 53, 48, 44, 32, 110, 117, 108, 108, 93, 125, 32] = (0, exJ, 0) := by
  unfold parseS
  rw [ex1_scan]
  rfl
theorem ex2_scan : scanS [123, 34, 97, 34, 58, 49, 44, 34, 97, 34] = .inr [⟨1, [123], 0, 0, 0⟩, ⟨2, [97], 0, 0, 1⟩, ⟨1, [58], 0, 0, 4⟩, ⟨3, [49], 1, 0, 5⟩, ⟨1, [44], 0, 0, 6⟩, ⟨2, [97], 0, 0, 7⟩, ⟨5, [], 0, 0, 10⟩] := by
  unfold scanS
  rw [if_neg (by decide)]
  rw [show ([123, 34, 97, 34, 58, 49, 44, 34, 97, 34] : List UInt8) = 123 :: ([34, 97, 34] ++ (58 :: ([49] ++ (44 :: ([34, 97, 34] ++ []))))) from rfl]
  rw [scan_sign (by decide), scan_word isW_a (by intro c r h; cases h; decide), scan_sign (by decide), scan_word isW_one (by intro c r h; cases h; decide), scan_sign (by decide), scan_word isW_a fin_nil, scanL_nil]
  rfl
theorem ex2 : parseS [123, 34, 97, 34, 58, 49, 44, 34, 97, 34] = (42, j0, 7) := by
  unfold parseS
  rw [ex2_scan]
  rfl
theorem whole_a : Quo.wholeB [97] = true := by
  rw [show ([97] : List UInt8) = Quo.flat [97] by decide +kernel]
  exact Quo.wholeB_flat' (by intro r hr; unfold Quo.vr; simp at hr; omega)
theorem quote_a : Quo.quoteL [97] = [34, 97, 34] := by
  unfold Quo.quoteL
  rw [show ([97] : List UInt8) = Quo.flat [97] by decide +kernel, Quo.qBody_flat' (by intro r hr; unfold Quo.vr; simp at hr; omega)]
  decide +kernel
theorem print_15 : Dec.printS 15 (-1) = [49, 46, 53] := by
  have h : Lib.decDigits 15 = [49, 53] := Lib.decDigits_two (by decide) (by decide)
  have hf : Dec.figsL 15 (-1) = [49, 53] := by
    unfold Dec.figsL
    rw [show (15 : Int).natAbs = 15 from rfl, h]
    rfl
  unfold Dec.printS
  rw [if_pos (by decide +kernel), if_neg (by decide), hf]
  rfl
theorem ex_right : rightJ 1 exJ = true := by
  have h1 : Dec.rightB 15 (-1) = true := by decide +kernel
  simp [exJ, rightJ, rightL, bareB, formB, namesB, whole_a, h1]
theorem ex_printJ : printJ exJ = [123, 34, 97, 34, 58, 91, 49, 46, 53, 44, 110, 117, 108, 108, 93, 125] := by
  simp [exJ, printJ, printL, quote_a, print_15, nullL]
theorem ex_print : printS exJ = [123, 34, 97, 34, 58, 91, 49, 46, 53, 44, 110, 117, 108, 108, 93, 125] := by
  unfold printS
  rw [ex_right, if_pos rfl, ex_printJ]
theorem ex_same : sameJ exJ exJ = true ∧ sameJ exJ j0 = false := ⟨sameJ_refl _, rfl⟩
end Go.Proofs.YtmlpefpjemiccaaGreatDoor.Js

/- The contract of awake. -/
set_option linter.unusedVariables false
set_option linter.unusedSimpArgs false
namespace Go.Proofs.YtmlpefpjemiccaaGreatDoor.Js
open Go.RowKit Lex

set_option maxHeartbeats 4000000 in
set_option maxRecDepth 100000 in
theorem awake_any (w : World) (hT : Dec.Tab w) : Calls Tryz.prog 5 #[] w (Ret (.bool true) w) := by
  have P1 := Lib.hid (parse_x [32, 123, 34, 97, 34, 32, 58, 32, 91, 49, 46, 53, 48, 44, 32, 110, 117, 108, 108, 93, 125, 32] 0 exJ 0 ex1 ⟨#[32, 123, 34, 97, 34, 32, 58, 32, 91, 49, 46, 53, 48, 44, 32, 110, 117, 108, 108, 93, 125, 32]⟩ rfl (by decide) w)
  have P2 := Lib.hid (fun w => parse_x [123, 34, 97, 34, 58, 49, 44, 34, 97, 34] 42 j0 7 ex2 ⟨#[123, 34, 97, 34, 58, 49, 44, 34, 97, 34]⟩ rfl (by decide) w)
  have HT := Lib.hid hT
  clear hT
  go_enter Tryz.func5, Tryz.ntmps5
  go_wp2_with fail
  (with_reducible refine (P1.out).mono ?_)
  rintro e1 w1 ⟨k, m, e', t, an, nn, cn, ai, ni, ci, rfl, hJ, hb1⟩
  have HJ : Hid (∀ w', Below w1.heap.size w1 w' → JA Any w' (.agg #[.int .i64 k, .int .i64 m, .int .i64 e', .string t, .slice an nn cn, .slice ai ni ci]) exJ) := fun w' h => (hJ.any).below h (Nat.le_refl _)
  have HTT : Hid (∀ w', Below w1.heap.size w1 w' → Dec.Tab w') := fun w' h => HT.out.below (hb1.trans (h.mono hb1.size))
  clear hJ
  go_wp2_with fail
  (with_reducible refine (P2.out _).mono ?_)
  rintro e2 w2 ⟨k2, m2, e2', t2, an2, nn2, cn2, ai2, ni2, ci2, rfl, hJ2, hb2⟩
  have hs1 := hb1.size
  have hs2 := hb2.size
  simp at hs2
  have hl2 : w1.heap.size < w2.heap.size := by omega
  obtain ⟨z0, z1, z2, z3, z4, z5⟩ := box_cells hb2
  have hbw2 : Below w1.heap.size w1 w2 := ((Below.refl _ _).alloc (Nat.le_refl _) _).trans (hb2.mono (by simp))
  have hbw2' : ∀ o, Below w1.heap.size w1 (w2.alloc o) := fun o => hbw2.alloc (by omega) o
  have HBW := Lib.hid hbw2'
  have hcell2 : ∀ o w', Below (w2.alloc o).heap.size (w2.alloc o) w' → ∀ i, w'.cell? ⟨w1.heap.size, i, none⟩ = w2.cell? ⟨w1.heap.size, i, none⟩ := fun o w' h i => (h.cell (p := ⟨w1.heap.size, i, none⟩) (by simp; omega)).trans (cell_alloc_old _ _ _ _ hl2)
  have HC := Lib.hid hcell2
  clear hJ2 hbw2' hcell2
  have hpr : (printJ exJ).length ≤ 35184372088832 := by rw [ex_printJ]; decide
  have PR := Lib.hid (fun w' (h : Below w1.heap.size w1 w') => print_of Any _ exJ w' (HTT.out w' h) (HJ.out w' h) hpr)
  rw [ex_print] at PR
  have RI := Lib.hid (fun w' (h : Below w1.heap.size w1 w') => right_of Any _ exJ w' (HJ.out w' h))
  rw [ex_right] at RI
  have SA := Lib.hid (fun w' (h : Below w1.heap.size w1 w') => same_of Any Any _ _ exJ exJ w' (HJ.out w' h) (HJ.out w' h))
  rw [ex_same.1] at SA
  have SB := Lib.hid (fun w' (h : Below w1.heap.size w1 w') => same_of Any Any _ _ exJ j0 w' (HJ.out w' h) ⟨1, zero_jat⟩)
  rw [ex_same.2] at SB
  unfold bareV at SB
  clear hpr
  go_wp2_with (first
    | (go_at_call 10; (with_reducible refine (PR.out _ (HBW.out _)).mono ?_); rintro e3 w3 ⟨rfl, hb3⟩; have c0 := HC.out _ _ hb3; have hbw3 := (HBW.out _).trans (hb3.mono (by simp; omega)))
    | (go_at_call 8; (with_reducible refine (RI.out _ hbw3).mono ?_); rintro e4 w4 ⟨rfl, hb4⟩; have hb34 := hb3.trans (hb4.mono hb3.size); have d0 := HC.out _ _ hb34; have hbw4 := hbw3.trans (hb4.mono hbw3.size))
    | (go_at_call 11; (with_reducible refine (SA.out _ hbw4).mono ?_); rintro e5 w5 ⟨rfl, hb5⟩; have hb35 := hb34.trans (hb5.mono hb34.size); have g0 := HC.out _ _ hb35; have hbw5 := hbw4.trans (hb5.mono hbw4.size))
    | (go_at_call 11; (with_reducible refine (SB.out _ hbw5).mono ?_); rintro e6 w6 ⟨rfl, hb6⟩; have hbw6 := hbw5.trans (hb6.mono hbw5.size)))
  go_ret
  exact ⟨rfl, hb1.trans (hbw6.mono hs1)⟩
end Go.Proofs.YtmlpefpjemiccaaGreatDoor.Js
