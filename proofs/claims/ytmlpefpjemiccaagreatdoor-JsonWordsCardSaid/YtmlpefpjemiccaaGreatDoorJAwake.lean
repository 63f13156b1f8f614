import Derived.Test.YtmlpefpjemiccaaGreatDoorParse
import Derived.Test.YtmlpefpjemiccaaGreatDoorWr3
import Derived.Test.YtmlpefpjemiccaaGreatDoorAwake
/- The contract of awake: chapter 4's examples come out true. -/
set_option linter.unusedVariables false
set_option linter.unusedSimpArgs false
namespace Go.Proofs.YtmlpefpjemiccaaGreatDoor.Js
open Go.RowKit Lex

theorem parse_x (s : List UInt8) (E : Int) (j : J) (n : Nat) (hP : parseS s = (E, j, n)) (b : ByteArray) (hb : (⟨s.toArray⟩ : ByteArray) = b) (hs : s.length ≤ maxLen) (w : World) : Calls Tryz.prog 14 #[.string b] w fun e w' =>
    ∃ k m e1 t an nn cn ai ni ci, e = .returned (.tuple #[.agg #[.int .i64 k, .int .i64 m, .int .i64 e1, .string t, .slice an nn cn, .slice ai ni ci], .int .i64 E, .int .i64 n]) ∧
      JA (fun b => w.heap.size ≤ b) w' (.agg #[.int .i64 k, .int .i64 m, .int .i64 e1, .string t, .slice an nn cn, .slice ai ni ci]) j ∧ Below w.heap.size w w' := by
  subst hb
  have := parse_any s w hs
  rw [hP] at this
  exact this

theorem dec_parse : Dec.parseS [49, 46, 53, 48] = (15, -1, true) := by
  have h1 : Dec.splitS [49, 46, 53, 48] = some (false, [49], [53, 48], 0) := by decide +kernel
  unfold Dec.parseS
  rw [h1, if_neg (by decide)]
  have h2 : Dec.valS (some (false, [49], [53, 48], 0)) = Dec.mk (15 * 10) (-2) := rfl
  rw [h2, Dec.mk_mul]
  exact Dec.mk_right 15 (-1) (by decide +kernel)
theorem isW_150 : IsW [49, 46, 53, 48] ⟨3, [49, 46, 53, 48], 15, -1, 0⟩ := by
  refine ⟨by simp, by decide, fun rest hr => ?_⟩
  have ht : ([49, 46, 53, 48] ++ rest).takeWhile numB = [49, 46, 53, 48] := takeWhile_all (by decide) (fun c r e => (hr c r e).1)
  have hf : firstL ([49, 46, 53, 48] ++ rest) = numberL ([49, 46, 53, 48] ++ rest) := by simp [firstL, signB, digB]
  rw [hf, numberL, spanN, ht, dec_parse, if_pos rfl]
def exJ : J := .mk 7 0 0 [] [[97]] [.mk 6 0 0 [] [] [.mk 4 15 (-1) [] [] [], .mk 1 0 0 [] [] []]]
theorem ex1_scan : scanS [32, 123, 34, 97, 34, 32, 58, 32, 91, 49, 46, 53, 48, 44, 32, 110, 117, 108, 108, 93, 125, 32] = .inr [⟨1, [123], 0, 0, 1⟩, ⟨2, [97], 0, 0, 2⟩, ⟨1, [58], 0, 0, 6⟩, ⟨1, [91], 0, 0, 8⟩, ⟨3, [49, 46, 53, 48], 15, -1, 9⟩, ⟨1, [44], 0, 0, 13⟩, ⟨4, nullL, 0, 0, 15⟩, ⟨1, [93], 0, 0, 19⟩, ⟨1, [125], 0, 0, 20⟩, ⟨5, [], 0, 0, 22⟩] := by
  unfold scanS
  rw [if_neg (by decide)]
  rw [show ([32, 123, 34, 97, 34, 32, 58, 32, 91, 49, 46, 53, 48, 44, 32, 110, 117, 108, 108, 93, 125, 32] : List UInt8) = 32 :: (123 :: ([34, 97, 34] ++ (32 :: (58 :: (32 :: (91 :: ([49, 46, 53, 48] ++ (44 :: (32 :: (nullL ++ (93 :: (125 :: (32 :: []))))))))))))) from rfl]
  rw [scanL_blank blank32, scan_sign (by decide), scan_word isW_a (by intro c r h; cases h; decide), scanL_blank blank32, scan_sign (by decide), scanL_blank blank32, scan_sign (by decide), scan_word isW_150 (by intro c r h; cases h; decide), scan_sign (by decide),
    scanL_blank blank32, scan_word (isW_three (w := nullL) (by decide)) (by intro c r h; cases h; decide), scan_sign (by decide), scan_sign (by decide), scanL_blank blank32, scanL_nil]
  rfl
theorem ex1 : parseS [32, 123, 34, 97, 34, 32, 58, 32, 91, 49, 46, 53, 48, 44, 32, 110, 117, 108, 108, 93, 125, 32] = (0, exJ, 0) := by
  unfold parseS
  rw [ex1_scan]
  rfl
theorem ex2_scan : scanS [123, 34, 97, 34, 58, 49, 44, 34, 97, 34] = .inr [⟨1, [123], 0, 0, 0⟩, ⟨2, [97], 0, 0, 1⟩, ⟨1, [58], 0, 0, 4⟩, ⟨3, [49], 1, 0, 5⟩, ⟨1, [44], 0, 0, 6⟩, ⟨2, [97], 0, 0, 7⟩, ⟨5, [], 0, 0, 10⟩] := by
  unfold scanS
  rw [if_neg (by decide)]
  rw [show ([123, 34, 97, 34, 58, 49, 44, 34, 97, 34] : List UInt8) = 123 :: ([34, 97, 34] ++ (58 :: ([49] ++ (44 :: ([34, 97, 34] ++ []))))) from rfl]
  rw [scan_sign (by decide), scan_word isW_a (by intro c r h; cases h; decide), scan_sign (by decide), scan_word isW_one (by intro c r h; cases h; decide), scan_sign (by decide), scan_word isW_a fin_nil, scanL_nil]
  rfl
theorem ex2 : parseS [123, 34, 97, 34, 58, 49, 44, 34, 97, 34] = (42, j0, 7) := by
  unfold parseS
  rw [ex2_scan]
  rfl
theorem whole_a : Quo.wholeB [97] = true := by
  rw [show ([97] : List UInt8) = Quo.flat [97] by decide +kernel]
  exact Quo.wholeB_flat' (by intro r hr; unfold Quo.vr; simp at hr; omega)
theorem quote_a : Quo.quoteL [97] = [34, 97, 34] := by
  unfold Quo.quoteL
  rw [show ([97] : List UInt8) = Quo.flat [97] by decide +kernel, Quo.qBody_flat' (by intro r hr; unfold Quo.vr; simp at hr; omega)]
  decide +kernel
theorem print_15 : Dec.printS 15 (-1) = [49, 46, 53] := by
  have h : Lib.decDigits 15 = [49, 53] := Lib.decDigits_two (by decide) (by decide)
  have hf : Dec.figsL 15 (-1) = [49, 53] := by
    unfold Dec.figsL
    rw [show (15 : Int).natAbs = 15 from rfl, h]
    rfl
  unfold Dec.printS
  rw [if_pos (by decide +kernel), if_neg (by decide), hf]
  rfl
theorem ex_right : rightJ 1 exJ = true := by
  have h1 : Dec.rightB 15 (-1) = true := by decide +kernel
  simp [exJ, rightJ, rightL, bareB, formB, namesB, whole_a, h1]
theorem ex_printJ : printJ exJ = [123, 34, 97, 34, 58, 91, 49, 46, 53, 44, 110, 117, 108, 108, 93, 125] := by
  simp [exJ, printJ, printL, quote_a, print_15, nullL]
theorem ex_print : printS exJ = [123, 34, 97, 34, 58, 91, 49, 46, 53, 44, 110, 117, 108, 108, 93, 125] := by
  unfold printS
  rw [ex_right, if_pos rfl, ex_printJ]
theorem ex_same : sameJ exJ exJ = true ∧ sameJ exJ j0 = false := ⟨sameJ_refl _, rfl⟩
end Go.Proofs.YtmlpefpjemiccaaGreatDoor.Js
