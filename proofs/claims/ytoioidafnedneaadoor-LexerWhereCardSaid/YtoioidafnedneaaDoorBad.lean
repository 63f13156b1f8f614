import Derived.Test.YtoioidafnedneaaDoorWords
/- Plain: words that may not be. -/
set_option linter.unusedVariables false
set_option linter.unusedSimpArgs false
namespace Go.Proofs.YtoioidafnedneaaDoor.Lex
open Go.RowKit

def badL (j : Nat) : List UInt8 := ([[116, 114, 117], [84, 114, 117, 101], [110, 117, 108], [116, 114, 117, 101, 102, 97, 108, 115, 101], [48, 49], [45], [49, 46], [49, 101], [34, 97], [34, 92, 120, 34], [39, 97, 39], [0], [128], [43, 49], [46, 53], [49, 101, 57, 57], [34, 10, 34]] : List (List UInt8)).getD j []

theorem bad_none {c : UInt8} (r : List UInt8) (h1 : signB c = false) (h2 : c.toNat ≠ 34) (h3 : ¬ (c.toNat = 45 ∨ digB c = true)) (h4 : letB c = false) : (firstL (c :: r)).2 = 0 := by
  simp only [firstL]; rw [if_neg (by simp [h1]), if_neg h2, if_neg h3, if_neg (by simp [h4])]
theorem bad_word {w rest : List UInt8} (h : w ≠ []) (hw : ∀ c ∈ w, letB c = true) (hr : Fin rest) (h3 : threeB w = false) : (firstL (w ++ rest)).2 = 0 := by
  cases w with
  | nil => exact absurd rfl h
  | cons c r =>
    have hc := hw c (by simp)
    have hn : 97 ≤ c.toNat ∧ c.toNat ≤ 122 := by unfold letB at hc; simpa using hc
    have hs : signB c = false := by
      cases hs : signB c with
      | false => rfl
      | true => have := (sign_facts hs).2.1; rw [hc] at this; cases this
    have ht : ((c :: r) ++ rest).takeWhile letB = c :: r := takeWhile_all hw (fun c r e => (hr c r e).2)
    have hf : firstL ((c :: r) ++ rest) = wordL ((c :: r) ++ rest) := by
      rw [List.cons_append]; simp only [firstL]; rw [if_neg (by simp [hs]), if_neg (by omega), if_neg (by unfold digB; simp; omega), if_pos hc]
    rw [hf, wordL, ht, if_neg (by simp [h3])]
theorem bad_num {w rest : List UInt8} {c : UInt8} {r : List UInt8} (hcr : w = c :: r) (hc : c.toNat = 45 ∨ digB c = true) (hw : ∀ c ∈ w, numB c = true) (hr : Fin rest) (h3 : (Dec.parseS w).2.2 = false) : (firstL (w ++ rest)).2 = 0 := by
  have hn : signB c = false ∧ c.toNat ≠ 34 := by
    have hnc := hw c (by rw [hcr]; simp)
    simp only [numB, List.contains_eq_mem, decide_eq_true_eq, List.mem_cons, List.not_mem_nil, or_false] at hnc
    rcases hnc with rfl | rfl | rfl | rfl | rfl | rfl | rfl | rfl | rfl | rfl | rfl | rfl | rfl | rfl | rfl <;> decide
  have ht : (w ++ rest).takeWhile numB = w := takeWhile_all hw (fun c r e => (hr c r e).1)
  have hf : firstL (w ++ rest) = numberL (w ++ rest) := by
    rw [hcr, List.cons_append]; simp only [firstL]; rw [if_neg (by simp [hn.1]), if_neg hn.2, if_pos hc]
  rw [hf, numberL, ht, if_neg (by simp [h3])]
theorem bad_text {l : List UInt8} (h : Quo.unqB l = none) : (firstL (34 :: l)).2 = 0 := by
  have hf : firstL (34 :: l) = textL (34 :: l) := by simp [firstL, signB]
  have hu : (Quo.unqS (34 :: l)).2.2 = false := by
    unfold Quo.unqS
    rw [if_pos (by simp [Lib.hasPrefix]), show (34 :: l).drop 1 = l from rfl, h]
  rw [hf, textL, if_neg (by simp [hu])]
theorem fin32 (r : List UInt8) : Fin (32 :: r) := fin_blank blank32 r
theorem bad_first (j : Nat) (hj : j < 17) (more : List UInt8) (h8 : j = 8 → more = []) : (firstL (badL j ++ 32 :: more)).2 = 0 ∧ blankB ((badL j ++ 32 :: more).getD 0 0) = false ∧ badL j ≠ [] ∧ (badL j).length ≤ 9 := by
  rcases (show j = 0 ∨ j = 1 ∨ j = 2 ∨ j = 3 ∨ j = 4 ∨ j = 5 ∨ j = 6 ∨ j = 7 ∨ j = 8 ∨ j = 9 ∨ j = 10 ∨ j = 11 ∨ j = 12 ∨ j = 13 ∨ j = 14 ∨ j = 15 ∨ j = 16 by omega) with rfl | rfl | rfl | rfl | rfl | rfl | rfl | rfl | rfl | rfl | rfl | rfl | rfl | rfl | rfl | rfl | rfl
  all_goals refine ⟨?_, by rw [getD_append0 (by decide)]; decide, by decide, by decide⟩
  · exact bad_word (w := [116, 114, 117]) (by decide) (by decide) (fin32 _) (by decide)
  · exact bad_none _ (by decide) (by decide) (by decide) (by decide)
  · exact bad_word (w := [110, 117, 108]) (by decide) (by decide) (fin32 _) (by decide)
  · exact bad_word (w := [116, 114, 117, 101, 102, 97, 108, 115, 101]) (by decide) (by decide) (fin32 _) (by decide)
  · exact bad_num (w := [48, 49]) rfl (by decide) (by decide) (fin32 _) (by decide +kernel)
  · exact bad_num (w := [45]) rfl (by decide) (by decide) (fin32 _) (by decide +kernel)
  · exact bad_num (w := [49, 46]) rfl (by decide) (by decide) (fin32 _) (by decide +kernel)
  · exact bad_num (w := [49, 101]) rfl (by decide) (by decide) (fin32 _) (by decide +kernel)
  · rw [h8 rfl]
    refine bad_text (l := [97, 32]) ?_
    have h := Quo.unq_cut (rs := [97, 32]) (by intro r hr; unfold Quo.vr; simp at hr; omega) (p := [97, 32]) (q := []) (by decide +kernel)
    exact h
  · refine bad_text (l := 92 :: 120 :: 34 :: 32 :: more) ?_
    refine Quo.unqB_esc0 (by simp) (by rw [Quo.dec92]) ?_
    simp [Quo.escL]
  · exact bad_none _ (by decide) (by decide) (by decide) (by decide)
  · exact bad_none _ (by decide) (by decide) (by decide) (by decide)
  · exact bad_none _ (by decide) (by decide) (by decide) (by decide)
  · exact bad_none _ (by decide) (by decide) (by decide) (by decide)
  · exact bad_none _ (by decide) (by decide) (by decide) (by decide)
  · exact bad_num (w := [49, 101, 57, 57]) rfl (by decide) (by decide) (fin32 _) (by decide +kernel)
  · refine bad_text (l := 10 :: 34 :: 32 :: more) ?_
    have hd : (Lib.decodeL (10 :: 34 :: 32 :: more)).1 = 10 := by rw [Quo.dec_ascii (by decide)]; rfl
    exact Quo.unqB_low (by simp) (by rw [hd]; decide) (by rw [hd]; decide) (.inl (by rw [hd]; decide))
theorem scanS_bad {ws : List (List UInt8 × Tok)} (h : ∀ q ∈ ws, IsW q.1 q.2) (j : Nat) (hj : j < 17) (more : List UInt8) (h8 : j = 8 → more = []) (hl : (wordsL ws ++ badL j ++ [32] ++ more).length ≤ 20000) :
    scanS (wordsL ws ++ badL j ++ [32] ++ more) = .inl (wordsL ws).length := by
  obtain ⟨b1, b2, b3, b4⟩ := bad_first j hj more h8
  unfold scanS
  rw [if_neg (by omega), show wordsL ws ++ badL j ++ [32] ++ more = wordsL ws ++ (badL j ++ 32 :: more) by simp, scan_words h, scanL_bad (by simp) b2 b1, wordsT_place]
  simp [combR]
end Go.Proofs.YtoioidafnedneaaDoor.Lex
