import Derived.Test.YtignefglnpaedaaGreatDoorRo2
/- Plain: Parse undoes Print; unlike values have unlike texts; values deep within one another. -/
set_option linter.unusedVariables false
set_option linter.unusedSimpArgs false
namespace Go.Proofs.YtignefglnpaedaaGreatDoor.Js
open Lex

theorem scan_whole {j : J} (h : goodJ j = true) : scanL (printJ j) 0 = .inr (toksJ 0 j ++ [⟨5, [], 0, 0, (printJ j).length⟩]) := by
  have := scan_print j 0 [] h fin_nil
  rw [List.append_nil, scanL_nil, Nat.zero_add] at this
  rw [this]; rfl
theorem parse_print {j : J} (h : rightJ 1 j = true) (hl : (printJ j).length ≤ 20000) : parseS (printJ j) = (0, j, 0) := by
  unfold parseS scanS
  rw [if_neg (by omega), scan_whole (good_right 1 j h)]
  dsimp only
  unfold parseT
  rw [val_toks 16 (by omega) j 0 _ h]
  rfl
theorem print_inj {a b : J} (ha : rightJ 1 a = true) (hb : rightJ 1 b = true) (h : printJ a = printJ b) : a = b := by
  have h1 := scan_whole (good_right 1 a ha)
  have h2 := scan_whole (good_right 1 b hb)
  rw [h, h2] at h1
  have h3 : toksJ 0 b ++ [⟨5, [], 0, 0, (printJ b).length⟩] = toksJ 0 a ++ [⟨5, [], 0, 0, (printJ b).length⟩] := Sum.inr.inj h1
  have v1 := val_toks 16 (by omega) a 0 [⟨5, [], 0, 0, (printJ b).length⟩] ha
  have v2 := val_toks 16 (by omega) b 0 [⟨5, [], 0, 0, (printJ b).length⟩] hb
  rw [h3, v1] at v2
  exact (R.mk.inj v2).2.1
theorem print_same {a b : J} (ha : rightJ 1 a = true) (hb : rightJ 1 b = true) : (printJ a == printJ b) = sameJ a b := by
  rw [Bool.eq_iff_iff, beq_iff_eq, sameJ_iff]
  exact ⟨print_inj ha hb, fun h => by rw [h]⟩
theorem print_ne {j : J} (h : rightJ 1 j = true) : printJ j ≠ [] := by
  intro h0
  have := scan_whole (good_right 1 j h)
  rw [h0, scanL_nil] at this
  obtain ⟨y, r, e, _⟩ := toks_head (good_right 1 j h) 0
  rw [e] at this
  have := congrArg List.length (Sum.inr.inj this)
  simp at this

/-- Values within one another. -/
def nestJ (o : Bool) : Nat → J
  | 0 => .mk 4 1 0 [] [] []
  | k + 1 => if o then .mk 7 0 0 [] [[97]] [nestJ o k] else .mk 6 0 0 [] [] [nestJ o k]
def nestL (o : Bool) : Nat → List UInt8
  | 0 => [49]
  | k + 1 => if o then [123, 34, 97, 34, 58] ++ nestL o k ++ [125] else [91] ++ nestL o k ++ [93]
theorem print_1 : Dec.printS 1 0 = [49] := by
  have h : Lib.itoa 1 = [49] := by
    unfold Lib.itoa
    rw [if_neg (by decide)]
    exact Lib.decDigits_one (by decide)
  unfold Dec.printS
  rw [if_pos (by decide +kernel), if_pos (by decide), h]
  rfl
theorem whole_a' : Quo.wholeB [97] = true := by
  rw [show ([97] : List UInt8) = Quo.flat [97] by decide +kernel]
  exact Quo.wholeB_flat' (by intro r hr; unfold Quo.vr; simp at hr; omega)
theorem quote_a' : Quo.quoteL [97] = [34, 97, 34] := by
  unfold Quo.quoteL
  rw [show ([97] : List UInt8) = Quo.flat [97] by decide +kernel, Quo.qBody_flat' (by intro r hr; unfold Quo.vr; simp at hr; omega)]
  decide +kernel
theorem nest_print (o : Bool) : ∀ k, printJ (nestJ o k) = nestL o k
  | 0 => by rw [nestJ, printJ, if_neg (by decide), if_neg (by decide), if_neg (by decide), if_pos rfl, print_1]; rfl
  | k + 1 => by
    have ih := nest_print o k
    cases o with
    | true => simp [nestJ, nestL, printJ, printL, quote_a', ih]
    | false => simp [nestJ, nestL, printJ, printL, ih]
theorem nest_good (o : Bool) : ∀ k, goodJ (nestJ o k) = true
  | 0 => by
    have h1 : Dec.rightB 1 0 = true := by decide +kernel
    simp [nestJ, goodJ, goodL, bareB, formB, h1]
  | k + 1 => by
    have ih := nest_good o k
    cases o with
    | true => simp [nestJ, goodJ, goodL, bareB, formB, namesB, whole_a', ih]
    | false => simp [nestJ, goodJ, goodL, bareB, formB, ih]
theorem nest_right (o : Bool) : ∀ k d, rightJ d (nestJ o k) = decide (d + k ≤ 16)
  | 0, d => by
    have h1 : Dec.rightB 1 0 = true := by decide +kernel
    simp [nestJ, rightJ, rightL, bareB, formB, h1]
  | k + 1, d => by
    have ih := nest_right o k (d + 1)
    cases o with
    | true =>
      simp only [nestJ, if_true, rightJ, rightL, ih]
      rw [Bool.eq_iff_iff]
      simp [bareB, formB, namesB, whole_a']
      omega
    | false =>
      simp only [nestJ, Bool.false_eq_true, if_false, rightJ, rightL, ih]
      rw [Bool.eq_iff_iff]
      simp [bareB, formB]
      omega
def stepN (o : Bool) : Nat := if o then 5 else 1
theorem nest_len (o : Bool) : ∀ k, (nestL o k).length = 1 + k * (stepN o + 1)
  | 0 => by simp [nestL]
  | k + 1 => by
    have ih := nest_len o k
    cases o with
    | true => simp [nestL, stepN] at ih ⊢; omega
    | false => simp [nestL, stepN] at ih ⊢; omega
/-- Too deep: the token at which it is so. -/
theorem nest_deep (o : Bool) : ∀ (n k p : Nat) (l : List Tok), n ≤ k → (valS n (toksJ p (nestJ o k) ++ l)).er = 41 ∧ ((valS n (toksJ p (nestJ o k) ++ l)).l.headD tok0).p = p + n * stepN o
  | 0, k, p, l, _ => by
    obtain ⟨y, r, e, hp, hb, _⟩ := toks_head (nest_good o k) p
    rw [e, List.cons_append, valS, if_neg hb]
    exact ⟨rfl, by simpa using hp⟩
  | n + 1, k, p, l, h => by
    obtain ⟨k', rfl⟩ : ∃ k', k = k' + 1 := ⟨k - 1, by omega⟩
    cases o with
    | false =>
      rw [nestJ, if_neg (by decide), toksJ, if_neg (by decide), if_neg (by decide), if_neg (by decide), if_neg (by decide), if_neg (by decide), if_pos rfl, List.cons_append, valS, if_neg (show ¬ (begunS (sg 91 p)).k = 0 from (show ¬ ((6 : Int) = 0) by decide)), if_pos (by rfl)]
      rw [toksL, toksL]
      simp only [if_true, Bool.false_eq_true, if_false, List.nil_append, List.append_assoc, List.cons_append, List.append_nil, Nat.add_zero]
      obtain ⟨y, r, e, hp, hb, hs, _⟩ := toks_head (nest_good false k') (p + 1)
      have ih := nest_deep false n k' (p + 1) (sg 93 (p + 1 + (printL false true [] [nestJ false k']).length) :: l) (by omega)
      rw [e, List.cons_append] at ih ⊢
      unfold arrS
      dsimp only
      rw [if_neg (by rw [hs]; decide)]
      rw [List.length_cons, arrL, if_neg (by rw [ih.1]; decide)]
      refine ⟨ih.1, ?_⟩
      have := ih.2
      simp only at this ⊢
      rw [this]
      simp [stepN]; omega
    | true =>
      rw [nestJ, if_pos rfl, toksJ, if_neg (by decide), if_neg (by decide), if_neg (by decide), if_neg (by decide), if_neg (by decide), if_neg (by decide), List.cons_append, valS, if_neg (show ¬ (begunS (sg 123 p)).k = 0 from (show ¬ ((7 : Int) = 0) by decide)), if_neg (show ¬ (begunS (sg 123 p)).k = 6 from (show ¬ ((7 : Int) = 6) by decide)), if_pos (by rfl)]
      rw [toksL, toksL]
      simp only [if_true, Bool.false_eq_true, if_false, List.nil_append, List.append_assoc, List.cons_append, List.append_nil, Nat.add_zero, List.headD_cons, List.tail_cons, quote_a', List.length_cons, List.length_nil, Nat.zero_add]
      have ih := nest_deep true n k' (p + 1 + (1 + 1 + 1 + 1)) (sg 125 (p + 1 + (printL true true [[97]] [nestJ true k']).length) :: l) (by omega)
      unfold objS
      dsimp only
      rw [if_neg (show ¬ sgB ⟨2, [97], 0, 0, p + 1⟩ 125 = true by simp [sgB])]
      have hnm : ∀ a b L, nameS [] ((⟨2, [97], 0, 0, a⟩ : Tok) :: sg 58 b :: L) = (0, [97], L) := fun a b L => by
        unfold nameS
        dsimp only
        rw [if_pos rfl, if_neg (by decide), if_pos (by rfl)]
      rw [List.length_cons, objL, hnm]
      dsimp only
      rw [if_pos rfl, if_neg (by rw [ih.1]; decide)]
      refine ⟨ih.1, ?_⟩
      have := ih.2
      simp only at this ⊢
      rw [this]
      simp [stepN]; omega
theorem deep_parse (o : Bool) (k : Nat) (h : 16 ≤ k) (hk : k ≤ 1000) : parseS (nestL o k) = (41, j0, 16 * stepN o) := by
  have hl := nest_len o k
  have hs : stepN o ≤ 5 := by unfold stepN; split <;> omega
  have hlen : (nestL o k).length ≤ 20000 := by
    rw [hl]
    have : k * (stepN o + 1) ≤ 1000 * 6 := Nat.mul_le_mul hk (by omega)
    omega
  unfold parseS scanS
  rw [if_neg (by omega), ← nest_print, scan_whole (nest_good o k)]
  dsimp only
  obtain ⟨h1, h2⟩ := nest_deep o 16 k 0 [⟨5, [], 0, 0, (printJ (nestJ o k)).length⟩] h
  unfold parseT topS
  rw [if_neg (by rw [h1]; decide), h1, h2, Nat.zero_add]
theorem shallow_parse (o : Bool) (k : Nat) (h : k ≤ 15) : parseS (nestL o k) = (0, nestJ o k, 0) := by
  have hl := nest_len o k
  have hs : stepN o ≤ 5 := by unfold stepN; split <;> omega
  rw [← nest_print]
  refine parse_print (by rw [nest_right]; simp; omega) ?_
  rw [nest_print, hl]
  have : k * (stepN o + 1) ≤ 15 * 6 := Nat.mul_le_mul h (by omega)
  omega
end Go.Proofs.YtignefglnpaedaaGreatDoor.Js
