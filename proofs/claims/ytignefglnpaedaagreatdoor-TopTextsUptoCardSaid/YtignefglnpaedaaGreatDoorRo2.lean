import Derived.Test.YtignefglnpaedaaGreatDoorRo
/- Plain: a right value's tokens are read as that value; Parse undoes Print; unlike values have unlike texts. -/
set_option linter.unusedVariables false
set_option linter.unusedSimpArgs false
namespace Go.Proofs.YtignefglnpaedaaGreatDoor.Js
open Lex

theorem toks_head {x : J} (h : goodJ x = true) (p : Nat) : ∃ y r, toksJ p x = y :: r ∧ y.p = p ∧ (begunS y).k ≠ 0 ∧ sgB y 93 = false ∧ sgB y 125 = false := by
  rcases goodJ_forms h with rfl | rfl | rfl | ⟨m', e', rfl, hm⟩ | ⟨t', rfl, ht⟩ | ⟨is', rfl, hi⟩ | ⟨ns', is', rfl, hl, hn, hi⟩
  · exact ⟨⟨4, nullL, 0, 0, p⟩, [], by rw [toksJ, if_pos rfl], rfl, (show (1 : Int) ≠ 0 by decide), rfl, rfl⟩
  · exact ⟨⟨4, falseL, 0, 0, p⟩, [], by rw [toksJ, if_neg (by decide), if_pos rfl], rfl, (show (2 : Int) ≠ 0 by decide), rfl, rfl⟩
  · exact ⟨⟨4, trueL, 0, 0, p⟩, [], by rw [toksJ, if_neg (by decide), if_neg (by decide), if_pos rfl], rfl, (show (3 : Int) ≠ 0 by decide), rfl, rfl⟩
  · exact ⟨⟨3, Dec.printS m' e', m', e', p⟩, [], by rw [toksJ, if_neg (by decide), if_neg (by decide), if_neg (by decide), if_pos rfl], rfl, by simp [begunS, J.k], rfl, rfl⟩
  · exact ⟨⟨2, t', 0, 0, p⟩, [], by rw [toksJ, if_neg (by decide), if_neg (by decide), if_neg (by decide), if_neg (by decide), if_pos rfl], rfl, by simp [begunS, J.k], rfl, rfl⟩
  · exact ⟨sg 91 p, _, by rw [toksJ, if_neg (by decide), if_neg (by decide), if_neg (by decide), if_neg (by decide), if_neg (by decide), if_pos rfl], rfl, (show (6 : Int) ≠ 0 by decide), by rfl, by rfl⟩
  · exact ⟨sg 123 p, _, by rw [toksJ, if_neg (by decide), if_neg (by decide), if_neg (by decide), if_neg (by decide), if_neg (by decide), if_neg (by decide)], rfl, (show (7 : Int) ≠ 0 by decide), by rfl, by rfl⟩

/-- What reads items, one behind the other. -/
theorem arr_toks {f : List Tok → R} : ∀ (r : List J) (x : J) (acc : List J) (fuel p q z : Nat) (l : List Tok), (∀ y ∈ x :: r, ∀ p l, f (toksJ p y ++ l) = ⟨0, y, l⟩) → (x :: r).length ≤ fuel →
    arrL f fuel acc (toksJ p x ++ (toksL false false [] q r ++ (sg 93 z :: l))) = ⟨0, .mk 6 0 0 [] [] (acc ++ x :: r), l⟩
  | [], x, acc, fuel, p, q, z, l, hf, hl => by
    obtain ⟨n, rfl⟩ : ∃ n, fuel = n + 1 := ⟨fuel - 1, by simp at hl; omega⟩
    rw [arrL, toksL, hf x (by simp)]
    rfl
  | y :: r, x, acc, fuel, p, q, z, l, hf, hl => by
    obtain ⟨n, rfl⟩ : ∃ n, fuel = n + 1 := ⟨fuel - 1, by simp at hl; omega⟩
    rw [arrL, toksL, hf x (by simp)]
    simp only [if_true, Bool.false_eq_true, if_false, List.nil_append, List.append_assoc, List.cons_append, moreS]
    rw [if_neg (show ¬ sgB (sg 44 q) 93 = true by simp [sgB, sg]), if_pos (by rfl), List.tail_nil]
    have := arr_toks (f := f) r y (acc ++ [x]) n (q + 1 + 0) (q + 1 + 0 + (printJ y).length) z l (fun w hw => hf w (List.mem_cons_of_mem _ hw)) (by simp at hl ⊢; omega)
    rw [this]
    simp
theorem obj_toks {f : List Tok → R} : ∀ (r : List J) (x : J) (nm : List UInt8) (ms ns : List (List UInt8)) (acc : List J) (fuel a b p q z : Nat) (l : List Tok), (∀ y ∈ x :: r, ∀ p l, f (toksJ p y ++ l) = ⟨0, y, l⟩) → (x :: r).length ≤ fuel → ms.length = r.length → namesB ns (nm :: ms) = true →
    objL f fuel ns acc ((⟨2, nm, 0, 0, a⟩ : Tok) :: sg 58 b :: (toksJ p x ++ (toksL true false ms q r ++ (sg 125 z :: l)))) = ⟨0, .mk 7 0 0 [] (ns ++ nm :: ms) (acc ++ x :: r), l⟩
  | [], x, nm, ms, ns, acc, fuel, a, b, p, q, z, l, hf, hl, hm, hn => by
    obtain ⟨n, rfl⟩ : ∃ n, fuel = n + 1 := ⟨fuel - 1, by simp at hl; omega⟩
    obtain rfl : ms = [] := List.length_eq_zero_iff.1 hm
    rw [namesB, Bool.and_eq_true, Bool.and_eq_true] at hn
    have hnm : nameS ns ((⟨2, nm, 0, 0, a⟩ : Tok) :: sg 58 b :: (toksJ p x ++ (toksL true false [] q [] ++ (sg 125 z :: l)))) = (0, nm, toksJ p x ++ (toksL true false [] q [] ++ (sg 125 z :: l))) := by
      unfold nameS
      dsimp only
      rw [if_pos rfl, if_neg (by have := hn.2.1; simpa using this), if_pos (by rfl)]
    rw [objL, hnm, toksL]
    simp only [if_true]
    rw [hf x (by simp)]
    rfl
  | y :: r, x, nm, ms, ns, acc, fuel, a, b, p, q, z, l, hf, hl, hm, hn => by
    obtain ⟨n, rfl⟩ : ∃ n, fuel = n + 1 := ⟨fuel - 1, by simp at hl; omega⟩
    cases ms with
    | nil => simp at hm
    | cons nm2 ms =>
      rw [namesB, Bool.and_eq_true, Bool.and_eq_true] at hn
      have hnm : ∀ L, nameS ns ((⟨2, nm, 0, 0, a⟩ : Tok) :: sg 58 b :: L) = (0, nm, L) := fun L => by
        unfold nameS
        dsimp only
        rw [if_pos rfl, if_neg (by have := hn.2.1; simpa using this), if_pos (by rfl)]
      rw [objL, hnm, toksL]
      simp only [if_true]
      rw [hf x (by simp)]
      simp only [if_true, Bool.false_eq_true, if_false, List.nil_append, List.append_assoc, List.cons_append, moreS, List.headD_cons, List.tail_cons]
      rw [if_neg (show ¬ sgB (sg 44 q) 125 = true by simp [sgB, sg]), if_pos (by rfl)]
      have := obj_toks (f := f) r y nm2 ms (ns ++ [nm]) (acc ++ [x]) n (q + 1) (q + 1 + (Quo.quoteL nm2).length) (q + 1 + ((Quo.quoteL nm2).length + 1)) (q + 1 + ((Quo.quoteL nm2).length + 1) + (printJ y).length) z l (fun w hw => hf w (List.mem_cons_of_mem _ hw)) (by simp at hl ⊢; omega) (by simpa using hm) hn.2.2
      rw [this]
      simp
theorem rightL_mem {d : Nat} : ∀ {is : List J}, rightL d is = true → ∀ x ∈ is, rightJ d x = true
  | [], _, x, hx => by simp at hx
  | y :: r, h, x, hx => by
    rw [rightL, Bool.and_eq_true] at h
    rcases List.mem_cons.1 hx with rfl | hx
    · exact h.1
    · exact rightL_mem h.2 x hx
theorem toks_pos {x : J} (h : goodJ x = true) (p : Nat) : 1 ≤ (toksJ p x).length := by
  obtain ⟨y, r, e, _⟩ := toks_head h p
  rw [e]; simp
theorem toksL_len (o : Bool) : ∀ (r : List J) (ns : List (List UInt8)) (q : Nat), goodL r = true → r.length ≤ (toksL o false ns q r).length
  | [], ns, q, _ => by simp
  | x :: r, ns, q, h => by
    rw [goodL, Bool.and_eq_true] at h
    rw [toksL]
    have := toksL_len o r ns.tail (q + (if false = true then 0 else 1) + (if o = true then (Quo.quoteL (ns.headD [])).length + 1 else 0) + (printJ x).length) h.2
    simp only [List.length_append, List.length_cons]
    simp
    simp at this
    omega
/-- A right value's tokens are read as that value. -/
theorem val_toks : ∀ n, n ≤ 16 → ∀ (j : J) (p : Nat) (l : List Tok), rightJ (17 - n) j = true → valS n (toksJ p j ++ l) = ⟨0, j, l⟩
  | 0, _, j, p, l, h => by
    have := (rightJ_forms h).1
    omega
  | n + 1, hn, j, p, l, h => by
    have ih : ∀ y p l, rightJ (17 - (n + 1) + 1) y = true → valS n (toksJ p y ++ l) = ⟨0, y, l⟩ := fun y p l hy => val_toks n (by omega) y p l (by rwa [show 17 - n = 17 - (n + 1) + 1 by omega])
    rcases (rightJ_forms h).2 with rfl | rfl | rfl | ⟨m', e', rfl, hm⟩ | ⟨t', rfl, ht⟩ | ⟨is, rfl, hi⟩ | ⟨ns, is, rfl, hl, hnb, hi⟩
    · rw [toksJ, if_pos rfl]; rfl
    · rw [toksJ, if_neg (by decide), if_pos rfl]; rfl
    · rw [toksJ, if_neg (by decide), if_neg (by decide), if_pos rfl]; rfl
    · rw [toksJ, if_neg (by decide), if_neg (by decide), if_neg (by decide), if_pos rfl]; rfl
    · rw [toksJ, if_neg (by decide), if_neg (by decide), if_neg (by decide), if_neg (by decide), if_pos rfl]; rfl
    · rw [toksJ, if_neg (by decide), if_neg (by decide), if_neg (by decide), if_neg (by decide), if_neg (by decide), if_pos rfl, List.cons_append, valS, if_neg (show ¬ (begunS (sg 91 p)).k = 0 from (show ¬ ((6 : Int) = 0) by decide)), if_pos (by rfl)]
      cases is with
      | nil => rfl
      | cons x r =>
        have hmem := rightL_mem hi
        obtain ⟨y, s, hy, _, _, hs, _⟩ := toks_head (good_right _ _ (hmem x (by simp))) (p + 1 + 0 + 0)
        rw [toksL]
        simp only [if_true, Bool.false_eq_true, if_false, List.nil_append, List.append_assoc, List.cons_append]
        unfold arrS
        have hL : toksJ (p + 1 + 0 + 0) x ++ (toksL false false [].tail (p + 1 + 0 + 0 + (printJ x).length) r ++ sg 93 (p + 1 + (printL false true [] (x :: r)).length) :: l) = y :: (s ++ (toksL false false [].tail (p + 1 + 0 + 0 + (printJ x).length) r ++ sg 93 (p + 1 + (printL false true [] (x :: r)).length) :: l)) := by rw [hy]; rfl
        have hA := arr_toks (f := valS n) r x [] (y :: (s ++ (toksL false false [].tail (p + 1 + 0 + 0 + (printJ x).length) r ++ sg 93 (p + 1 + (printL false true [] (x :: r)).length) :: l))).length (p + 1 + 0 + 0) (p + 1 + 0 + 0 + (printJ x).length) (p + 1 + (printL false true [] (x :: r)).length) l (fun w hw p l => ih w p l (hmem w hw)) ?_
        · simp only [List.tail_nil] at hL hA ⊢
          rw [hL] at hA ⊢
          dsimp only
          rw [if_neg (by rw [hs]; decide), hA]
          rfl
        · have q1 := toks_pos (good_right _ _ (hmem x (by simp))) (p + 1 + 0 + 0)
          have hg : goodL r = true := by
            have := goodL_right _ _ hi
            rw [goodL, Bool.and_eq_true] at this
            exact this.2
          have q2 := toksL_len false r [] (p + 1 + 0 + 0 + (printJ x).length) hg
          rw [hy] at q1
          simp only [List.length_cons, List.length_append, List.tail_nil] at q1 q2 ⊢
          omega
    · rw [toksJ, if_neg (by decide), if_neg (by decide), if_neg (by decide), if_neg (by decide), if_neg (by decide), if_neg (by decide), List.cons_append, valS, if_neg (show ¬ (begunS (sg 123 p)).k = 0 from (show ¬ ((7 : Int) = 0) by decide)), if_neg (show ¬ (begunS (sg 123 p)).k = 6 from (show ¬ ((7 : Int) = 6) by decide)), if_pos (by rfl)]
      cases is with
      | nil => 
        obtain rfl : ns = [] := List.length_eq_zero_iff.1 hl
        rfl
      | cons x r =>
        cases ns with
        | nil => simp at hl
        | cons nm ms =>
          have hmem := rightL_mem hi
          rw [toksL]
          simp only [if_true, Bool.false_eq_true, if_false, List.nil_append, List.append_assoc, List.cons_append, List.headD_cons, List.tail_cons]
          unfold objS
          dsimp only
          rw [if_neg (show ¬ sgB ⟨2, nm, 0, 0, p + 1 + 0⟩ 125 = true by simp [sgB])]
          have hg : goodL r = true := by
            have := goodL_right _ _ hi
            rw [goodL, Bool.and_eq_true] at this
            exact this.2
          have hA := obj_toks (f := valS n) r x nm ms [] [] (a := p + 1 + 0) (b := p + 1 + 0 + (Quo.quoteL nm).length) (p := p + 1 + 0 + ((Quo.quoteL nm).length + 1)) (q := p + 1 + 0 + ((Quo.quoteL nm).length + 1) + (printJ x).length) (z := p + 1 + (printL true true (nm :: ms) (x :: r)).length) (l := l) (fun w hw p l => ih w p l (hmem w hw)) ?_ (by simpa using hl) hnb (fuel := ((⟨2, nm, 0, 0, p + 1 + 0⟩ : Tok) :: sg 58 (p + 1 + 0 + (Quo.quoteL nm).length) :: (toksJ (p + 1 + 0 + ((Quo.quoteL nm).length + 1)) x ++ (toksL true false ms (p + 1 + 0 + ((Quo.quoteL nm).length + 1) + (printJ x).length) r ++ sg 125 (p + 1 + (printL true true (nm :: ms) (x :: r)).length) :: l))).length)
          · rw [hA]; rfl
          · have q2 := toksL_len true r ms (p + 1 + 0 + ((Quo.quoteL nm).length + 1) + (printJ x).length) hg
            simp only [List.length_cons, List.length_append] at q2 ⊢
            omega
end Go.Proofs.YtignefglnpaedaaGreatDoor.Js
