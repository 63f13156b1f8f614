import Derived.Test.YtignefglnpaedaaGreatDoorPr
import Derived.Test.YtignefglnpaedaaGreatDoorAwake
/- Plain: a good value's text is scanned to its tokens, and these are read as that value. -/
set_option linter.unusedVariables false
set_option linter.unusedSimpArgs false
namespace Go.Proofs.YtignefglnpaedaaGreatDoor.Js
open Lex

mutual
/-- Right but for the depth. -/
def goodJ : J → Bool
  | .mk k m e t ns is => bareB k m e t ns.length is.length && (formB k m e t ns is.length && goodL is)
def goodL : List J → Bool
  | [] => true
  | x :: r => goodJ x && goodL r
end
mutual
theorem good_right : ∀ (d : Nat) (j : J), rightJ d j = true → goodJ j = true
  | d, .mk k m e t ns is, h => by
    rw [rightJ] at h
    simp only [Bool.and_eq_true] at h
    rw [goodJ, h.2.1, h.2.2.1, goodL_right (d + 1) is h.2.2.2]; rfl
theorem goodL_right : ∀ (d : Nat) (is : List J), rightL d is = true → goodL is = true
  | d, [], _ => by rw [goodL]
  | d, x :: r, h => by
    rw [rightL, Bool.and_eq_true] at h
    rw [goodL, good_right d x h.1, goodL_right d r h.2]; rfl
end
/-- The seven forms of a good value. -/
theorem goodJ_forms {j : J} (h : goodJ j = true) :
    (j = .mk 1 0 0 [] [] [] ∨ j = .mk 2 0 0 [] [] [] ∨ j = .mk 3 0 0 [] [] [] ∨ (∃ m e, j = .mk 4 m e [] [] [] ∧ Dec.rightB m e = true) ∨ (∃ t, j = .mk 5 0 0 t [] [] ∧ Quo.wholeB t = true) ∨
    (∃ is, j = .mk 6 0 0 [] [] is ∧ goodL is = true) ∨ (∃ ns is, j = .mk 7 0 0 [] ns is ∧ ns.length = is.length ∧ namesB [] ns = true ∧ goodL is = true)) := by
  obtain ⟨k, m, e, t, ns, is⟩ := j
  rw [goodJ] at h
  simp only [Bool.and_eq_true] at h
  obtain ⟨h2, h3, h4⟩ := h
  -- by the forms of a value whose items are none or good
  obtain ⟨b1, b2, b3, b4⟩ := bareB_cases h2
  have nn : k ≠ 7 → ns = [] := fun hk => List.length_eq_zero_iff.1 (b3 hk)
  have ii : k ≠ 6 → k ≠ 7 → is = [] := fun hk hk2 => List.length_eq_zero_iff.1 (b4 hk hk2)
  unfold formB at h3
  split at h3
  · rename_i hk
    rcases hk with rfl | rfl | rfl | rfl
    · obtain ⟨rfl, rfl⟩ := b1 (by decide); obtain rfl := b2 (by decide); obtain rfl := nn (by decide); obtain rfl := ii (by decide) (by decide); exact .inl rfl
    · obtain ⟨rfl, rfl⟩ := b1 (by decide); obtain rfl := b2 (by decide); obtain rfl := nn (by decide); obtain rfl := ii (by decide) (by decide); exact .inr (.inl rfl)
    · obtain ⟨rfl, rfl⟩ := b1 (by decide); obtain rfl := b2 (by decide); obtain rfl := nn (by decide); obtain rfl := ii (by decide) (by decide); exact .inr (.inr (.inl rfl))
    · obtain ⟨rfl, rfl⟩ := b1 (by decide); obtain rfl := b2 (by decide); obtain rfl := nn (by decide)
      exact .inr (.inr (.inr (.inr (.inr (.inl ⟨is, rfl, h4⟩)))))
  · split at h3
    · rename_i hk; subst hk
      obtain rfl := b2 (by decide); obtain rfl := nn (by decide); obtain rfl := ii (by decide) (by decide)
      exact .inr (.inr (.inr (.inl ⟨m, e, rfl, h3⟩)))
    · split at h3
      · rename_i hk; subst hk
        obtain ⟨rfl, rfl⟩ := b1 (by decide); obtain rfl := nn (by decide); obtain rfl := ii (by decide) (by decide)
        exact .inr (.inr (.inr (.inr (.inl ⟨t, rfl, h3⟩))))
      · split at h3
        · rename_i hk; subst hk
          obtain ⟨rfl, rfl⟩ := b1 (by decide); obtain rfl := b2 (by decide)
          simp only [Bool.and_eq_true, beq_iff_eq] at h3
          exact .inr (.inr (.inr (.inr (.inr (.inr ⟨ns, is, rfl, h3.1, h3.2, h4⟩)))))
        · cases h3

def sg (c : UInt8) (n : Nat) : Tok := ⟨1, [c], 0, 0, n⟩
mutual
/-- A good value's tokens, from a place on. -/
def toksJ (n : Nat) : J → List Tok
  | .mk k m e t ns is =>
    if k = 1 then [⟨4, nullL, 0, 0, n⟩] else if k = 2 then [⟨4, falseL, 0, 0, n⟩] else if k = 3 then [⟨4, trueL, 0, 0, n⟩] else if k = 4 then [⟨3, Dec.printS m e, m, e, n⟩] else if k = 5 then [⟨2, t, 0, 0, n⟩]
    else if k = 6 then sg 91 n :: (toksL false true [] (n + 1) is ++ [sg 93 (n + 1 + (printL false true [] is).length)])
    else sg 123 n :: (toksL true true ns (n + 1) is ++ [sg 125 (n + 1 + (printL true true ns is).length)])
def toksL (o f : Bool) (ns : List (List UInt8)) (n : Nat) : List J → List Tok
  | [] => []
  | x :: r => (if f then [] else [sg 44 n]) ++ ((if o then [⟨2, ns.headD [], 0, 0, n + (if f then 0 else 1)⟩, sg 58 (n + (if f then 0 else 1) + (Quo.quoteL (ns.headD [])).length)] else []) ++
      (toksJ (n + (if f then 0 else 1) + (if o then (Quo.quoteL (ns.headD [])).length + 1 else 0)) x ++ toksL o false ns.tail (n + (if f then 0 else 1) + (if o then (Quo.quoteL (ns.headD [])).length + 1 else 0) + (printJ x).length) r))
end
theorem isW_whole {t : List UInt8} (h : Quo.wholeB t = true) : IsW (Quo.quoteL t) ⟨2, t, 0, 0, 0⟩ := by
  obtain ⟨rs, hr, rfl⟩ := Quo.whole_flat h
  exact isW_quote hr
theorem scan_w {w : List UInt8} {x : Tok} (h : IsW w x) {rest : List UInt8} (hr : Fin rest) (n : Nat) : scanL (w ++ rest) n = combR [x.at_ n] (scanL rest (n + w.length)) := by rw [scan_word h hr, consR_comb]
theorem scan_s {c : UInt8} (h : signB c = true) (rest : List UInt8) (n : Nat) : scanL (c :: rest) n = combR [sg c n] (scanL rest (n + 1)) := by rw [scan_sign h, consR_comb]; rfl
/-- All names of items are whole. -/
def NamesOk (o : Bool) (ns : List (List UInt8)) (m : Nat) : Prop := o = true → ns.length = m ∧ ∀ x ∈ ns, Quo.wholeB x = true
theorem fin_items (o : Bool) (ns : List (List UInt8)) (is : List J) (rest : List UInt8) (hr : Fin rest) : Fin (printL o false ns is ++ rest) := by
  cases is with
  | nil => rw [printL]; exact hr
  | cons x r => rw [printL]; exact fin_sign (c := 44) (by decide) _
theorem names_whole' : ∀ {ns seen : List (List UInt8)}, namesB seen ns = true → ∀ n ∈ ns, Quo.wholeB n = true
  | [], _, _, n, h => by simp at h
  | x :: r, seen, h, n, hn => by
    rw [namesB, Bool.and_eq_true, Bool.and_eq_true] at h
    rcases List.mem_cons.1 hn with rfl | hn
    · exact h.1
    · exact names_whole' h.2.2 n hn
mutual
theorem scan_print : ∀ (j : J) (n : Nat) (rest : List UInt8), goodJ j = true → Fin rest → scanL (printJ j ++ rest) n = combR (toksJ n j) (scanL rest (n + (printJ j).length))
  | .mk k m e t ns is, n, rest, h, hr => by
    rcases goodJ_forms h with h1 | h1 | h1 | ⟨m', e', h1, hm⟩ | ⟨t', h1, ht⟩ | ⟨is', h1, hi⟩ | ⟨ns', is', h1, hl, hn, hi⟩
    · cases h1
      rw [printJ, toksJ, if_pos rfl, if_pos rfl, scan_w (isW_three (by decide)) hr]; rfl
    · cases h1
      rw [printJ, toksJ, if_neg (by decide), if_pos rfl, if_neg (by decide), if_pos rfl, scan_w (isW_three (by decide)) hr]; rfl
    · cases h1
      rw [printJ, toksJ, if_neg (by decide), if_neg (by decide), if_pos rfl, if_neg (by decide), if_neg (by decide), if_pos rfl, scan_w (isW_three (by decide)) hr]; rfl
    · cases h1
      rw [printJ, toksJ, if_neg (by decide), if_neg (by decide), if_neg (by decide), if_pos rfl, if_neg (by decide), if_neg (by decide), if_neg (by decide), if_pos rfl, scan_w (isW_num hm) hr]; rfl
    · cases h1
      rw [printJ, toksJ, if_neg (by decide), if_neg (by decide), if_neg (by decide), if_neg (by decide), if_pos rfl, if_neg (by decide), if_neg (by decide), if_neg (by decide), if_neg (by decide), if_pos rfl, scan_w (isW_whole ht) hr]; rfl
    · cases h1
      rw [printJ, toksJ, if_neg (by decide), if_neg (by decide), if_neg (by decide), if_neg (by decide), if_neg (by decide), if_pos rfl, if_neg (by decide), if_neg (by decide), if_neg (by decide), if_neg (by decide), if_neg (by decide), if_pos rfl]
      rw [List.cons_append, List.append_assoc, scan_s (by decide), scan_items is false true [] (n + 1) _ hi (fun h => by cases h) (by intro c r h; cases h; decide)]
      rw [List.singleton_append, scan_s (by decide), combR_comb, combR_comb]
      simp only [List.append_assoc, List.cons_append, List.nil_append, List.length_cons, List.length_append, List.length_nil, sg]
      congr 2; omega
    · cases h1
      rw [printJ, toksJ, if_neg (by decide), if_neg (by decide), if_neg (by decide), if_neg (by decide), if_neg (by decide), if_neg (by decide), if_pos rfl, if_neg (by decide), if_neg (by decide), if_neg (by decide), if_neg (by decide), if_neg (by decide), if_neg (by decide)]
      rw [List.cons_append, List.append_assoc, scan_s (by decide), scan_items is true true ns (n + 1) _ hi (fun _ => ⟨hl, names_whole' hn⟩) (by intro c r h; cases h; decide)]
      rw [List.singleton_append, scan_s (by decide), combR_comb, combR_comb]
      simp only [List.append_assoc, List.cons_append, List.nil_append, List.length_cons, List.length_append, List.length_nil, sg]
      congr 2; omega
theorem scan_items : ∀ (is : List J) (o f : Bool) (ns : List (List UInt8)) (n : Nat) (rest : List UInt8), goodL is = true → NamesOk o ns is.length → Fin rest → scanL (printL o f ns is ++ rest) n = combR (toksL o f ns n is) (scanL rest (n + (printL o f ns is).length))
  | [], o, f, ns, n, rest, _, _, hr => by rw [printL, toksL]; exact (combR_nil _).symm
  | x :: r, o, f, ns, n, rest, h, hn, hr => by
    rw [goodL, Bool.and_eq_true] at h
    have hx := fun n rest hr => scan_print x n rest h.1 hr
    have hi := fun ns n hn => scan_items r o false ns n rest h.2 hn hr
    rw [printL, toksL]
    have hF := fin_items o ns.tail r rest hr
    have hn2 : NamesOk o ns.tail r.length := fun ho => by
      obtain ⟨a, b⟩ := hn ho
      refine ⟨by simp at a ⊢; omega, fun y hy => b y (List.mem_of_mem_tail hy)⟩
    have body : ∀ n, scanL (((if o = true then Quo.quoteL (ns.headD []) ++ [58] else []) ++ (printJ x ++ printL o false ns.tail r)) ++ rest) n = combR ((if o = true then [⟨2, ns.headD [], 0, 0, n⟩, sg 58 (n + (Quo.quoteL (ns.headD [])).length)] else []) ++ (toksJ (n + (if o = true then (Quo.quoteL (ns.headD [])).length + 1 else 0)) x ++ toksL o false ns.tail (n + (if o = true then (Quo.quoteL (ns.headD [])).length + 1 else 0) + (printJ x).length) r))
        (scanL rest (n + ((if o = true then Quo.quoteL (ns.headD []) ++ [58] else []) ++ (printJ x ++ printL o false ns.tail r)).length)) := fun n => by
      cases o with
      | false =>
        simp only [Bool.false_eq_true, if_false, List.nil_append, List.append_assoc, Nat.add_zero]
        rw [hx n _ hF, hi _ _ hn2, combR_comb, List.length_append]
        congr 2; omega
      | true =>
        have hw : Quo.wholeB (ns.headD []) = true := by
          obtain ⟨a, b⟩ := hn rfl
          cases ns with
          | nil => simp at a
          | cons y s => exact b y (by simp)
        simp only [if_true, List.append_assoc]
        rw [List.singleton_append, scan_w (isW_whole hw) (fin_sign (c := 58) (by decide) _), scan_s (by decide), hx _ _ hF, hi _ _ hn2, combR_comb, combR_comb, combR_comb]
        simp only [List.length_append, List.length_cons, List.length_nil, List.append_assoc, List.cons_append, List.nil_append, Tok.at_]
        rw [show n + ((Quo.quoteL (ns.headD [])).length + 1) = n + (Quo.quoteL (ns.headD [])).length + 1 by omega]
        congr 2; omega
    cases f with
    | true =>
      have := body n
      simpa only [if_true, List.nil_append, Nat.add_zero] using this
    | false =>
      have := body (n + 1)
      simp only [Bool.false_eq_true, if_false, List.cons_append, List.nil_append] at this ⊢
      rw [scan_s (by decide), this, combR_comb]
      simp only [List.length_cons, List.cons_append, List.nil_append]
      congr 2; omega
end
end Go.Proofs.YtignefglnpaedaaGreatDoor.Js
