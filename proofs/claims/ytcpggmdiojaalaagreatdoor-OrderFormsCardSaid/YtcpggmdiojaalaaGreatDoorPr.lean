import Derived.Test.YtcpggmdiojaalaaGreatDoorPl
/- Plain: what is parsed is right; places do not matter; a right value's text is scanned to its tokens, and these are read as that value. -/
set_option linter.unusedVariables false
set_option linter.unusedSimpArgs false
namespace Go.Proofs.YtcpggmdiojaalaaGreatDoor.Js
open Lex

theorem rightL_snoc (d : Nat) : ∀ (a : List J) (x : J), rightL d (a ++ [x]) = (rightL d a && rightJ d x)
  | [], x => by simp [rightL]
  | y :: r, x => by rw [List.cons_append, rightL, rightL_snoc d r x, rightL, Bool.and_assoc]
theorem namesB_snoc : ∀ (a seen : List (List UInt8)) (n : List UInt8), namesB seen (a ++ [n]) = (namesB seen a && (Quo.wholeB n && !((seen ++ a).contains n)))
  | [], seen, n => by simp [namesB]
  | y :: r, seen, n => by
    rw [List.cons_append, namesB, namesB_snoc r (seen ++ [y]) n, namesB]
    simp only [List.append_assoc, List.singleton_append, Bool.and_assoc]
def AllG (N : Nat) (l : List Tok) : Prop := ∀ x ∈ l, TokG N x
theorem AllG.suf {N : Nat} {l l' : List Tok} (h : AllG N l) (hs : l' <:+ l) : AllG N l' := fun x hx => h x (hs.mem hx)
/-- What reads makes right values, one deeper than d. -/
def MakesR (N d : Nat) (f : List Tok → R) : Prop := ∀ l, EndL l → AllG N l → (f l).er = 0 → rightJ (d + 1) (f l).j = true
theorem arr_right {N d : Nat} {f : List Tok → R} (hg : Good f) (hf : MakesR N d f) : ∀ (n : Nat) (acc : List J) (l : List Tok), EndL l → AllG N l → rightL (d + 1) acc = true → (arrL f n acc l).er = 0 →
    ∃ is, (arrL f n acc l).j = .mk 6 0 0 [] [] is ∧ rightL (d + 1) is = true
  | 0, acc, l, h, hl, ha, he => absurd (show (40 : Int) = 0 from he) (by decide)
  | n + 1, acc, l, h, hl, ha, he => by
    obtain ⟨a, b, c⟩ := hg l h
    rw [arrL] at he ⊢
    by_cases h0 : (f l).er = 0
    · rw [if_pos h0] at he ⊢
      have hr := hf l h hl h0
      have ha' : rightL (d + 1) (acc ++ [(f l).j]) = true := by rw [rightL_snoc, ha, hr]; rfl
      have hl' := hl.suf b
      generalize hq : (f l).l = q at *
      cases q with
      | nil => exact absurd rfl a.ne
      | cons y l' =>
        unfold moreS at he ⊢
        simp only at he ⊢
        by_cases h1 : sgB y 93 = true
        · rw [if_pos h1]; exact ⟨_, rfl, ha'⟩
        · rw [if_neg h1] at he ⊢
          by_cases h2 : sgB y 44 = true
          · rw [if_pos h2] at he ⊢
            exact arr_right hg hf n _ l' (a.tail (by rw [(sgB_k h2).1]; decide)) (hl'.suf (List.suffix_cons _ _)) ha' he
          · rw [if_neg h2] at he; exact absurd (show (40 : Int) = 0 from he) (by decide)
    · rw [if_neg h0] at he; exact absurd he h0
theorem name_right {N : Nat} {seen : List (List UInt8)} {l : List Tok} (h : EndL l) (hl : AllG N l) (he : (nameS seen l).1 = 0) : Quo.wholeB (nameS seen l).2.1 = true ∧ seen.contains (nameS seen l).2.1 = false ∧ (nameS seen l).2.1.length ≤ N := by
  cases l with
  | nil => exact absurd rfl h.ne
  | cons x l1 =>
    unfold nameS at he ⊢
    simp only at he ⊢
    split at he
    · rename_i hx
      rw [if_pos hx]
      split at he
      · exact absurd (show (42 : Int) = 0 from he) (by decide)
      · rename_i hs
        rw [if_neg hs]
        have h1 := h.tail (by omega)
        cases l1 with
        | nil => exact absurd rfl h1.ne
        | cons y l2 =>
          simp only at he ⊢
          split at he
          · rename_i hy
            rw [if_pos hy]
            exact ⟨(hl x (by simp)).txt hx, by simpa using hs, (hl x (by simp)).len⟩
          · exact absurd (show (40 : Int) = 0 from he) (by decide)
    · exact absurd (show (40 : Int) = 0 from he) (by decide)
theorem obj_right {N d : Nat} {f : List Tok → R} (hg : Good f) (hf : MakesR N d f) : ∀ (n : Nat) (ns : List (List UInt8)) (acc : List J) (l : List Tok), EndL l → AllG N l → rightL (d + 1) acc = true → namesB [] ns = true → ns.length = acc.length → (objL f n ns acc l).er = 0 →
    ∃ ns' is, (objL f n ns acc l).j = .mk 7 0 0 [] ns' is ∧ rightL (d + 1) is = true ∧ namesB [] ns' = true ∧ ns'.length = is.length
  | 0, ns, acc, l, h, hl, ha, hn, hlen, he => absurd (show (40 : Int) = 0 from he) (by decide)
  | n + 1, ns, acc, l, h, hl, ha, hn, hlen, he => by
    obtain ⟨n1, n2⟩ := name_good (seen := ns) h
    rw [objL] at he ⊢
    by_cases hz : (nameS ns l).1 = 0
    · rw [if_pos hz] at he ⊢
      obtain ⟨w1, w2, _⟩ := name_right h hl hz
      have hlm := hl.suf n2
      generalize hql : (nameS ns l).2.2 = lm at *
      generalize hqn : (nameS ns l).2.1 = nm at *
      obtain ⟨a, b, c⟩ := hg lm n1
      by_cases h0 : (f lm).er = 0
      · rw [if_pos h0] at he ⊢
        have hr := hf lm n1 hlm h0
        have ha' : rightL (d + 1) (acc ++ [(f lm).j]) = true := by rw [rightL_snoc, ha, hr]; rfl
        have hn' : namesB [] (ns ++ [nm]) = true := by rw [namesB_snoc, hn, w1]; simpa using w2
        have hlen' : (ns ++ [nm]).length = (acc ++ [(f lm).j]).length := by simp [hlen]
        have hl' := hlm.suf b
        generalize hq : (f lm).l = q at *
        cases q with
        | nil => exact absurd rfl a.ne
        | cons y l' =>
          unfold moreS at he ⊢
          simp only at he ⊢
          by_cases h1 : sgB y 125 = true
          · rw [if_pos h1]; exact ⟨_, _, rfl, ha', hn', hlen'⟩
          · rw [if_neg h1] at he ⊢
            by_cases h2 : sgB y 44 = true
            · rw [if_pos h2] at he ⊢
              exact obj_right hg hf n _ _ l' (a.tail (by rw [(sgB_k h2).1]; decide)) (hl'.suf (List.suffix_cons _ _)) ha' hn' hlen' he
            · rw [if_neg h2] at he; exact absurd (show (40 : Int) = 0 from he) (by decide)
      · rw [if_neg h0] at he; exact absurd he h0
    · rw [if_neg hz] at he; exact absurd he hz
theorem kind_cases (t : List UInt8) : kindS t = 0 ∨ kindS t = 1 ∨ kindS t = 2 ∨ kindS t = 3 ∨ kindS t = 6 ∨ kindS t = 7 := by
  unfold kindS
  split <;> (try split) <;> (try split) <;> (try split) <;> (try split) <;> simp
/-- What a token begins, kind by kind. -/
theorem begun_cases (x : Tok) : (begunS x).k = 0 ∨ (begunS x = .mk 5 0 0 x.t [] [] ∧ x.k = 2) ∨ (begunS x = .mk 4 x.m x.e [] [] [] ∧ x.k = 3) ∨ begunS x = .mk 1 0 0 [] [] [] ∨ begunS x = .mk 2 0 0 [] [] [] ∨ begunS x = .mk 3 0 0 [] [] [] ∨ (begunS x).k = 6 ∨ (begunS x).k = 7 := by
  unfold begunS
  split
  · rename_i h; exact .inr (.inl ⟨rfl, h⟩)
  · split
    · rename_i h; exact .inr (.inr (.inl ⟨rfl, h⟩))
    · split
      · rcases kind_cases x.t with h | h | h | h | h | h <;> rw [h] <;> simp [J.k]
      · exact .inl rfl
theorem rightL_len {d : Nat} (h : d ≤ 16) {is : List J} (hr : rightL (d + 1) is = true) : rightJ d (.mk 6 0 0 [] [] is) = true := by
  rw [rightJ, hr]; simp [h, bareB, formB]
theorem val_right (N : Nat) : ∀ n, n ≤ 16 → ∀ l, EndL l → AllG N l → (valS n l).er = 0 → rightJ (17 - n) (valS n l).j = true
  | 0, _, l, h, hl, he => by
    cases l with
    | nil => exact absurd rfl h.ne
    | cons x l =>
      rw [valS] at he
      simp only at he
      split at he <;> simp at he
  | n + 1, hn, l, h, hl, he => by
    cases l with
    | nil => exact absurd rfl h.ne
    | cons x l =>
      have hf : MakesR N (17 - (n + 1)) (valS n) := fun l h1 h2 h3 => by
        have := val_right N n (by omega) l h1 h2 h3
        rwa [show 17 - (n + 1) + 1 = 17 - n by omega]
      rw [valS] at he ⊢
      by_cases h0 : (begunS x).k = 0
      · rw [if_pos h0] at he; exact absurd (show (40 : Int) = 0 from he) (by decide)
      · rw [if_neg h0] at he ⊢
        have ht := h.tail (begun_k h0)
        have hlt := hl.suf (List.suffix_cons x l)
        by_cases h6 : (begunS x).k = 6
        · rw [if_pos h6] at he ⊢
          unfold arrS at he ⊢
          cases l with
          | nil => exact absurd rfl ht.ne
          | cons y l' =>
            simp only at he ⊢
            by_cases h1 : sgB y 93 = true
            · rw [if_pos h1]; exact rightL_len (by omega) rfl
            · rw [if_neg h1] at he ⊢
              obtain ⟨is, hj, hr⟩ := arr_right (val_good n) hf _ _ _ ht hlt rfl he
              rw [hj]; exact rightL_len (by omega) hr
        · rw [if_neg h6] at he ⊢
          by_cases h7 : (begunS x).k = 7
          · rw [if_pos h7] at he ⊢
            unfold objS at he ⊢
            cases l with
            | nil => exact absurd rfl ht.ne
            | cons y l' =>
              simp only at he ⊢
              by_cases h1 : sgB y 125 = true
              · rw [if_pos h1, rightJ]; simp [bareB, formB, namesB, rightL] <;> omega
              · rw [if_neg h1] at he ⊢
                obtain ⟨ns, is, hj, hr, hn', hlen⟩ := obj_right (val_good n) hf _ _ _ _ ht hlt rfl rfl rfl he
                rw [hj, rightJ, hr]; simp [bareB, formB, hn', hlen] <;> omega
          · rw [if_neg h7]
            rcases begun_cases x with h | ⟨h, hk⟩ | ⟨h, hk⟩ | h | h | h | h | h
            · exact absurd h h0
            · rw [h, rightJ]; simp [bareB, formB, rightL, (hl x (by simp)).txt hk] <;> omega
            · rw [h, rightJ]; simp [bareB, formB, rightL, (hl x (by simp)).num hk] <;> omega
            · rw [h, rightJ]; simp [bareB, formB, rightL] <;> omega
            · rw [h, rightJ]; simp [bareB, formB, rightL] <;> omega
            · rw [h, rightJ]; simp [bareB, formB, rightL] <;> omega
            · exact absurd h h6
            · exact absurd h h7

/-- Places do not matter. -/
def Keeps (g : Tok → Tok) : Prop := ∀ x, (g x).k = x.k ∧ (g x).t = x.t ∧ (g x).m = x.m ∧ (g x).e = x.e
theorem sgB_map {g : Tok → Tok} (hg : Keeps g) (x : Tok) (c : UInt8) : sgB (g x) c = sgB x c := by unfold sgB; rw [(hg x).1, (hg x).2.1]
theorem begun_map {g : Tok → Tok} (hg : Keeps g) (x : Tok) : begunS (g x) = begunS x := by unfold begunS; rw [(hg x).1, (hg x).2.1, (hg x).2.2.1, (hg x).2.2.2]
def R.map (g : Tok → Tok) (r : R) : R := ⟨r.er, r.j, r.l.map g⟩
theorem more_map {g : Tok → Tok} (hg : Keeps g) {close : UInt8} {fin : J} {next : List Tok → R} (hn : ∀ l, next (l.map g) = (next l).map g) (l : List Tok) : moreS close fin next (l.map g) = (moreS close fin next l).map g := by
  cases l with
  | nil => rfl
  | cons y l' =>
    simp only [List.map_cons, moreS, sgB_map hg]
    split
    · rfl
    · split
      · exact hn l'
      · rfl
theorem arr_map {g : Tok → Tok} (hg : Keeps g) {f : List Tok → R} (hf : ∀ l, f (l.map g) = (f l).map g) : ∀ (n : Nat) (acc : List J) (l : List Tok), arrL f n acc (l.map g) = (arrL f n acc l).map g
  | 0, acc, l => rfl
  | n + 1, acc, l => by
    rw [arrL, arrL, hf]
    by_cases h : (f l).er = 0
    · rw [if_pos (show (R.map g (f l)).er = 0 from h), if_pos h]
      exact more_map hg (fun l => arr_map hg hf n _ l) _
    · rw [if_neg (show ¬ (R.map g (f l)).er = 0 from h), if_neg h]; rfl
theorem name_map {g : Tok → Tok} (hg : Keeps g) (seen : List (List UInt8)) (l : List Tok) : nameS seen (l.map g) = ((nameS seen l).1, (nameS seen l).2.1, (nameS seen l).2.2.map g) := by
  cases l with
  | nil => rfl
  | cons x l1 =>
    simp only [List.map_cons, nameS, (hg x).1, (hg x).2.1]
    split
    · split
      · rfl
      · cases l1 with
        | nil => rfl
        | cons y l2 =>
          simp only [List.map_cons, sgB_map hg]
          split <;> rfl
    · rfl
theorem obj_map {g : Tok → Tok} (hg : Keeps g) {f : List Tok → R} (hf : ∀ l, f (l.map g) = (f l).map g) : ∀ (n : Nat) (ns : List (List UInt8)) (acc : List J) (l : List Tok), objL f n ns acc (l.map g) = (objL f n ns acc l).map g
  | 0, ns, acc, l => rfl
  | n + 1, ns, acc, l => by
    rw [objL, objL, name_map hg]
    simp only
    by_cases h0 : (nameS ns l).1 = 0
    · rw [if_pos h0, if_pos h0, hf]
      by_cases h : (f (nameS ns l).2.2).er = 0
      · rw [if_pos (show (R.map g (f (nameS ns l).2.2)).er = 0 from h), if_pos h]
        exact more_map hg (fun l => obj_map hg hf n _ _ l) _
      · rw [if_neg (show ¬ (R.map g (f (nameS ns l).2.2)).er = 0 from h), if_neg h]; rfl
    · rw [if_neg h0, if_neg h0]; rfl
theorem val_map {g : Tok → Tok} (hg : Keeps g) : ∀ (n : Nat) (l : List Tok), valS n (l.map g) = (valS n l).map g
  | 0, [] => rfl
  | n + 1, [] => rfl
  | 0, x :: l => by simp only [List.map_cons, valS, begun_map hg]; rfl
  | n + 1, x :: l => by
    simp only [List.map_cons, valS, begun_map hg]
    split
    · rfl
    · split
      · cases l with
        | nil => rfl
        | cons y l' =>
          simp only [List.map_cons, arrS, sgB_map hg]
          split
          · rfl
          · have := arr_map hg (val_map hg n) (y :: l').length [] (y :: l')
            simpa using this
      · split
        · cases l with
          | nil => rfl
          | cons y l' =>
            simp only [List.map_cons, objS, sgB_map hg]
            split
            · rfl
            · have := obj_map hg (val_map hg n) (y :: l').length [] [] (y :: l')
              simpa using this
        · rfl
end Go.Proofs.YtcpggmdiojaalaaGreatDoor.Js
