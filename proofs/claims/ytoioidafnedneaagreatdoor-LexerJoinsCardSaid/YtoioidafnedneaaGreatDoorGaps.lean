import Derived.Test.YtoioidafnedneaaGreatDoorWords
/- Plain: words with blanks round them. -/
set_option linter.unusedVariables false
set_option linter.unusedSimpArgs false
namespace Go.Proofs.YtoioidafnedneaaGreatDoor.Lex
open Go.RowKit
open Quo (pickS pickS_nonneg pickS_lt IntsAt textR)

def blank4 (n : Nat) : UInt8 := if n = 0 then 32 else if n = 1 then 9 else if n = 2 then 10 else 13
/-- The blanks that a number tells. -/
def gapL (n : Nat) : List UInt8 := if h : n = 0 then [] else blank4 (n % 4) :: gapL (n / 4)
termination_by n
decreasing_by omega
theorem gapL_zero : gapL 0 = [] := by rw [gapL]; simp
theorem gapL_step {n : Nat} (h : 0 < n) : gapL n = blank4 (n % 4) :: gapL (n / 4) := by
  conv => lhs; rw [gapL]
  rw [dif_neg (by omega)]
theorem blank4_blank (n : Nat) : blankB (blank4 n) = true := by
  unfold blank4; repeat' split
  all_goals decide
theorem gapL_blank (n : Nat) : ∀ c ∈ gapL n, blankB c = true := by
  induction n using Nat.strongRecOn with
  | ind n ih =>
    rcases Nat.eq_zero_or_pos n with rfl | h
    · rw [gapL_zero]; simp
    · rw [gapL_step h]
      intro c hc
      rcases List.mem_cons.1 hc with rfl | hc
      · exact blank4_blank _
      · exact ih _ (by omega) c hc
theorem gapL_len (d : Nat) : ∀ n, n < 4 ^ d → (gapL n).length ≤ d := by
  induction d with
  | zero => intro n h; rw [show n = 0 by simpa using h, gapL_zero]; simp
  | succ d ih =>
    intro n h
    rcases Nat.eq_zero_or_pos n with rfl | h0
    · rw [gapL_zero]; simp
    · rw [gapL_step h0]
      have := ih (n / 4) (by rw [Nat.pow_succ] at h; omega)
      simp; omega
/-- The blanks round word j. -/
def gapOf (zs : List Int) (j : Nat) : List UInt8 := if j < zs.length then 32 :: gapL (pickS (zs.getD j 0) 1000).toNat else [32]
theorem gapOf_blank (zs : List Int) (j : Nat) : ∀ c ∈ gapOf zs j, blankB c = true := by
  unfold gapOf; split
  · intro c hc
    rcases List.mem_cons.1 hc with rfl | hc
    · decide
    · exact gapL_blank _ c hc
  · intro c hc; simp at hc; subst hc; decide
theorem gapOf_head (zs : List Int) (j : Nat) (r : List UInt8) : Fin (gapOf zs j ++ r) := by
  unfold gapOf; split
  · exact fin_blank blank32 _
  · exact fin_blank blank32 _
theorem gapOf_len (zs : List Int) (j : Nat) : (gapOf zs j).length ≤ 6 ∧ 1 ≤ (gapOf zs j).length := by
  unfold gapOf; split
  · have h0 := pickS_nonneg (c := zs.getD j 0) (n := 1000) (by decide)
    have h1 := pickS_lt (c := zs.getD j 0) (n := 1000) (by decide)
    have := gapL_len 5 (pickS (zs.getD j 0) 1000).toNat (by omega)
    simp only [List.length_cons]; omega
  · simp

/-- Words, each with its blanks. -/
abbrev Gap := List UInt8 × (List UInt8 × Tok)
def gapsL (es : List Gap) : List UInt8 := es.flatMap fun q => q.1 ++ q.2.1 ++ q.1
def gapsT (n : Nat) : List Gap → List Tok × Nat
  | [] => ([], n)
  | (g, w, x) :: r => (x.at_ (n + g.length) :: (gapsT (n + g.length + w.length + g.length) r).1, (gapsT (n + g.length + w.length + g.length) r).2)
structure GapOk (q : Gap) : Prop where
  blank : ∀ c ∈ q.1, blankB c = true
  head : ∀ r, Fin (q.1 ++ r)
  word : IsW q.2.1 q.2.2
theorem scan_gaps {es : List Gap} (h : ∀ q ∈ es, GapOk q) (rest : List UInt8) (n : Nat) : scanL (gapsL es ++ rest) n = combR (gapsT n es).1 (scanL rest (gapsT n es).2) := by
  induction es generalizing n with
  | nil => simp [gapsL, gapsT, combR_nil]
  | cons q r ih =>
    obtain ⟨g, w, x⟩ := q
    have h1 := h (g, w, x) (by simp)
    rw [show gapsL ((g, w, x) :: r) ++ rest = g ++ (w ++ (g ++ (gapsL r ++ rest))) by simp [gapsL], scan_blanks h1.blank, scan_word h1.word (h1.head _), scan_blanks h1.blank, ih (fun q hq => h q (by simp [hq])), consR_comb, combR_comb]
    rfl
theorem gapsT_place (es : List Gap) (n : Nat) : (gapsT n es).2 = n + (gapsL es).length := by
  induction es generalizing n with
  | nil => rfl
  | cons q r ih => obtain ⟨g, w, x⟩ := q; simp only [gapsT]; rw [ih]; simp [gapsL]; omega
theorem gapsT_len (es : List Gap) (n : Nat) : (gapsT n es).1.length = es.length := by
  induction es generalizing n with
  | nil => rfl
  | cons q r ih => obtain ⟨g, w, x⟩ := q; simp only [gapsT, List.length_cons]; rw [ih]
theorem gapsT_get (es : List Gap) (n k : Nat) (q : Gap) (h : es[k]? = some q) : ∃ p, (gapsT n es).1[k]? = some (q.2.2.at_ p) := by
  induction es generalizing n k with
  | nil => simp at h
  | cons e r ih =>
    obtain ⟨g, w, x⟩ := e
    cases k with
    | zero => simp at h; subst h; exact ⟨n + g.length, rfl⟩
    | succ k => simp only [gapsT, List.getElem?_cons_succ]; exact ih _ k (by simpa using h)

/-- Places rise. -/
def Rising (lo : Nat) : List Tok → Prop
  | [] => True
  | x :: r => lo ≤ x.p ∧ Rising (x.p + 1) r
theorem Rising.mono {lo lo' : Nat} {l : List Tok} (h : Rising lo' l) (hl : lo ≤ lo') : Rising lo l := by
  cases l with
  | nil => trivial
  | cons x r => exact ⟨Nat.le_trans hl h.1, h.2⟩
theorem Rising.step {lo : Nat} {l : List Tok} (h : Rising lo l) (j : Nat) (hj : j + 1 < l.length) : (l.getD j tok0).p < (l.getD (j + 1) tok0).p := by
  induction l generalizing lo j with
  | nil => simp at hj
  | cons x r ih =>
    cases j with
    | zero =>
      cases r with
      | nil => simp at hj
      | cons y r => exact Nat.lt_of_succ_le h.2.1
    | succ j => exact ih h.2 j (by simpa using hj)
/-- What they are scanned to. -/
def scannedG (es : List Gap) : List Tok := (gapsT 0 es).1 ++ [⟨5, [], 0, 0, (gapsL es).length⟩]
theorem gapsT_rising {es : List Gap} (h : ∀ q ∈ es, GapOk q) (n : Nat) : Rising n ((gapsT n es).1 ++ [⟨5, [], 0, 0, (gapsT n es).2⟩]) := by
  induction es generalizing n with
  | nil => exact ⟨Nat.le_refl _, trivial⟩
  | cons q r ih =>
    obtain ⟨g, w, x⟩ := q
    have hw : 0 < w.length := List.length_pos_iff.2 (h (g, w, x) (by simp)).word.ne
    refine ⟨by show n ≤ n + g.length; omega, ?_⟩
    exact (ih (fun q hq => h q (by simp [hq])) _).mono (by show n + g.length + 1 ≤ n + g.length + w.length + g.length; omega)
theorem scannedG_rising {es : List Gap} (h : ∀ q ∈ es, GapOk q) : Rising 0 (scannedG es) := by
  have := gapsT_rising h 0
  rw [gapsT_place, Nat.zero_add] at this
  exact this
theorem scannedG_len (es : List Gap) : (scannedG es).length = es.length + 1 := by simp [scannedG, gapsT_len]
theorem scanS_gaps {es : List Gap} (h : ∀ q ∈ es, GapOk q) (hl : (gapsL es).length ≤ 20000) : scanS (gapsL es) = .inr (scannedG es) := by
  unfold scanS
  rw [if_neg (by omega), ← List.append_nil (gapsL es), scan_gaps h, scanL_nil]
  simp [combR, scannedG, gapsT_place]
/-- The first k raw tokens with their blanks. -/
def esOf (rs : List Raw) (zs : List Int) (k : Nat) : List Gap := (List.range k).map fun j => (gapOf zs j, wordT (rs.getD j raw0))
theorem esOf_ok (rs : List Raw) (zs : List Int) (k : Nat) : ∀ q ∈ esOf rs zs k, GapOk q := by
  intro q hq
  simp only [esOf, List.mem_map] at hq
  obtain ⟨j, _, rfl⟩ := hq
  exact ⟨gapOf_blank zs j, gapOf_head zs j, wordT_isW _⟩
theorem esOf_succ (rs : List Raw) (zs : List Int) (k : Nat) : gapsL (esOf rs zs (k + 1)) = gapsL (esOf rs zs k) ++ gapOf zs k ++ (wordT (rs.getD k raw0)).1 ++ gapOf zs k := by
  simp [esOf, List.range_succ, gapsL]
theorem esOf_len (rs : List Raw) (zs : List Int) (k : Nat) : (esOf rs zs k).length = k := by simp [esOf]
theorem esOf_get (rs : List Raw) (zs : List Int) {k j : Nat} (h : j < k) : (esOf rs zs k)[j]? = some (gapOf zs j, wordT (rs.getD j raw0)) := by
  simp [esOf, h]
/-- Two lists of tokens that are alike but for their places. -/
def Alike2 (a b : List Tok) : Prop := a.length = b.length ∧ ∀ j, j < a.length → ∃ K T M E p q, a.getD j tok0 = ⟨K, T, M, E, p⟩ ∧ b.getD j tok0 = ⟨K, T, M, E, q⟩
theorem alike_gaps {rs : List Raw} {zs : List Int} {m k : Nat} (hk : (wsOf rs m).length = k) (hm : k ≤ m) (hr : k ≤ rs.length) : Alike2 (scannedW (wsOf rs m)) (scannedG (esOf rs zs k)) := by
  refine ⟨by rw [scannedW_len, scannedG_len, esOf_len, hk], fun j hj => ?_⟩
  rw [scannedW_len, hk] at hj
  by_cases h : j < k
  · have h1 := wsOf_get (rs := rs) (m := m) (k := j) (by omega) (by omega)
    have h2 := esOf_get rs zs h
    obtain ⟨p, hp⟩ := gapsT_get _ 0 j _ h2
    rw [scannedW_get h1]
    have h3 : (scannedG (esOf rs zs k)).getD j tok0 = (wordT (rs.getD j raw0)).2.at_ p := by
      unfold scannedG
      rw [List.getD_eq_getElem?_getD, List.getElem?_append_left (by rw [gapsT_len, esOf_len]; exact h), hp]; rfl
    rw [h3]
    exact ⟨_, _, _, _, _, _, rfl, rfl⟩
  · have hj : j = k := by omega
    subst hj
    have h1 := scannedW_end (wsOf rs m)
    rw [hk] at h1
    have h2 : (scannedG (esOf rs zs j)).getD j tok0 = ⟨5, [], 0, 0, (gapsL (esOf rs zs j)).length⟩ := by
      unfold scannedG
      rw [List.getD_eq_getElem?_getD, List.getElem?_append_right (by rw [gapsT_len, esOf_len]; exact Nat.le_refl _), gapsT_len, esOf_len]
      simp
    rw [h1, h2]
    exact ⟨_, _, _, _, _, _, rfl, rfl⟩
end Go.Proofs.YtoioidafnedneaaGreatDoor.Lex
