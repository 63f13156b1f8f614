import Derived.Test.YtoioidafnedneaaGreatDoorWord2
import Derived.Test.YtoioidafnedneaaGreatDoorOwn
/- Plain: what the words of raw tokens are scanned to. -/
set_option linter.unusedVariables false
set_option linter.unusedSimpArgs false
namespace Go.Proofs.YtoioidafnedneaaGreatDoor.Lex
open Go.RowKit
open Quo (pickS pickS_nonneg pickS_lt IntsAt textR)

theorem wordT_0 {x : Raw} (h : pickS x.k 4 = 0) : wordT x = (signL (pickS x.m 6), ⟨1, signL (pickS x.m 6), 0, 0, 0⟩) := by unfold wordT; rw [if_pos h]
theorem wordT_1 {x : Raw} (h : pickS x.k 4 = 1) : wordT x = (Quo.quoteL (Quo.flat (textR (x.t.take 30))), ⟨2, Quo.flat (textR (x.t.take 30)), 0, 0, 0⟩) := by unfold wordT; rw [if_neg (by omega), if_pos h]
theorem wordT_2 {x : Raw} (h : pickS x.k 4 = 2) : wordT x = (Dec.printS (Dec.fitM x.m) (Dec.fitE x.m x.e), ⟨3, Dec.printS (Dec.fitM x.m) (Dec.fitE x.m x.e), Dec.fitM x.m, Dec.fitE x.m x.e, 0⟩) := by unfold wordT; rw [if_neg (by omega), if_neg (by omega), if_pos h]
theorem wordT_3 {x : Raw} (h : pickS x.k 4 = 3) : wordT x = (threeL (pickS x.m 3), ⟨4, threeL (pickS x.m 3), 0, 0, 0⟩) := by unfold wordT; rw [if_neg (by omega), if_neg (by omega), if_neg (by omega)]
/-- The first m raw tokens' texts and tokens. -/
def wsOf (rs : List Raw) (m : Nat) : List (List UInt8 × Tok) := (rs.take m).map wordT
theorem wsOf_len (rs : List Raw) (m : Nat) : (wsOf rs m).length = min m rs.length := by simp [wsOf]
theorem wsOf_isW (rs : List Raw) (m : Nat) : ∀ q ∈ wsOf rs m, IsW q.1 q.2 := by
  intro q hq
  simp only [wsOf, List.mem_map] at hq
  obtain ⟨x, _, rfl⟩ := hq
  exact wordT_isW x
theorem wsOf_get {rs : List Raw} {m k : Nat} (h1 : k < m) (h2 : k < rs.length) : (wsOf rs m)[k]? = some (wordT (rs.getD k raw0)) := by
  simp [wsOf, List.getElem?_take, h1, h2]
theorem wsOf_step {rs : List Raw} {m k : Nat} (h1 : k < m) (h2 : k < rs.length) : (wsOf rs m).take (k + 1) = (wsOf rs m).take k ++ [wordT (rs.getD k raw0)] := by
  rw [List.take_add_one, wsOf_get h1 h2]; rfl
theorem wordsL_snoc (ws : List (List UInt8 × Tok)) (q : List UInt8 × Tok) : wordsL (ws ++ [q]) = wordsL ws ++ q.1 ++ [32] := by simp [wordsL]
theorem wordsL_bound (rs : List Raw) (m k : Nat) : (wordsL ((wsOf rs m).take k)).length ≤ 183 * k := by
  have key : ∀ ws : List (List UInt8 × Tok), (∀ q ∈ ws, q.1.length ≤ 182) → (wordsL ws).length ≤ 183 * ws.length := by
    intro ws
    induction ws with
    | nil => simp [wordsL]
    | cons q ws ih =>
      intro h
      have h1 := h q (by simp)
      have h2 := ih (fun q hq => h q (by simp [hq]))
      simp only [wordsL, List.flatMap_cons, List.length_append, List.length_cons, List.length_nil] at h2 ⊢
      omega
  have := key ((wsOf rs m).take k) (fun q hq => by
    have := List.mem_of_mem_take hq
    simp only [wsOf, List.mem_map] at this
    obtain ⟨x, _, rfl⟩ := this
    exact wordT_len x)
  simp only [List.length_take] at this
  have h2 : min k (wsOf rs m).length ≤ k := Nat.min_le_left _ _
  omega
/-- Where word k begins. -/
def placeW (ws : List (List UInt8 × Tok)) (k : Nat) : Nat := (wordsL (ws.take k)).length
theorem wordsT_get (ws : List (List UInt8 × Tok)) (n k : Nat) (hk : k < ws.length) : (wordsT n ws).1[k]? = (ws[k]?).map fun q => q.2.at_ (n + placeW ws k) := by
  induction ws generalizing n k with
  | nil => simp at hk
  | cons q r ih =>
    obtain ⟨w, x⟩ := q
    cases k with
    | zero => simp [wordsT, placeW, wordsL]
    | succ k =>
      simp only [wordsT, List.getElem?_cons_succ]
      rw [ih _ _ (by simpa using hk)]
      simp [placeW, wordsL]
      congr 1
      funext q
      congr 1
      omega
/-- What the words are scanned to. -/
def scannedW (ws : List (List UInt8 × Tok)) : List Tok := (wordsT 0 ws).1 ++ [⟨5, [], 0, 0, (wordsL ws).length⟩]
theorem scannedW_len (ws : List (List UInt8 × Tok)) : (scannedW ws).length = ws.length + 1 := by simp [scannedW, wordsT_len]
theorem scannedW_get {ws : List (List UInt8 × Tok)} {k : Nat} {q : List UInt8 × Tok} (h : ws[k]? = some q) : (scannedW ws).getD k tok0 = q.2.at_ (placeW ws k) := by
  have hk : k < ws.length := by
    rcases Nat.lt_or_ge k ws.length with h' | h'
    · exact h'
    · rw [List.getElem?_eq_none h'] at h; cases h
  unfold scannedW
  rw [List.getD_eq_getElem?_getD, List.getElem?_append_left (by rw [wordsT_len]; exact hk), wordsT_get ws 0 k hk, h]
  simp
theorem scannedW_end (ws : List (List UInt8 × Tok)) : (scannedW ws).getD ws.length tok0 = ⟨5, [], 0, 0, (wordsL ws).length⟩ := by
  unfold scannedW
  rw [List.getD_eq_getElem?_getD, List.getElem?_append_right (by rw [wordsT_len]; exact Nat.le_refl _), wordsT_len]
  simp
theorem scanS_words {ws : List (List UInt8 × Tok)} (h : ∀ q ∈ ws, IsW q.1 q.2) (hl : (wordsL ws).length ≤ 20000) : scanS (wordsL ws) = .inr (scannedW ws) := by
  unfold scanS
  rw [if_neg (by omega), ← List.append_nil (wordsL ws), scan_words h, scanL_nil]
  simp [combR, scannedW, wordsT_place]
theorem RawIn.word {w : World} {b off : Nat} {x : Raw} (h : RawIn w b off x) {w' : World} (hb : Below w.heap.size w w') (hT : Dec.Tab w') :
    Calls Tryz.prog 7 #[.agg #[.int .i64 x.k, .int .i64 x.m, .int .i64 x.e, x.v]] w' (Ret (.string ⟨(wordT x).1.toArray⟩) w') :=
  word_of x w' hT h.hk h.hm h.he (h.ht.below hb) h.hc
end Go.Proofs.YtoioidafnedneaaGreatDoor.Lex
