import Derived.Test.YtkmiemaigalgpaaRb
/- The cells of items that lie in memory, as one list; what is appended to none of them. -/
set_option linter.unusedVariables false
set_option linter.unusedSimpArgs false
namespace Go.Proofs.Ytkmiemaigalgpaa.Js
open Go.RowKit Lex

theorem flat_cells (w : World) (b : Nat) : ∀ (us : List Value) (off : Nat), (∀ i, i < us.length → (aggC (us.getD i undef)).length = 6 ∧ LiesAt w b (off + i * 6) (us.getD i undef)) →
    (us.flatMap aggC).length = us.length * 6 ∧ ∀ j u, (us.flatMap aggC)[j]? = some u → w.cell? ⟨b, off + j, none⟩ = some u
  | [], off, _ => ⟨rfl, fun j u h => by simp at h⟩
  | v :: r, off, h => by
    obtain ⟨h6, hl⟩ := h 0 (by simp)
    have e0 : (v :: r).getD 0 undef = v := rfl
    rw [e0] at h6 hl
    obtain ⟨ih1, ih2⟩ := flat_cells w b r (off + 6) (fun i hi => by
      have := h (i + 1) (by simpa using hi)
      have e1 : (v :: r).getD (i + 1) undef = r.getD i undef := by simp
      rw [e1, show off + (i + 1) * 6 = off + 6 + i * 6 by omega] at this
      exact this)
    refine ⟨by rw [List.flatMap_cons, List.length_append, ih1, h6, List.length_cons]; omega, fun j u hj => ?_⟩
    rw [List.flatMap_cons, List.getElem?_append] at hj
    split at hj
    · have := hl j u hj
      rwa [show off + 0 * 6 + j = off + j by omega] at this
    · rw [h6] at hj
      have h7 : 6 ≤ j := by omega
      have := ih2 (j - 6) u hj
      rwa [show off + 6 + (j - 6) = off + j by omega] at this
theorem items_cells {S : Nat → Prop} {w : World} {d b off : Nat} {is : List J} (h : ∀ i, i < is.length → ∃ u, LiesAt w b (off + i * 6) u ∧ JAt S w d u (is.getD i j0)) :
    ∃ us : List Value, us.length = is.length ∧ (∀ i, i < is.length → JAt S w d (us.getD i undef) (is.getD i j0)) ∧ (us.flatMap aggC).length = is.length * 6 ∧ (∀ j u, (us.flatMap aggC)[j]? = some u → w.cell? ⟨b, off + j, none⟩ = some u) ∧ ∀ u ∈ us.flatMap aggC, u.oneCell' = true := by
  have hx : ∃ us : List Value, us.length = is.length ∧ ∀ i, i < is.length → LiesAt w b (off + i * 6) (us.getD i undef) ∧ JAt S w d (us.getD i undef) (is.getD i j0) := by
    have : ∀ n, n ≤ is.length → ∃ us : List Value, us.length = n ∧ ∀ i, i < n → LiesAt w b (off + i * 6) (us.getD i undef) ∧ JAt S w d (us.getD i undef) (is.getD i j0) := by
      intro n
      induction n with
      | zero => exact fun _ => ⟨[], rfl, fun i hi => by omega⟩
      | succ n ih =>
        intro hn
        obtain ⟨us, h1, h2⟩ := ih (by omega)
        obtain ⟨u, q1, q2⟩ := h n (by omega)
        refine ⟨us ++ [u], by simp [h1], fun i hi => ?_⟩
        by_cases e : i < n
        · rw [List.getD_eq_getElem?_getD, List.getElem?_append_left (by omega), ← List.getD_eq_getElem?_getD]
          exact h2 i e
        · obtain rfl : i = n := by omega
          have : (us ++ [u]).getD i undef = u := by rw [List.getD_eq_getElem?_getD, List.getElem?_append_right (by omega), h1]; simp
          rw [this]
          exact ⟨q1, q2⟩
    exact this _ (Nat.le_refl _)
  obtain ⟨us, h1, h2⟩ := hx
  have h6 : ∀ i, i < us.length → (aggC (us.getD i undef)).length = 6 ∧ LiesAt w b (off + i * 6) (us.getD i undef) := fun i hi => by
    obtain ⟨q1, q2⟩ := h2 i (by omega)
    obtain ⟨k, m, e, t, an, nn, cn, ai, ni, ci, e1⟩ := jAt_form q2
    exact ⟨by rw [e1]; rfl, q1⟩
  obtain ⟨f1, f2⟩ := flat_cells w b us off h6
  refine ⟨us, h1, fun i hi => (h2 i hi).2, by rw [f1, h1], f2, fun u hu => ?_⟩
  obtain ⟨v, hv, hu⟩ := List.mem_flatMap.1 hu
  obtain ⟨i, hi, rfl⟩ := List.mem_iff_getElem.1 hv
  obtain ⟨k, m, e, t, an, nn, cn, ai, ni, ci, e1⟩ := jAt_form (h2 i (by omega)).2
  rw [List.getD_eq_getElem?_getD, List.getElem?_eq_getElem hi] at e1
  simp only [Option.getD_some] at e1
  rw [e1] at hu
  simp [aggC] at hu
  rcases hu with rfl | rfl | rfl | rfl | rfl | rfl <;> rfl
end Go.Proofs.Ytkmiemaigalgpaa.Js
