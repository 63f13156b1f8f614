import Derived.Test.YtnpbkjmlmdpggaaKb
/- Layer 13, plain: what the laws ask: joined bases, cut checks, an order over a path's end. -/
set_option linter.unusedVariables false
set_option linter.unusedSimpArgs false
namespace Go.Proofs.Ytnpbkjmlmdpggaa.Wk
open Od Ly

/-- Two paths, the one beginning where the other ends, are one. -/
theorem LP.join {n : Int} {es : List Ed} {p q : List Int} (h : LP n es p) (h' : LP n es q) (e : pi p (p.length - 1) = pi q 0) : LP n es (p ++ q.tail) := by
  have o1 := h.odd
  have o2 := h'.odd
  have hp : 0 < p.length := by omega
  have tl : ∀ i, pi q.tail i = pi q (i + 1) := fun i => by simp [pi, List.getD_eq_getElem?_getD]
  have rt : ∀ i, p.length ≤ i → pi (p ++ q.tail) i = pi q (i - p.length + 1) := fun i hi => by
    have := pi_append_right (p := p) (q := q.tail) (i := i - p.length)
    rw [show p.length + (i - p.length) = i by omega, tl] at this
    exact this
  refine ⟨by rw [List.length_append, List.length_tail]; omega, by rw [pi_append_left hp]; exact h.head, fun j hj => ?_⟩
  rw [List.length_append, List.length_tail] at hj
  by_cases c : 2 * j + 2 < p.length
  · rw [pi_append_left (by omega), pi_append_left (by omega), pi_append_left (by omega)]
    exact h.step j c
  · obtain ⟨i, hi⟩ : ∃ i, 2 * j + 1 = p.length + 2 * i := ⟨(2 * j + 1 - p.length) / 2, by omega⟩
    obtain ⟨k, k1, k2, k3, k4⟩ := h'.step i (by omega)
    refine ⟨k, k1, ?_, ?_, ?_⟩
    · rw [rt _ (by omega), ← k2]; congr 1; omega
    · by_cases c2 : i = 0
      · subst c2
        rw [pi_append_left (by omega), k3, ← e]
        congr 1
        omega
      · rw [rt _ (by omega), k3]; congr 1; omega
    · rw [rt _ (by omega), k4]; congr 1; omega
theorem getD_take {all : List O} {n j : Nat} (h : j < n) : (all.take n).getD j o0 = all.getD j o0 := by simp [List.getD_eq_getElem?_getD, List.getElem?_take, h]
theorem begins_take {all : List O} {n i : Nat} (h : i < n) : ∀ k, k ≤ i → beginsS (all.take n) i k = beginsS all i k
  | 0, _ => rfl
  | k + 1, hk => by
    rw [beginsS, beginsS, begins_take h k (by omega)]
    unfold beginsS.default0
    rw [getD_take (by omega), getD_take (by omega), getD_take h]
theorem fine_take {nm : List UInt8 → Bool} {n : Int} {es : List Ed} {all : List O} {m i : Nat} (h : i < m) : fineS nm n es (all.take m) i = fineS nm n es all i := by
  unfold fineS
  rw [getD_take h, getD_take (by omega), getD_take (by omega), begins_take h i (Nat.le_refl _)]
/-- What Check tells of a beginning. -/
theorem check_cut {nm : List UInt8 → Bool} {n : Int} {es : List Ed} {all : List O} {m : Nat} (hm : m ≤ all.length) :
    ((checkS nm n es all < 0 ∨ (m : Int) ≤ checkS nm n es all) ∧ checkS nm n es (all.take m) < 0) ∨ (0 ≤ checkS nm n es all ∧ checkS nm n es all < m ∧ checkS nm n es (all.take m) = checkS nm n es all) := by
  have hl : (all.take m).length = m := by rw [List.length_take]; omega
  unfold checkS
  rw [hl]
  rcases checkF_spec (nm := nm) (n := n) (es := es) (all := all) all.length 0 with ⟨h1, h2⟩ | ⟨a, _, a2, a3, a4, a5⟩ <;>
    rcases checkF_spec (nm := nm) (n := n) (es := es) (all := all.take m) m 0 with ⟨g1, g2⟩ | ⟨b, _, b2, b3, b4, b5⟩
  · exact .inl ⟨.inl (by omega), by omega⟩
  · rw [fine_take (by omega), h2 b (by omega) (by omega)] at b4
    cases b4
  · refine .inl ⟨.inr ?_, by omega⟩
    rw [a3]
    rcases Nat.lt_or_ge a m with c | c
    · have := g2 a (by omega) (by omega)
      rw [fine_take c, a4] at this
      cases this
    · omega
  · refine .inr ⟨by omega, ?_, ?_⟩
    · rcases Nat.lt_or_ge a m with c | c
      · omega
      · have := a5 b (by omega) (by omega)
        rw [← fine_take (m := m) (by omega), b4] at this
        cases this
    · have : a = b := by
        rcases Nat.lt_trichotomy a b with c | c | c
        · have := b5 a (by omega) c
          rw [fine_take (by omega), a4] at this
          cases this
        · exact c
        · have := a5 b (by omega) c
          rw [← fine_take (m := m) (by omega), b4] at this
          cases this
      rw [a3, b3, this]
/-- An order over a path's end is the end of the order over all of it. -/
theorem ndL_drop (p : List Int) (q : Int) (r n k : Nat) (hk : k ≤ r) : (ndL p q r n).drop k = ndL (p.drop (2 * k)) (q + 2 * (k : Int)) ((r - k : Nat) : Int) (n - k) := by
  refine List.ext_getElem (by simp [ndL]) fun i h1 h2 => ?_
  simp only [ndL, List.getElem_drop, List.getElem_map, List.getElem_range, St.mk.injEq]
  refine ⟨?_, by omega, ?_⟩
  · rw [pi_drop]; congr 1; omega
  · rw [decide_eq_decide]; omega
theorem edL_drop (p : List Int) (q : Int) (r n k : Nat) (hk : k ≤ r) : (edL p q r n).drop k = edL (p.drop (2 * k)) (q + 2 * (k : Int)) ((r - k : Nat) : Int) (n - k) := by
  refine List.ext_getElem (by simp [edL]) fun i h1 h2 => ?_
  simp only [edL, List.getElem_drop, List.getElem_map, List.getElem_range, St.mk.injEq]
  refine ⟨?_, by omega, ?_⟩
  · rw [pi_drop]; congr 2; omega
  · rw [decide_eq_decide]; omega
/-- The base of a right order over a path of at most 127 elements. -/
theorem base_over {nm : List UInt8 → Bool} {h : Int} {v : List UInt8} {o u : Int} {p : List Int} {q : Int} {r : Nat} (hx : rightO nm (overO h v o u p q r) = true) (hodd : p.length % 2 = 1) (hl : p.length ≤ 127) (h1 : 1 ≤ r) (h2 : 2 * r ≤ p.length + 1) :
    baseS nm (overO h v o u p q r) = p.take (2 * r - 1) ∧ baseO (overO h v o u p q r) = r ∧ lastR (overO h v o u p q r) = ⟨pi p (2 * (r - 1)), q + 2 * ((r - 1 : Nat) : Int), true⟩ := by
  have e1 : min ((p.length + 1) / 2) 64 = p.length / 2 + 1 := by omega
  have e2 : min (p.length / 2) 63 = p.length / 2 := by omega
  have hk : relK (ndL p q r (p.length / 2 + 1)) = r := by rw [relK_nd]; omega
  have hb : baseO (overO h v o u p q r) = r := by
    rw [right_base hx]
    show relK (ndL p q r (min ((p.length + 1) / 2) 64)) = r
    rw [e1, hk]
  refine ⟨?_, hb, ?_⟩
  · unfold baseS
    rw [if_pos hx]
    show baseN (ndL p q r (min ((p.length + 1) / 2) 64)) (edL p q r (min (p.length / 2) 63)) (relK (ndL p q r (min ((p.length + 1) / 2) 64))) = _
    rw [e1, e2, hk]
    exact baseN_over rfl h1 (by omega) h2
  · unfold lastR
    rw [hb]
    show (ndL p q r (min ((p.length + 1) / 2) 64)).getD (r - 1) st0 = _
    rw [e1, ndL_at p q r (by omega)]
    simp
    omega
end Go.Proofs.Ytnpbkjmlmdpggaa.Wk
