import Derived.Test.YtnpbkjmlmdpggaaKa
/- Layer 13, plain: paths over a layout; what fits, what follows, what Check tells. -/
set_option linter.unusedVariables false
set_option linter.unusedSimpArgs false
namespace Go.Proofs.Ytnpbkjmlmdpggaa.Wk
open Od Ly

theorem pi_append_left {p q : List Int} {i : Nat} (h : i < p.length) : pi (p ++ q) i = pi p i := by simp [pi, List.getD_eq_getElem?_getD, List.getElem?_append_left h]
theorem pi_append_right {p q : List Int} {i : Nat} : pi (p ++ q) (p.length + i) = pi q i := by
  unfold pi
  rw [List.getD_eq_getElem?_getD, List.getElem?_append_right (by omega), List.getD_eq_getElem?_getD]
  simp
theorem pi_take {p : List Int} {k i : Nat} (h : i < k) : pi (p.take k) i = pi p i := by simp [pi, List.getD_eq_getElem?_getD, List.getElem?_take, h]
theorem pi_drop {p : List Int} {k i : Nat} : pi (p.drop k) i = pi p (k + i) := by simp [pi, List.getD_eq_getElem?_getD, List.getElem?_drop]
/-- A path over a layout's edges. -/
structure LP (n : Int) (es : List Ed) (p : List Int) : Prop where
  odd : p.length % 2 = 1
  head : 0 ≤ pi p 0 ∧ pi p 0 < n
  step : ∀ j, 2 * j + 2 < p.length → ∃ k : Nat, k < es.length ∧ pi p (2 * j + 1) = 1000 + (k : Int) ∧ (ate es k).1 = pi p (2 * j) ∧ (ate es k).2.1 = pi p (2 * j + 2)
theorem LP.one {n : Int} {es : List Ed} {a : Int} (h0 : 0 ≤ a) (h1 : a < n) : LP n es [a] := ⟨rfl, ⟨h0, h1⟩, fun j hj => by simp at hj⟩
theorem LP.snoc {n : Int} {es : List Ed} {p : List Int} (h : LP n es p) {k : Nat} (hk : k < es.length) (hf : (ate es k).1 = pi p (p.length - 1)) : LP n es (p ++ [1000 + (k : Int), (ate es k).2.1]) := by
  have ho := h.odd
  have hl : 0 < p.length := by omega
  refine ⟨by simp; omega, by rw [pi_append_left hl]; exact h.head, fun j hj => ?_⟩
  simp only [List.length_append, List.length_cons, List.length_nil] at hj
  by_cases e : 2 * j + 2 < p.length
  · rw [pi_append_left (by omega), pi_append_left (by omega), pi_append_left (by omega)]
    exact h.step j e
  · have e2 : p.length = 2 * j + 1 := by omega
    refine ⟨k, hk, ?_, ?_, ?_⟩
    · have := pi_append_right (p := p) (q := [1000 + (k : Int), (ate es k).2.1]) (i := 0)
      rw [e2] at this
      simpa [pi] using this
    · rw [pi_append_left (by omega), hf, e2]
      rfl
    · have := pi_append_right (p := p) (q := [1000 + (k : Int), (ate es k).2.1]) (i := 1)
      rw [e2] at this
      rw [show 2 * j + 2 = 2 * j + 1 + 1 from rfl, this]
      rfl
theorem LP.take {n : Int} {es : List Ed} {p : List Int} (h : LP n es p) {k : Nat} (h1 : 1 ≤ k) (h2 : 2 * k ≤ p.length + 1) : LP n es (p.take (2 * k - 1)) := by
  have hl : (p.take (2 * k - 1)).length = 2 * k - 1 := by rw [List.length_take]; omega
  refine ⟨by omega, by rw [pi_take (by omega)]; exact h.head, fun j hj => ?_⟩
  rw [hl] at hj
  rw [pi_take (by omega), pi_take (by omega), pi_take (by omega)]
  exact h.step j (by omega)
/-- Each node of a path is one of the layout. -/
theorem LP.node {n : Int} {es : List Ed} {p : List Int} (h : LP n es p) (hr : RightL n es) : ∀ j, 2 * j < p.length → 0 ≤ pi p (2 * j) ∧ pi p (2 * j) < n
  | 0, _ => h.head
  | j + 1, hj => by
    have ho := h.odd
    obtain ⟨k, hk, _, _, h2⟩ := h.step j (by omega)
    rw [show 2 * (j + 1) = 2 * j + 2 by omega, ← h2]
    exact (hr.at hk).2.1
theorem LP.drop {n : Int} {es : List Ed} {p : List Int} (h : LP n es p) (hr : RightL n es) {k : Nat} (h2 : 2 * k < p.length) : LP n es (p.drop (2 * k)) := by
  have ho := h.odd
  refine ⟨by rw [List.length_drop]; omega, by rw [pi_drop]; exact h.node hr k h2, fun j hj => ?_⟩
  rw [List.length_drop] at hj
  rw [pi_drop, pi_drop, pi_drop]
  have := h.step (k + j) (by omega)
  rw [show 2 * (k + j) + 1 = 2 * k + (2 * j + 1) by omega, show 2 * (k + j) + 2 = 2 * k + (2 * j + 2) by omega, show 2 * (k + j) = 2 * k + 2 * j by omega] at this
  exact this
theorem LP.edge {n : Int} {es : List Ed} {p : List Int} (h : LP n es p) (hr : RightL n es) {j : Nat} (hj : 2 * j + 1 < p.length) : 1000 ≤ pi p (2 * j + 1) ∧ pi p (2 * j + 1) < 1120 := by
  have ho := h.odd
  obtain ⟨k, hk, h1, _⟩ := h.step j (by omega)
  have := hr.2.2.1
  omega
theorem LP.path {n : Int} {es : List Ed} {p : List Int} (h : LP n es p) (hr : RightL n es) : pathB p = true := by
  refine pathB_iff.2 ⟨h.odd, fun i hi => ?_⟩
  unfold elB
  by_cases e : i % 2 = 0
  · obtain ⟨j, rfl⟩ : ∃ j, i = 2 * j := ⟨i / 2, by omega⟩
    have h1 := h.node hr j hi
    have h2 := hr.2.1
    rw [if_pos (by omega)]
    simp; omega
  · obtain ⟨j, rfl⟩ : ∃ j, i = 2 * j + 1 := ⟨i / 2, by omega⟩
    have h1 := h.edge hr hi
    rw [if_neg (by omega)]
    simp; omega
/-- An order over a path of a layout is right. -/
theorem LP.right {nm : List UInt8 → Bool} {n : Int} {es : List Ed} {p : List Int} (hp : LP n es p) (hl : RightL n es) {h : Int} {v : List UInt8} {o u q r : Int} (hv : nm v = true) (hh : numB h = true) (ho : numB o = true) (hu : numB u = true) (h2 : q % 2 = 0) (hr : 1 ≤ r) (q0 : 0 ≤ q) (q1 : q ≤ 999999000) :
    rightO nm (overO h v o u p q r) = true := by
  have hodd := hp.odd
  have h40 := hl.2.1
  refine over_right hv hh ho hu hodd h2 hr (fun j hj => ?_) (fun j hj => ?_) q0 q1
  · have := hp.node hl j (by omega)
    simp [numB]; omega
  · have := hp.edge hl (j := j) (by omega)
    simp [numB]; omega
/-- What Fits answers. -/
noncomputable def fitsS (nm : List UInt8 → Bool) (n : Int) (es : List Ed) (x : O) : Bool :=
  rightB n es && rightO nm x && (x.ns.all fun s => decide (s.id < n)) && (List.range x.es.length).all fun i => decide ((x.es.getD i st0).id < es.length) && (decide ((ate es (x.es.getD i st0).id.toNat).1 = (x.ns.getD i st0).id) && decide ((ate es (x.es.getD i st0).id.toNat).2.1 = (x.ns.getD (i + 1) st0).id))
theorem fits_iff {nm : List UInt8 → Bool} {n : Int} {es : List Ed} {x : O} : fitsS nm n es x = true ↔ RightL n es ∧ rightO nm x = true ∧ (∀ s ∈ x.ns, s.id < n) ∧ ∀ i, i < x.es.length → (x.es.getD i st0).id < es.length ∧ (ate es (x.es.getD i st0).id.toNat).1 = (x.ns.getD i st0).id ∧ (ate es (x.es.getD i st0).id.toNat).2.1 = (x.ns.getD (i + 1) st0).id := by
  unfold fitsS
  rw [Bool.and_eq_true, Bool.and_eq_true, Bool.and_eq_true, rightB_iff, List.all_eq_true, List.all_eq_true, and_assoc, and_assoc]
  refine and_congr_right fun _ => and_congr_right fun _ => and_congr ?_ ?_
  · exact forall_congr' fun s => imp_congr_right fun _ => decide_eq_true_iff
  · constructor
    · intro h i hi
      have := h i (List.mem_range.2 hi)
      rwa [Bool.and_eq_true, Bool.and_eq_true, decide_eq_true_iff, decide_eq_true_iff, decide_eq_true_iff] at this
    · intro h i hi
      have := h i (List.mem_range.1 hi)
      rwa [Bool.and_eq_true, Bool.and_eq_true, decide_eq_true_iff, decide_eq_true_iff, decide_eq_true_iff]
theorem LP.fits {nm : List UInt8 → Bool} {n : Int} {es : List Ed} {p : List Int} (hp : LP n es p) (hl : RightL n es) {h : Int} {v : List UInt8} {o u q r : Int} (hx : rightO nm (overO h v o u p q r) = true) : fitsS nm n es (overO h v o u p q r) = true := by
  have hodd := hp.odd
  refine fits_iff.2 ⟨hl, hx, fun s hs => ?_, fun i hi => ?_⟩
  · change s ∈ ndL _ _ _ _ at hs
    simp only [ndL, List.mem_map, List.mem_range] at hs
    obtain ⟨j, hj, rfl⟩ := hs
    exact (hp.node hl j (by omega)).2
  · change i < (edL _ _ _ _).length at hi
    rw [edL_len] at hi
    show ((edL p q r _).getD i st0).id < _ ∧ (ate es ((edL p q r _).getD i st0).id.toNat).1 = ((ndL p q r _).getD i st0).id ∧ (ate es ((edL p q r _).getD i st0).id.toNat).2.1 = ((ndL p q r _).getD (i + 1) st0).id
    rw [edL_at _ _ _ hi, ndL_at _ _ _ (by omega), ndL_at _ _ _ (by omega)]
    dsimp only
    obtain ⟨k, hk, h1, h2, h3⟩ := hp.step i (by omega)
    rw [h1, show (1000 + (k : Int) - 1000) = k by omega, Int.toNat_natCast, h2, h3]
    exact ⟨by omega, rfl, by rw [show 2 * (i + 1) = 2 * i + 2 by omega]⟩
/-- The last released stop. -/
def lastR (x : O) : St := x.ns.getD (baseO x - 1) st0
/-- What Follows answers. -/
def followsS (nm : List UInt8 → Bool) (a b : O) : Bool :=
  rightO nm a && rightO nm b && decide (a.v = b.v) && decide (a.h < b.h) && (if a.o = b.o then decide (a.u < b.u) && decide ((b.ns.headD st0).id = (lastR a).id) && decide ((b.ns.headD st0).seq = (lastR a).seq) else decide (b.u = 0))
/-- Whether an order begins at a released node of those of the number of the one ahead: i of them, from behind. -/
def beginsS (all : List O) (i : Nat) : Nat → Bool
  | 0 => false
  | k + 1 => decide ((all.getD k default0).o = (all.getD (i - 1) default0).o) && (((List.range (baseO (all.getD k default0))).any fun j => decide (((all.getD k default0).ns.getD j st0).id = ((all.getD i default0).ns.headD st0).id)) || beginsS all i k)
where default0 : O := o0
/-- Whether the order at a place is as Check wants it. -/
noncomputable def fineS (nm : List UInt8 → Bool) (n : Int) (es : List Ed) (all : List O) (i : Nat) : Bool :=
  fitsS nm n es (all.getD i o0) && (if i = 0 then decide ((all.getD 0 o0).u = 0) else followsS nm (all.getD (i - 1) o0) (all.getD i o0) && (decide ((all.getD i o0).o = (all.getD (i - 1) o0).o) || beginsS all i i))
/-- What Check answers: the first from i on, of k that are left. -/
noncomputable def checkF (nm : List UInt8 → Bool) (n : Int) (es : List Ed) (all : List O) : Nat → Nat → Int
  | _, 0 => -1
  | i, k + 1 => if fineS nm n es all i = true then checkF nm n es all (i + 1) k else (i : Int)
noncomputable def checkS (nm : List UInt8 → Bool) (n : Int) (es : List Ed) (all : List O) : Int := checkF nm n es all 0 all.length
theorem checkF_spec {nm : List UInt8 → Bool} {n : Int} {es : List Ed} {all : List O} : ∀ (k i : Nat), (checkF nm n es all i k = -1 ∧ ∀ j, i ≤ j → j < i + k → fineS nm n es all j = true) ∨ ∃ m : Nat, i ≤ m ∧ m < i + k ∧ checkF nm n es all i k = m ∧ fineS nm n es all m = false ∧ ∀ j, i ≤ j → j < m → fineS nm n es all j = true
  | 0, i => .inl ⟨rfl, fun j h1 h2 => by omega⟩
  | k + 1, i => by
    rw [checkF]
    by_cases e : fineS nm n es all i = true
    · rw [if_pos e]
      rcases checkF_spec (nm := nm) (n := n) (es := es) (all := all) k (i + 1) with ⟨h1, h2⟩ | ⟨m, h1, h2, h3, h4, h5⟩
      · refine .inl ⟨h1, fun j a b => ?_⟩
        by_cases e2 : j = i
        · subst e2; exact e
        · exact h2 j (by omega) (by omega)
      · refine .inr ⟨m, by omega, by omega, h3, h4, fun j a b => ?_⟩
        by_cases e2 : j = i
        · subst e2; exact e
        · exact h5 j (by omega) (by omega)
    · rw [if_neg e]
      exact .inr ⟨i, Nat.le_refl _, by omega, rfl, by simpa using e, fun j a b => by omega⟩
/-- In a right order what is released stands ahead. -/
theorem nodes_base : ∀ {l : List St} {q : Int} {p : Bool}, nodesB q p l = true → (l.filter (·.rel)).length = if p = true then relK l else 0
  | [], _, p, _ => by cases p <;> simp [relK]
  | x :: r, q, p, h => by
    rw [nodesB] at h
    simp only [Bool.and_eq_true] at h
    obtain ⟨_, _, _, h1, h2⟩ := h
    have ih := nodes_base h2
    unfold relK at ih ⊢
    rw [List.filter_cons, List.takeWhile_cons]
    cases hx : x.rel with
    | false =>
      rw [hx] at ih
      simp only [Bool.false_eq_true, if_false] at ih ⊢
      rw [ih]
      cases p <;> rfl
    | true =>
      rw [hx] at ih h1
      have hp : p = true := by simpa using h1
      subst hp
      simp only [if_true, List.length_cons] at ih ⊢
      rw [ih]
theorem right_base {nm : List UInt8 → Bool} {x : O} (h : rightO nm x = true) : baseO x = relK x.ns := by
  unfold rightO at h
  simp only [Bool.and_eq_true] at h
  have h1 := nodes_base h.2.2.2.2.2.2.2.2.2.1
  rw [if_pos rfl] at h1
  exact h1
end Go.Proofs.Ytnpbkjmlmdpggaa.Wk
