import GoSem.ClaimData
/- Layouts, ways in them, and what is picked out of rising numbers: plain lists. -/
set_option linter.unusedVariables false
set_option linter.unusedSimpArgs false
namespace Go.Proofs.Ytnpbkjmlmdpggaa.Ly

/-- An edge: from, to, cost. -/
abbrev Ed := Int × Int × Int
def ate (l : List Ed) (i : Nat) : Ed := l.getD i (0, 0, 0)
theorem ate_lt {l : List Ed} {i : Nat} (h : i < l.length) : ate l i = l[i] := by simp [ate, h]
theorem ate_mem {l : List Ed} {i : Nat} (h : i < l.length) : ate l i ∈ l := by rw [ate_lt h]; exact List.getElem_mem h
theorem mem_ate {l : List Ed} {e : Ed} (h : e ∈ l) : ∃ i, i < l.length ∧ ate l i = e := by
  obtain ⟨i, hi, rfl⟩ := List.mem_iff_getElem.1 h
  exact ⟨i, hi, ate_lt hi⟩
theorem ate_append_left {l m : List Ed} {i : Nat} (h : i < l.length) : ate (l ++ m) i = ate l i := by
  unfold ate
  rw [List.getD_eq_getElem?_getD, List.getD_eq_getElem?_getD, List.getElem?_append_left h]
theorem ate_append_here (l : List Ed) (e : Ed) : ate (l ++ [e]) l.length = e := by simp [ate]

def EdgeOk (n : Int) (e : Ed) : Prop := (0 ≤ e.1 ∧ e.1 < n) ∧ (0 ≤ e.2.1 ∧ e.2.1 < n) ∧ e.1 ≠ e.2.1 ∧ 1 ≤ e.2.2 ∧ e.2.2 ≤ 1000
def Same (a b : Ed) : Prop := a.1 = b.1 ∧ a.2.1 = b.2.1
def RightTo (n : Int) (es : List Ed) (k : Nat) : Prop := ∀ i, i < k → EdgeOk n (ate es i) ∧ ∀ j, j < i → ¬ Same (ate es j) (ate es i)
def RightL (n : Int) (es : List Ed) : Prop := 1 ≤ n ∧ n ≤ 40 ∧ es.length ≤ 120 ∧ RightTo n es es.length
noncomputable def rightB (n : Int) (es : List Ed) : Bool := @decide (RightL n es) (Classical.propDecidable _)
theorem rightB_iff {n : Int} {es : List Ed} : rightB n es = true ↔ RightL n es := by
  unfold rightB
  exact @decide_eq_true_iff _ (Classical.propDecidable _)
theorem rightB_true {n : Int} {es : List Ed} (h : RightL n es) : rightB n es = true := rightB_iff.2 h
theorem rightB_false {n : Int} {es : List Ed} (h : ¬ RightL n es) : rightB n es = false := by
  rw [← Bool.not_eq_true, rightB_iff]
  exact h
theorem RightTo.zero (n : Int) (es : List Ed) : RightTo n es 0 := fun i h => absurd h (by omega)
theorem RightTo.succ {n : Int} {es : List Ed} {k : Nat} (h : RightTo n es k) (h1 : EdgeOk n (ate es k)) (h2 : ∀ j, j < k → ¬ Same (ate es j) (ate es k)) : RightTo n es (k + 1) := fun i hi => by
  by_cases e : i = k
  · subst e; exact ⟨h1, h2⟩
  · exact h i (by omega)
theorem RightTo.not {n : Int} {es : List Ed} {k : Nat} (hk : k < es.length) (h : ¬ EdgeOk n (ate es k) ∨ ∃ j, j < k ∧ Same (ate es j) (ate es k)) : ¬ RightL n es := fun ⟨_, _, _, hr⟩ => by
  have := hr k hk
  rcases h with h | ⟨j, hj, h⟩
  · exact h this.1
  · exact this.2 j hj h
theorem RightL.edge {n : Int} {es : List Ed} (h : RightL n es) {e : Ed} (he : e ∈ es) : EdgeOk n e := by
  obtain ⟨i, hi, rfl⟩ := mem_ate he
  exact (h.2.2.2 i hi).1
theorem RightL.at {n : Int} {es : List Ed} (h : RightL n es) {i : Nat} (hi : i < es.length) : EdgeOk n (ate es i) := (h.2.2.2 i hi).1

/-- A node that one comes to, past none that is blocked. -/
inductive Way (es : List Ed) (bl : List Int) (a : Int) : Int → Prop
  | here : Way es bl a a
  | over {e : Ed} : e ∈ es → Way es bl a e.1 → e.2.1 ∉ bl → Way es bl a e.2.1
noncomputable def wayB (es : List Ed) (bl : List Int) (a v : Int) : Bool := @decide (Way es bl a v) (Classical.propDecidable _)
theorem wayB_iff {es : List Ed} {bl : List Int} {a v : Int} : wayB es bl a v = true ↔ Way es bl a v := by
  unfold wayB
  exact @decide_eq_true_iff _ (Classical.propDecidable _)
theorem Way.trans {es : List Ed} {bl : List Int} {a b c : Int} (h : Way es bl a b) (k : Way es bl b c) : Way es bl a c := by
  induction k with
  | here => exact h
  | over he _ hb ih => exact .over he ih hb
theorem Way.mono {es : List Ed} {bl bm : List Int} {a v : Int} (hs : ∀ x, x ∈ bl → x ∈ bm) (h : Way es bm a v) : Way es bl a v := by
  induction h with
  | here => exact .here
  | over he _ hb ih => exact .over he ih (fun x => hb (hs _ x))
/-- What one does not come to may be blocked besides. -/
theorem Way.more {es : List Ed} {bl : List Int} {a k v : Int} (hk : ¬ Way es bl a k) (h : Way es bl a v) : Way es (bl ++ [k]) a v := by
  induction h with
  | here => exact .here
  | over he hw hb ih =>
    refine .over he ih (fun x => ?_)
    rcases List.mem_append.1 x with x | x
    · exact hb x
    · rw [List.mem_singleton] at x
      exact hk (x ▸ .over he hw hb)
theorem Way.unblocked {es : List Ed} {bl : List Int} {a v : Int} (h : Way es bl a v) : v = a ∨ v ∉ bl := by
  cases h with
  | here => exact .inl rfl
  | over he hw hb => exact .inr hb
/-- All edges turned about. -/
def turn (es : List Ed) : List Ed := es.map fun e => (e.2.1, e.1, e.2.2)
theorem length_turn (es : List Ed) : (turn es).length = es.length := by simp [turn]
theorem ate_turn {es : List Ed} {i : Nat} (h : i < es.length) : ate (turn es) i = ((ate es i).2.1, (ate es i).1, (ate es i).2.2) := by
  rw [ate_lt (by simpa [turn] using h), ate_lt h]
  simp [turn]
theorem turn_turn (es : List Ed) : turn (turn es) = es := by
  unfold turn
  rw [List.map_map]
  exact (List.map_congr_left (g := id) fun e _ => rfl).trans (List.map_id _)
theorem Way.turned {es : List Ed} {a v : Int} (h : Way es [] a v) : Way (turn es) [] v a := by
  induction h with
  | here => exact .here
  | @over e he hw _ ih =>
    have h1 : Way (turn es) [] e.2.1 e.1 := .over (e := (e.2.1, e.1, e.2.2)) (List.mem_map.2 ⟨e, he, rfl⟩) .here (by simp)
    exact h1.trans ih
theorem way_turn {es : List Ed} {a v : Int} : Way (turn es) [] v a ↔ Way es [] a v :=
  ⟨fun h => by have := h.turned; rwa [turn_turn] at this, fun h => h.turned⟩
theorem RightL.turned {n : Int} {es : List Ed} (h : RightL n es) : RightL n (turn es) := by
  obtain ⟨h1, h2, h3, h4⟩ := h
  refine ⟨h1, h2, by rwa [length_turn], fun i hi => ?_⟩
  rw [length_turn] at hi
  obtain ⟨⟨ha, hb, hc, hd, he⟩, hs⟩ := h4 i hi
  rw [ate_turn hi]
  refine ⟨⟨hb, ha, fun e => hc e.symm, hd, he⟩, fun j hj hx => hs j hj ?_⟩
  rw [ate_turn (by omega)] at hx
  exact ⟨hx.2, hx.1⟩

/-- What one has come to, by rows of bools. -/
def atb (c : List Bool) (i : Nat) : Bool := c.getD i false
theorem atb_set {c : List Bool} {i : Nat} (h : i < c.length) (j : Nat) : atb (c.set i true) j = if j = i then true else atb c j := by
  unfold atb
  rw [List.getD_eq_getElem?_getD, List.getElem?_set]
  by_cases e : i = j
  · subst e; simp [h]
  · rw [if_neg e, if_neg (fun x => e x.symm), List.getD_eq_getElem?_getD]
theorem atb_lt {c : List Bool} {i : Nat} (h : atb c i = true) : i < c.length := by
  unfold atb at h
  by_cases x : i < c.length
  · exact x
  · rw [List.getD_eq_getElem?_getD, List.getElem?_eq_none (by omega)] at h
    simp at h
def fls (c : List Bool) : Nat := c.count false
theorem fls_set : ∀ {c : List Bool} {i : Nat}, i < c.length → atb c i = false → fls (c.set i true) + 1 = fls c
  | [], i, h, _ => by simp at h
  | x :: r, 0, h, hx => by
    have : x = false := by simpa [atb] using hx
    subst this
    simp [fls]
  | x :: r, i + 1, h, hx => by
    have := fls_set (c := r) (i := i) (by simpa using h) (by simpa [atb] using hx)
    rw [List.set_cons_succ]
    unfold fls at this ⊢
    rw [List.count_cons, List.count_cons]
    omega
theorem atb_rep (m i : Nat) : atb (List.replicate m false) i = false := by
  unfold atb
  rw [List.getD_eq_getElem?_getD, List.getElem?_replicate]
  split <;> rfl

/-- All that is marked one comes to; where one begins is marked. -/
structure Sound (es : List Ed) (bl : List Int) (a : Int) (c : List Bool) : Prop where
  way : ∀ i : Nat, atb c i = true → Way es bl a i
  here : atb c a.toNat = true
def ShutE (bl : List Int) (c : List Bool) (e : Ed) : Prop := atb c e.1.toNat = true → e.2.1 ∉ bl → atb c e.2.1.toNat = true
def ShutTo (es : List Ed) (bl : List Int) (c : List Bool) (k : Nat) : Prop := ∀ i, i < k → ShutE bl c (ate es i)
theorem Sound.set {es : List Ed} {bl : List Int} {a : Int} {c : List Bool} (h : Sound es bl a c) {e : Ed} (he : e ∈ es) (h0 : 0 ≤ e.1) (h1 : 0 ≤ e.2.1) (hl : e.2.1.toNat < c.length)
    (hf : atb c e.1.toNat = true) (hb : e.2.1 ∉ bl) : Sound es bl a (c.set e.2.1.toNat true) := by
  refine ⟨fun i hi => ?_, ?_⟩
  · rw [atb_set hl] at hi
    by_cases x : i = e.2.1.toNat
    · have hw := h.way _ hf
      rw [Int.toNat_of_nonneg h0] at hw
      have := Way.over he hw hb
      rw [x, Int.toNat_of_nonneg h1]
      exact this
    · rw [if_neg x] at hi
      exact h.way i hi
  · rw [atb_set hl]
    split
    · rfl
    · exact h.here
theorem Sound.begin {es : List Ed} {bl : List Int} {a : Int} {m : Nat} (h0 : 0 ≤ a) (hm : a.toNat < m) : Sound es bl a ((List.replicate m false).set a.toNat true) := by
  refine ⟨fun i hi => ?_, ?_⟩
  · rw [atb_set (by simpa using hm), atb_rep] at hi
    by_cases x : i = a.toNat
    · rw [x, Int.toNat_of_nonneg h0]; exact .here
    · rw [if_neg x] at hi; cases hi
  · rw [atb_set (by simpa using hm), if_pos rfl]
/-- What is marked, when all is shut, is what one comes to. -/
theorem Sound.iff {n : Int} {es : List Ed} {bl : List Int} {a : Int} {c : List Bool} (h : Sound es bl a c) (hr : RightL n es) (hs : ShutTo es bl c es.length) (ha : 0 ≤ a) (i : Nat) : atb c i = true ↔ Way es bl a i := by
  have key : ∀ v, Way es bl a v → atb c v.toNat = true := fun v hv => by
    induction hv with
    | here => exact h.here
    | @over e he _ hb ih =>
      obtain ⟨k, hk, rfl⟩ := mem_ate he
      exact hs k hk ih hb
  exact ⟨h.way i, fun hw => by simpa using key _ hw⟩
theorem Sound.eqB {n : Int} {es : List Ed} {bl : List Int} {a : Int} {c : List Bool} (h : Sound es bl a c) (hr : RightL n es) (hs : ShutTo es bl c es.length) (ha : 0 ≤ a) (i : Nat) : atb c i = wayB es bl a i := by
  rw [Bool.eq_iff_iff, wayB_iff]
  exact h.iff hr hs ha i

/-- Rising numbers of which something is true. -/
def selL (p : Nat → Bool) (k : Nat) : List Int := ((List.range k).filter p).map fun (i : Nat) => (i : Int)
theorem selL_zero (p : Nat → Bool) : selL p 0 = [] := rfl
theorem selL_yes {p : Nat → Bool} {k : Nat} (h : p k = true) : selL p (k + 1) = selL p k ++ [(k : Int)] := by
  simp [selL, List.range_succ, List.filter_append, h]
theorem selL_no {p : Nat → Bool} {k : Nat} (h : p k = false) : selL p (k + 1) = selL p k := by
  simp [selL, List.range_succ, List.filter_append, h]
theorem selL_congr {p q : Nat → Bool} {k : Nat} (h : ∀ i, i < k → p i = q i) : selL p k = selL q k := by
  unfold selL
  rw [List.filter_congr fun i hi => h i (List.mem_range.1 hi)]
theorem mem_selL {p : Nat → Bool} {k : Nat} {v : Int} : v ∈ selL p k ↔ 0 ≤ v ∧ v.toNat < k ∧ p v.toNat = true := by
  unfold selL
  rw [List.mem_map]
  constructor
  · rintro ⟨i, hi, rfl⟩
    rw [List.mem_filter, List.mem_range] at hi
    simpa using hi
  · rintro ⟨h0, h1, h2⟩
    exact ⟨v.toNat, List.mem_filter.2 ⟨List.mem_range.2 h1, h2⟩, Int.toNat_of_nonneg h0⟩
theorem selL_le (p : Nat → Bool) (k : Nat) : (selL p k).length ≤ k := by
  unfold selL
  rw [List.length_map]
  exact Nat.le_trans (List.length_filter_le _ _) (by simp)
theorem selL_full {p : Nat → Bool} {k : Nat} : (selL p k).length = k ↔ ∀ i, i < k → p i = true := by
  have : (selL p k).length = ((List.range k).filter p).length := by simp [selL]
  rw [this]
  constructor
  · intro h i hi
    have h2 : ((List.range k).filter p).length = (List.range k).length := by simpa using h
    exact List.length_filter_eq_length_iff.1 h2 i (List.mem_range.2 hi)
  · intro h
    have : (List.range k).filter p = List.range k := List.filter_eq_self.2 fun i hi => h i (List.mem_range.1 hi)
    rw [this]; simp
def ati (l : List Int) (i : Nat) : Int := l.getD i 0
theorem ati_lt {l : List Int} {i : Nat} (h : i < l.length) : ati l i = l[i] := by simp [ati, h]
theorem ati_mem {l : List Int} {i : Nat} (h : i < l.length) : ati l i ∈ l := by rw [ati_lt h]; exact List.getElem_mem h
theorem selL_asc {p : Nat → Bool} {k i j : Nat} (hij : i < j) (hj : j < (selL p k).length) : ati (selL p k) i < ati (selL p k) j := by
  rw [ati_lt (by omega), ati_lt hj]
  have : (selL p k).Pairwise (· < ·) := by
    unfold selL
    rw [List.pairwise_map]
    have := (List.pairwise_lt_range (n := k)).filter p
    exact this.imp fun h => by omega
  exact List.pairwise_iff_getElem.1 this i j (by omega) hj hij

/-- The edges out of a node; the edge between two; what one comes to; strong. -/
noncomputable def outL (n : Int) (es : List Ed) (v : Int) : List Int := if rightB n es then selL (fun i => decide ((ate es i).1 = v)) es.length else []
def hitB (es : List Ed) (f t : Int) (i : Nat) : Bool := decide ((ate es i).1 = f) && decide ((ate es i).2.1 = t)
def firstB (p : Nat → Bool) : Nat → Nat → Option Nat
  | _, 0 => none
  | i, k + 1 => if p i then some i else firstB p (i + 1) k
theorem firstB_none {p : Nat → Bool} : ∀ {k i : Nat}, (∀ j, i ≤ j → j < i + k → p j = false) → firstB p i k = none
  | 0, i, h => rfl
  | k + 1, i, h => by
    rw [firstB, if_neg (by rw [h i (by omega) (by omega)]; simp)]
    exact firstB_none fun j h1 h2 => h j (by omega) (by omega)
theorem firstB_some {p : Nat → Bool} : ∀ {k i m : Nat}, i ≤ m → m < i + k → p m = true → (∀ j, i ≤ j → j < m → p j = false) → firstB p i k = some m
  | 0, i, m, h1, h2, _, _ => by omega
  | k + 1, i, m, h1, h2, hm, h => by
    rw [firstB]
    by_cases e : i = m
    · subst e; rw [if_pos hm]
    · rw [if_neg (by rw [h i (by omega) (by omega)]; simp)]
      exact firstB_some (by omega) (by omega) hm fun j h3 h4 => h j (by omega) h4
def betw (es : List Ed) (f t : Int) : Int × Bool := match firstB (hitB es f t) 0 es.length with
  | some i => ((i : Int), true)
  | none => (0, false)
noncomputable def betL (n : Int) (es : List Ed) (f t : Int) : Int × Bool := if rightB n es then betw es f t else (0, false)
theorem betw_some {es : List Ed} {f t : Int} {m : Nat} (hm : m < es.length) (h : hitB es f t m = true) (h2 : ∀ j, j < m → hitB es f t j = false) : betw es f t = ((m : Int), true) := by
  unfold betw
  rw [firstB_some (Nat.zero_le _) (by omega) h fun j _ hj => h2 j hj]
theorem betw_none {es : List Ed} {f t : Int} (h2 : ∀ j, j < es.length → hitB es f t j = false) : betw es f t = (0, false) := by
  unfold betw
  rw [firstB_none fun j _ hj => h2 j (by omega)]
def nodeB (n a : Int) : Bool := decide (0 ≤ a) && decide (a < n)
noncomputable def reachL (n : Int) (es : List Ed) (bl : List Int) (a : Int) : List Int := if rightB n es && nodeB n a then selL (fun v => wayB es bl a v) n.toNat else []
def StrongL (n : Int) (es : List Ed) : Prop := RightL n es ∧ ∀ a : Nat, a < n.toNat → ∀ v : Nat, v < n.toNat → Way es [] a v
noncomputable def strongB (n : Int) (es : List Ed) : Bool := @decide (StrongL n es) (Classical.propDecidable _)
theorem strongB_iff {n : Int} {es : List Ed} : strongB n es = true ↔ StrongL n es := by
  unfold strongB
  exact @decide_eq_true_iff _ (Classical.propDecidable _)
theorem strongB_true {n : Int} {es : List Ed} (h : StrongL n es) : strongB n es = true := strongB_iff.2 h
theorem strongB_false {n : Int} {es : List Ed} (h : ¬ StrongL n es) : strongB n es = false := by
  rw [← Bool.not_eq_true, strongB_iff]
  exact h
end Go.Proofs.Ytnpbkjmlmdpggaa.Ly
