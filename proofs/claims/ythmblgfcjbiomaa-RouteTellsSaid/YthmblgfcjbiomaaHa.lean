import GoSem.ClaimData
/- Pairs in order, lists that are piles, and what rising and sinking leave: plain lists. -/
set_option linter.unusedVariables false
set_option linter.unusedSimpArgs false
namespace Go.Proofs.Ythmblgfcjbiomaa.Hp

abbrev Pr := Int × Int
/-- By its key, then by its thing. -/
def ltP (p q : Pr) : Bool := decide (p.1 < q.1) || (decide (p.1 = q.1) && decide (p.2 < q.2))
def LeP (p q : Pr) : Prop := ltP q p = false
theorem ltP_iff {p q : Pr} : ltP p q = true ↔ p.1 < q.1 ∨ (p.1 = q.1 ∧ p.2 < q.2) := by simp [ltP]
theorem LeP_iff {p q : Pr} : LeP p q ↔ p.1 < q.1 ∨ (p.1 = q.1 ∧ p.2 ≤ q.2) := by
  unfold LeP
  rw [← Bool.not_eq_true, ltP_iff]
  omega
theorem LeP.refl (p : Pr) : LeP p p := LeP_iff.2 (by omega)
theorem LeP.trans {p q r : Pr} (h : LeP p q) (k : LeP q r) : LeP p r := by
  rw [LeP_iff] at *
  omega
theorem LeP.total (p q : Pr) : LeP p q ∨ LeP q p := by
  rw [LeP_iff, LeP_iff]
  omega
theorem LeP.anti {p q : Pr} (h : LeP p q) (k : LeP q p) : p = q := by
  rw [LeP_iff] at *
  exact Prod.ext (by omega) (by omega)
theorem le_of_lt {p q : Pr} (h : ltP p q = true) : LeP p q := by
  rw [ltP_iff] at h
  rw [LeP_iff]
  omega

def at' (l : List Pr) (i : Nat) : Pr := l.getD i (0, 0)
theorem at_lt {l : List Pr} {i : Nat} (h : i < l.length) : at' l i = l[i] := by simp [at', h]
def swapL (l : List Pr) (a b : Nat) : List Pr := (l.set a (at' l b)).set b (at' l a)
@[simp] theorem length_swapL (l : List Pr) (a b : Nat) : (swapL l a b).length = l.length := by simp [swapL]
theorem at_set {l : List Pr} {a : Nat} (ha : a < l.length) (x : Pr) (i : Nat) : at' (l.set a x) i = if i = a then x else at' l i := by
  unfold at'
  rw [List.getD_eq_getElem?_getD, List.getElem?_set]
  by_cases e : a = i
  · subst e
    simp [ha]
  · rw [if_neg e, if_neg (fun x => e x.symm), List.getD_eq_getElem?_getD]
theorem at_swap {l : List Pr} {a b : Nat} (ha : a < l.length) (hb : b < l.length) (i : Nat) : at' (swapL l a b) i = if i = b then at' l a else if i = a then at' l b else at' l i := by
  unfold swapL
  rw [at_set (by simpa using hb), at_set ha]
theorem perm_swap {l : List Pr} {a b : Nat} (ha : a < l.length) (hb : b < l.length) : (swapL l a b).Perm l := by
  rw [List.perm_iff_count]
  intro p
  unfold swapL
  by_cases e : a = b
  · subst e
    rw [List.set_set, at_lt ha]
    simp
  · have h1 : (l.set a (at' l b))[b]'(by simpa using hb) = l[b] := by rw [List.getElem_set, if_neg e]
    have ca : l[a] = p → 0 < l.count p := fun h => List.count_pos_iff.2 (h ▸ List.getElem_mem ha)
    have cb : l[b] = p → 0 < l.count p := fun h => List.count_pos_iff.2 (h ▸ List.getElem_mem hb)
    rw [List.count_set (by simpa using hb), List.count_set ha, h1, at_lt ha, at_lt hb]
    simp only [beq_iff_eq]
    by_cases x : l[a] = p
    · have := ca x
      rw [if_pos x]
      by_cases y : l[b] = p
      · rw [if_pos y]; omega
      · rw [if_neg y]; omega
    · rw [if_neg x]
      by_cases y : l[b] = p
      · have := cb y
        rw [if_pos y]
        omega
      · rw [if_neg y]
        omega

/-- No entry is less than the one above it. -/
def Pile (l : List Pr) : Prop := ∀ i, 0 < i → i < l.length → LeP (at' l ((i - 1) / 2)) (at' l i)
/-- A pile but for the entry at a place, which may be less than those above. -/
def Up (l : List Pr) (p : Nat) : Prop := (∀ i, 0 < i → i < l.length → i ≠ p → LeP (at' l ((i - 1) / 2)) (at' l i)) ∧
  (∀ i, 0 < i → i < l.length → (i - 1) / 2 = p → 0 < p → LeP (at' l ((p - 1) / 2)) (at' l i))
/-- A pile but for the entry at a place, which may be greater than those below. -/
def Down (l : List Pr) (p : Nat) : Prop := (∀ i, 0 < i → i < l.length → (i - 1) / 2 ≠ p → LeP (at' l ((i - 1) / 2)) (at' l i)) ∧
  (∀ i, 0 < i → i < l.length → (i - 1) / 2 = p → 0 < p → LeP (at' l ((p - 1) / 2)) (at' l i))

theorem Up.done {l : List Pr} {p : Nat} (h : Up l p) (hp : p < l.length) (hd : 0 < p → ltP (at' l p) (at' l ((p - 1) / 2)) = false) : Pile l := by
  intro i h0 hi
  by_cases e : i = p
  · subst e
    exact hd h0
  · exact h.1 i h0 hi e
theorem Up.step {l : List Pr} {p : Nat} (h : Up l p) (hp : p < l.length) (h0 : 0 < p) (hlt : ltP (at' l p) (at' l ((p - 1) / 2)) = true) : Up (swapL l p ((p - 1) / 2)) ((p - 1) / 2) := by
  have hq : (p - 1) / 2 < l.length := by omega
  have hle := le_of_lt hlt
  refine ⟨fun i hi hl hne => ?_, fun i hi hl hpa hq0 => ?_⟩
  · rw [length_swapL] at hl
    rw [at_swap hp hq, at_swap hp hq, if_neg hne]
    by_cases e : i = p
    · subst e
      simp only [if_true]
      exact hle
    · rw [if_neg e]
      by_cases e1 : (i - 1) / 2 = (p - 1) / 2
      · rw [if_pos e1]
        have := h.1 i hi hl e
        rw [e1] at this
        exact hle.trans this
      · rw [if_neg e1]
        by_cases e2 : (i - 1) / 2 = p
        · rw [if_pos e2]
          exact h.2 i hi hl e2 h0
        · rw [if_neg e2]
          exact h.1 i hi hl e
  · rw [length_swapL] at hl
    have k1 := h.1 ((p - 1) / 2) hq0 hq (by omega)
    rw [at_swap hp hq, at_swap hp hq, if_neg (by omega), if_neg (by omega), if_neg (by omega)]
    by_cases e : i = p
    · rw [if_pos e]
      exact k1
    · rw [if_neg e]
      have := h.1 i hi hl e
      rw [hpa] at this
      exact k1.trans this
theorem Down.done {l : List Pr} {p : Nat} (h : Down l p) (hd : ∀ i, 0 < i → i < l.length → (i - 1) / 2 = p → LeP (at' l p) (at' l i)) : Pile l := by
  intro i h0 hi
  by_cases e : (i - 1) / 2 = p
  · rw [e]
    exact hd i h0 hi e
  · exact h.1 i h0 hi e
theorem Down.step {l : List Pr} {p q : Nat} (h : Down l p) (hq0 : 0 < q) (hq : q < l.length) (hpq : (q - 1) / 2 = p) (hmin : ∀ i, 0 < i → i < l.length → (i - 1) / 2 = p → LeP (at' l q) (at' l i)) (hle : LeP (at' l q) (at' l p)) : Down (swapL l p q) q := by
  have hp : p < l.length := by omega
  refine ⟨fun i hi hl hne => ?_, fun i hi hl hpa hq0' => ?_⟩
  · rw [length_swapL] at hl
    rw [at_swap hp hq, at_swap hp hq, if_neg hne]
    by_cases e : i = q
    · subst e
      rw [if_pos hpq, if_pos rfl]
      exact hle
    · rw [if_neg e]
      by_cases e1 : (i - 1) / 2 = p
      · rw [if_pos e1, if_neg (by omega)]
        exact hmin i hi hl e1
      · rw [if_neg e1]
        by_cases e2 : i = p
        · subst e2
          rw [if_pos rfl]
          exact h.2 q hq0 hq hpq hi
        · rw [if_neg e2]
          exact h.1 i hi hl e1
  · rw [length_swapL] at hl
    rw [at_swap hp hq, at_swap hp hq, if_neg (by omega), if_pos hpq, if_neg (by omega), if_neg (by omega)]
    have := h.1 i hi hl (by omega)
    rw [hpa] at this
    exact this
theorem Pile.least {l : List Pr} (h : Pile l) : ∀ (i : Nat), i < l.length → LeP (at' l 0) (at' l i) := by
  intro i
  induction i using Nat.strongRecOn with
  | ind i ih =>
    intro hi
    by_cases e : i = 0
    · subst e
      exact LeP.refl _
    · exact (ih ((i - 1) / 2) (by omega) (by omega)).trans (h i (by omega) hi)
theorem at_append_left {l m : List Pr} {i : Nat} (h : i < l.length) : at' (l ++ m) i = at' l i := by
  rw [at_lt h, at_lt (by simp; omega), List.getElem_append_left h]
theorem Pile.push {l : List Pr} (h : Pile l) (x : Pr) : Up (l ++ [x]) l.length := by
  refine ⟨fun i hi hl hne => ?_, fun i hi hl hpa h0 => ?_⟩
  · have : i < l.length := by simp at hl; omega
    rw [at_append_left this, at_append_left (by omega)]
    exact h i hi this
  · simp at hl
    omega
/-- The first and the last one change places, and the last one goes. -/
def cutL (l : List Pr) : List Pr := (swapL l 0 (l.length - 1)).take (l.length - 1)
theorem length_cutL (l : List Pr) : (cutL l).length = l.length - 1 := by simp [cutL]
theorem at_take {l : List Pr} {n i : Nat} (h : i < n) : at' (l.take n) i = at' l i := by
  simp [at', List.getD_eq_getElem?_getD, List.getElem?_take, h]
theorem Pile.cut {l : List Pr} (h : Pile l) : Down (cutL l) 0 := by
  refine ⟨fun i hi hl hne => ?_, fun i _ _ _ h0 => absurd h0 (by omega)⟩
  rw [length_cutL] at hl
  unfold cutL
  rw [at_take hl, at_take (by omega), at_swap (by omega) (by omega), at_swap (by omega) (by omega), if_neg (by omega), if_neg (by omega), if_neg (by omega), if_neg (by omega)]
  exact h i hi (by omega)
theorem perm_cut {l : List Pr} (h : 0 < l.length) : l.Perm (at' l 0 :: cutL l) := by
  have h1 := (perm_swap (l := l) (a := 0) (b := l.length - 1) h (by omega)).symm
  refine h1.trans ?_
  have h2 : swapL l 0 (l.length - 1) = cutL l ++ [at' l 0] := by
    apply List.ext_getElem
    · simp [length_cutL]; omega
    · intro i hi hj
      rw [length_swapL] at hi
      rw [← at_lt (by simpa using hi), at_swap h (by omega)]
      by_cases e : i = l.length - 1
      · rw [if_pos e]
        subst e
        rw [List.getElem_append_right (by rw [length_cutL]; omega)]
        simp
      · rw [if_neg e, List.getElem_append_left (by rw [length_cutL]; omega), ← at_lt (by rw [length_cutL]; omega)]
        unfold cutL
        rw [at_take (by omega), at_swap h (by omega), if_neg e]
  rw [h2]
  exact List.perm_append_singleton ..

/-- In order. -/
def Asc (l : List Pr) : Prop := l.Pairwise LeP
def insP (x : Pr) : List Pr → List Pr
  | [] => [x]
  | y :: r => if ltP y x then y :: insP x r else x :: y :: r
theorem perm_ins (x : Pr) : ∀ l : List Pr, (insP x l).Perm (x :: l)
  | [] => List.Perm.refl _
  | y :: r => by
    unfold insP
    split
    · exact ((perm_ins x r).cons y).trans (List.Perm.swap x y r)
    · exact List.Perm.refl _
theorem length_ins (x : Pr) (l : List Pr) : (insP x l).length = l.length + 1 := by rw [(perm_ins x l).length_eq]; rfl
theorem asc_ins (x : Pr) : ∀ {l : List Pr}, Asc l → Asc (insP x l)
  | [], _ => List.pairwise_singleton _ _
  | y :: r, h => by
    unfold insP
    have h := List.pairwise_cons.1 h
    split
    · rename_i hlt
      refine List.pairwise_cons.2 ⟨fun z hz => ?_, asc_ins x h.2⟩
      rcases List.mem_cons.1 ((perm_ins x r).mem_iff.1 hz) with rfl | hz
      · exact le_of_lt hlt
      · exact h.1 z hz
    · rename_i hlt
      have hxy : LeP x y := by unfold LeP; simpa using hlt
      refine List.pairwise_cons.2 ⟨fun z hz => ?_, List.pairwise_cons.2 h⟩
      rcases List.mem_cons.1 hz with rfl | hz
      · exact hxy
      · exact hxy.trans (h.1 z hz)
theorem asc_unique : ∀ {l m : List Pr}, Asc l → Asc m → l.Perm m → l = m
  | [], m, _, _, h => h.nil_eq
  | x :: l, [], _, _, h => by simpa using h.length_eq
  | x :: l, y :: m, hl, hm, h => by
    have hl' := List.pairwise_cons.1 hl
    have hm' := List.pairwise_cons.1 hm
    have e : x = y := by
      rcases List.mem_cons.1 (h.mem_iff.1 (List.mem_cons_self ..)) with e | e
      · exact e
      · rcases List.mem_cons.1 (h.mem_iff.2 (List.mem_cons_self ..)) with e2 | e2
        · exact e2.symm
        · exact (hl'.1 y e2).anti (hm'.1 x e)
    subst e
    rw [asc_unique hl'.2 hm'.2 ((List.perm_cons x).1 h)]
/-- All of a list in order. -/
def sortP : List Pr → List Pr
  | [] => []
  | x :: r => insP x (sortP r)
theorem perm_sort : ∀ l : List Pr, (sortP l).Perm l
  | [] => List.Perm.refl _
  | x :: r => (perm_ins x _).trans ((perm_sort r).cons x)
theorem asc_sort : ∀ l : List Pr, Asc (sortP l)
  | [] => List.Pairwise.nil
  | x :: r => asc_ins x (asc_sort r)
theorem length_sort (l : List Pr) : (sortP l).length = l.length := (perm_sort l).length_eq
theorem ins_sort (x : Pr) (l : List Pr) : insP x (sortP l) = sortP (l ++ [x]) :=
  asc_unique (asc_ins x (asc_sort l)) (asc_sort _) ((perm_ins x _).trans (((perm_sort l).cons x).trans ((List.perm_append_singleton x l).symm.trans (perm_sort _).symm)))
theorem sort_perm {l m : List Pr} (h : l.Perm m) : sortP l = sortP m := asc_unique (asc_sort l) (asc_sort m) ((perm_sort l).trans (h.trans (perm_sort m).symm))
/-- One that is no greater than all stands ahead. -/
theorem ins_least {x : Pr} {l : List Pr} (h : ∀ y ∈ l, LeP x y) : insP x l = x :: l := by
  cases l with
  | nil => rfl
  | cons y r =>
    have := h y (List.mem_cons_self ..)
    unfold insP
    unfold LeP at this
    rw [this]
    rfl
end Go.Proofs.Ythmblgfcjbiomaa.Hp
