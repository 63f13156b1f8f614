import Derived.Test.YthmblgfcjbiomaaRd
import Derived.Test.YthmblgfcjbiomaaHa
/- Costs found by a heap, from the node that is wanted backwards: plain lists. -/
set_option linter.unusedVariables false
set_option linter.unusedSimpArgs false
namespace Go.Proofs.Ythmblgfcjbiomaa.Rt
open Ly

theorem firstB_of {p : Nat → Bool} : ∀ {k i m : Nat}, firstB p i k = some m → i ≤ m ∧ m < i + k ∧ p m = true ∧ ∀ j, i ≤ j → j < m → p j = false
  | 0, i, m, h => by simp [firstB] at h
  | k + 1, i, m, h => by
    rw [firstB] at h
    by_cases e : p i = true
    · rw [if_pos e] at h
      cases h
      exact ⟨Nat.le_refl _, by omega, e, fun j h1 h2 => by omega⟩
    · rw [if_neg e] at h
      obtain ⟨h1, h2, h3, h4⟩ := firstB_of h
      refine ⟨by omega, by omega, h3, fun j h5 h6 => ?_⟩
      by_cases e2 : j = i
      · subst e2; simpa using e
      · exact h4 j (by omega) h6

/-- A node of which the cost is told. -/
def Dn (es : List Ed) (b : Int) (pre : List (Nat × Int)) (v : Int) : Prop := v = b ∨ ∃ y ∈ pre, (ate es y.1).1 = v
/-- What has been told: edges with the costs of their nodes, each the least that leads on from its node. -/
inductive Em (es : List Ed) (bl : List Int) (b : Int) (d : Int → Int) : List (Nat × Int) → Prop
  | nil : Em es bl b d []
  | snoc {pre : List (Nat × Int)} {k : Nat} {c : Int} : Em es bl b d pre → k < es.length → ¬ Dn es b pre (ate es k).1 → firstB (onB es bl d (ate es k).1) 0 es.length = some k → c = d (ate es k).1 → Dn es b pre (ate es k).2.1 → Em es bl b d (pre ++ [(k, c)])
theorem Dn.snoc {es : List Ed} {b : Int} {pre : List (Nat × Int)} {k : Nat} {c v : Int} : Dn es b (pre ++ [(k, c)]) v ↔ Dn es b pre v ∨ v = (ate es k).1 := by
  unfold Dn
  constructor
  · rintro (h | ⟨y, hy, h⟩)
    · exact .inl (.inl h)
    · rcases List.mem_append.1 hy with hy | hy
      · exact .inl (.inr ⟨y, hy, h⟩)
      · rw [List.mem_singleton] at hy
        subst hy
        exact .inr h.symm
  · rintro ((h | ⟨y, hy, h⟩) | h)
    · exact .inl h
    · exact .inr ⟨y, List.mem_append_left _ hy, h⟩
    · exact .inr ⟨_, List.mem_append_right _ (List.mem_singleton_self _), h.symm⟩
theorem Em.mem {es : List Ed} {bl : List Int} {b : Int} {d : Int → Int} {pre : List (Nat × Int)} (h : Em es bl b d pre) : ∀ y ∈ pre, y.1 < es.length ∧ (ate es y.1).1 ≠ b ∧ firstB (onB es bl d (ate es y.1).1) 0 es.length = some y.1 ∧ y.2 = d (ate es y.1).1 ∧ Dn es b pre (ate es y.1).2.1 := by
  induction h with
  | nil => simp
  | @snoc pre k c h hk hd hf hc ht ih =>
    intro y hy
    rcases List.mem_append.1 hy with hy | hy
    · obtain ⟨h1, h2, h3, h4, h5⟩ := ih y hy
      exact ⟨h1, h2, h3, h4, Dn.snoc.2 (.inl h5)⟩
    · rw [List.mem_singleton] at hy
      subst hy
      exact ⟨hk, fun e => hd (.inl e), hf, hc, Dn.snoc.2 (.inl ht)⟩
theorem Em.on {es : List Ed} {bl : List Int} {b : Int} {d : Int → Int} {pre : List (Nat × Int)} (h : Em es bl b d pre) {y : Nat × Int} (hy : y ∈ pre) : onB es bl d (ate es y.1).1 y.1 = true := (firstB_of (h.mem y hy).2.2.1).2.2.1
theorem Em.pos {n : Int} {es : List Ed} {bl : List Int} {b : Int} {d : Int → Int} {pre : List (Nat × Int)} (h : Em es bl b d pre) (hr : RightL n es) (hd : IsFar n es bl b d) {v : Int} (hv : Dn es b pre v) : 0 ≤ d v := by
  rcases hv with rfl | ⟨y, hy, rfl⟩
  · rw [hd.here]; exact Int.le_refl _
  · have h1 := onB_iff.1 (h.on hy)
    obtain ⟨_, _, _, c1, _⟩ := hr.at (h.mem y hy).1
    omega

/-- How many edges lead to what is marked. -/
def cnt (es : List Ed) (D : Int → Bool) (m : Nat) : Nat := (List.range m).countP fun k => D (ate es k).2.1
theorem cnt_succ (es : List Ed) (D : Int → Bool) (m : Nat) : cnt es D (m + 1) = cnt es D m + if D (ate es m).2.1 then 1 else 0 := by
  simp [cnt, List.range_succ, List.countP_append, List.countP_singleton]
theorem cnt_le (es : List Ed) (D : Int → Bool) (m : Nat) : cnt es D m ≤ m := by
  unfold cnt
  exact Nat.le_trans List.countP_le_length (by simp)
theorem cnt_add {es : List Ed} {D E : Int → Bool} {u : Int} (h : ∀ v, E v = (D v || decide (v = u))) (hu : D u = false) : ∀ m, cnt es E m = cnt es D m + cnt es (fun v => decide (v = u)) m
  | 0 => rfl
  | m + 1 => by
    rw [cnt_succ, cnt_succ, cnt_succ, cnt_add h hu m, h]
    by_cases e : (ate es m).2.1 = u
    · rw [e, hu]; simp; omega
    · cases hx : D (ate es m).2.1 <;> simp [e] <;> omega

/-- What lies in the heap when the edges to a node have been pushed. -/
def comeL (es : List Ed) (u c : Int) : Nat → List Hp.Pr → List Hp.Pr
  | 0, q => q
  | i + 1, q => if (ate es i).2.1 = u then Hp.insP (c + (ate es i).2.2, (i : Int)) (comeL es u c i q) else comeL es u c i q
theorem comeL_yes {es : List Ed} {u c : Int} {i : Nat} {q : List Hp.Pr} (h : (ate es i).2.1 = u) : comeL es u c (i + 1) q = Hp.insP (c + (ate es i).2.2, (i : Int)) (comeL es u c i q) := by rw [comeL, if_pos h]
theorem comeL_no {es : List Ed} {u c : Int} {i : Nat} {q : List Hp.Pr} (h : (ate es i).2.1 ≠ u) : comeL es u c (i + 1) q = comeL es u c i q := by rw [comeL, if_neg h]
theorem mem_comeL {es : List Ed} {u c : Int} {q : List Hp.Pr} {p : Hp.Pr} : ∀ {i : Nat}, p ∈ comeL es u c i q ↔ p ∈ q ∨ ∃ k, k < i ∧ (ate es k).2.1 = u ∧ p = (c + (ate es k).2.2, (k : Int))
  | 0 => by simp [comeL]
  | i + 1 => by
    by_cases e : (ate es i).2.1 = u
    · rw [comeL_yes e, (Hp.perm_ins _ _).mem_iff, List.mem_cons, mem_comeL (i := i)]
      constructor
      · rintro (h | h | ⟨k, h1, h2⟩)
        · exact .inr ⟨i, by omega, e, h⟩
        · exact .inl h
        · exact .inr ⟨k, by omega, h2⟩
      · rintro (h | ⟨k, h1, h2, h3⟩)
        · exact .inr (.inl h)
        · by_cases ek : k = i
          · subst ek; exact .inl h3
          · exact .inr (.inr ⟨k, by omega, h2, h3⟩)
    · rw [comeL_no e, mem_comeL (i := i)]
      constructor
      · rintro (h | ⟨k, h1, h2⟩)
        · exact .inl h
        · exact .inr ⟨k, by omega, h2⟩
      · rintro (h | ⟨k, h1, h2, h3⟩)
        · exact .inl h
        · by_cases ek : k = i
          · subst ek; exact absurd h2 e
          · exact .inr ⟨k, by omega, h2, h3⟩
theorem asc_comeL {es : List Ed} {u c : Int} {q : List Hp.Pr} (h : Hp.Asc q) : ∀ i, Hp.Asc (comeL es u c i q)
  | 0 => h
  | i + 1 => by
    by_cases e : (ate es i).2.1 = u
    · rw [comeL_yes e]; exact Hp.asc_ins _ (asc_comeL h i)
    · rw [comeL_no e]; exact asc_comeL h i
theorem len_comeL (es : List Ed) (u c : Int) (q : List Hp.Pr) : ∀ i, (comeL es u c i q).length = q.length + cnt es (fun v => decide (v = u)) i
  | 0 => rfl
  | i + 1 => by
    rw [cnt_succ]
    by_cases e : (ate es i).2.1 = u
    · rw [comeL_yes e, Hp.length_ins, len_comeL es u c q i, if_pos (by simpa using e)]; omega
    · rw [comeL_no e, len_comeL es u c q i, if_neg (by simpa using e)]; omega
def comeB (es : List Ed) (bl : List Int) (u c : Int) (q : List Hp.Pr) : List Hp.Pr := if u ∈ bl then q else comeL es u c es.length q
theorem comeB_yes {es : List Ed} {bl : List Int} {u c : Int} {q : List Hp.Pr} (h : u ∈ bl) : comeB es bl u c q = q := if_pos h
theorem comeB_no {es : List Ed} {bl : List Int} {u c : Int} {q : List Hp.Pr} (h : u ∉ bl) : comeB es bl u c q = comeL es u c es.length q := if_neg h
theorem len_comeB (es : List Ed) (bl : List Int) (u c : Int) (q : List Hp.Pr) : (comeB es bl u c q).length ≤ q.length + cnt es (fun v => decide (v = u)) es.length := by
  unfold comeB
  split
  · omega
  · rw [len_comeL]; omega

/-- What holds of the search between two things popped. -/
structure DI (n : Int) (es : List Ed) (bl : List Int) (b : Int) (d : Int → Int) (D : Int → Bool) (q : List Hp.Pr) (pre : List (Nat × Int)) : Prop where
  em : Em es bl b d pre
  dn : ∀ v, 0 ≤ v → v < n → (D v = true ↔ Dn es b pre v)
  qs : ∀ p ∈ q, ∃ k : Nat, k < es.length ∧ p = (d (ate es k).2.1 + (ate es k).2.2, (k : Int)) ∧ mayB bl (ate es k) = true ∧ D (ate es k).2.1 = true
  qa : ∀ k, k < es.length → mayB bl (ate es k) = true → D (ate es k).2.1 = true → D (ate es k).1 = true ∨ (d (ate es k).2.1 + (ate es k).2.2, (k : Int)) ∈ q
  asc : Hp.Asc q
  len : q.length ≤ cnt es D es.length

theorem crossing {n : Int} {es : List Ed} {bl : List Int} {b : Int} {d : Int → Int} (hr : RightL n es) (hd : IsFar n es bl b d) {D : Int → Bool} (hb : D b = true) {v : Int} {ks : List Nat} (hw : WayL es bl b v ks) (hv : D v = false) :
    ∃ k, k < es.length ∧ mayB bl (ate es k) = true ∧ D (ate es k).2.1 = true ∧ D (ate es k).1 = false ∧ d (ate es k).2.1 + (ate es k).2.2 ≤ costL es ks := by
  induction hw with
  | nil => rw [hb] at hv; cases hv
  | @cons k ks hk hm hw ih =>
    by_cases e : D (ate es k).2.1 = true
    · have := hd.least hw
      exact ⟨k, hk, hm, e, hv, by simp only [costL]; omega⟩
    · obtain ⟨j, h1, h2, h3, h4, h5⟩ := ih (by simpa using e)
      obtain ⟨_, _, _, c1, _⟩ := hr.at hk
      exact ⟨j, h1, h2, h3, h4, by simp only [costL]; omega⟩
theorem DI.bdone {n : Int} {es : List Ed} {bl : List Int} {b : Int} {d : Int → Int} {D : Int → Bool} {q : List Hp.Pr} {pre : List (Nat × Int)} (h : DI n es bl b d D q pre) (b0 : 0 ≤ b) (b1 : b < n) : D b = true := (h.dn b b0 b1).2 (.inl rfl)
/-- What is not told yet is no nearer than the first one of the heap; of an empty heap there is no such. -/
theorem DI.min {n : Int} {es : List Ed} {bl : List Int} {b : Int} {d : Int → Int} {D : Int → Bool} {q : List Hp.Pr} {pre : List (Nat × Int)} (h : DI n es bl b d D q pre) (hr : RightL n es) (hd : IsFar n es bl b d) (b0 : 0 ≤ b) (b1 : b < n) {v : Int} (v0 : 0 ≤ v) (v1 : v < n) (hv : D v = false) (hp : 0 ≤ d v) :
    ∃ p ∈ q, p.1 ≤ d v := by
  obtain ⟨ks, hw, hc⟩ := hd.way v v0 v1 hp
  obtain ⟨k, h1, h2, h3, h4, h5⟩ := crossing hr hd (h.bdone b0 b1) hw hv
  rcases h.qa k h1 h2 h3 with h6 | h6
  · rw [h4] at h6; cases h6
  · exact ⟨_, h6, by dsimp only; omega⟩
theorem asc_head {p : Hp.Pr} {r : List Hp.Pr} (h : Hp.Asc (p :: r)) {x : Hp.Pr} (hx : x ∈ p :: r) : Hp.LeP p x := by
  rcases List.mem_cons.1 hx with rfl | hx
  · exact Hp.LeP.refl _
  · exact (List.pairwise_cons.1 h).1 x hx
theorem DI.done {n : Int} {es : List Ed} {bl : List Int} {b : Int} {d : Int → Int} {D : Int → Bool} {pre : List (Nat × Int)} (h : DI n es bl b d D [] pre) (hr : RightL n es) (hd : IsFar n es bl b d) (b0 : 0 ≤ b) (b1 : b < n) {v : Int} (v0 : 0 ≤ v) (v1 : v < n) (hp : 0 ≤ d v) : Dn es b pre v := by
  refine (h.dn v v0 v1).1 ?_
  cases e : D v with
  | true => rfl
  | false =>
    obtain ⟨p, hp, _⟩ := h.min hr hd b0 b1 v0 v1 e hp
    simp at hp
/-- The first one of the heap is an edge. -/
theorem DI.head {n : Int} {es : List Ed} {bl : List Int} {b : Int} {d : Int → Int} {D : Int → Bool} {p : Hp.Pr} {r : List Hp.Pr} {pre : List (Nat × Int)} (h : DI n es bl b d D (p :: r) pre) (hr : RightL n es) (hd : IsFar n es bl b d) : ∃ k : Nat, k < es.length ∧ p = (p.1, (k : Int)) ∧ 0 ≤ (ate es k).1 ∧ (ate es k).1 < n := by
  obtain ⟨k, hk, e, _⟩ := h.qs p (List.mem_cons_self ..)
  obtain ⟨⟨f0, f1⟩, _⟩ := hr.at hk
  exact ⟨k, hk, by rw [e], f0, f1⟩
theorem DI.skip {n : Int} {es : List Ed} {bl : List Int} {b : Int} {d : Int → Int} {D : Int → Bool} {c : Int} {k : Nat} {r : List Hp.Pr} {pre : List (Nat × Int)} (h : DI n es bl b d D ((c, (k : Int)) :: r) pre) (hk : D (ate es k).1 = true) : DI n es bl b d D r pre := by
  refine ⟨h.em, h.dn, fun p hp => h.qs p (List.mem_cons_of_mem _ hp), fun j hj hm ht => ?_, (List.pairwise_cons.1 h.asc).2, ?_⟩
  · rcases h.qa j hj hm ht with h1 | h1
    · exact .inl h1
    · rcases List.mem_cons.1 h1 with h1 | h1
      · have : j = k := by have := (Prod.mk.injEq .. ▸ h1 : _ ∧ _).2; omega
        subst this
        exact .inl hk
      · exact .inr h1
  · have := h.len; simp at this; omega
theorem DI.on {n : Int} {es : List Ed} {bl : List Int} {b : Int} {d : Int → Int} {D : Int → Bool} {c : Int} {k : Nat} {r : List Hp.Pr} {pre : List (Nat × Int)} (h : DI n es bl b d D ((c, (k : Int)) :: r) pre) (hr : RightL n es) (hd : IsFar n es bl b d) (b0 : 0 ≤ b) (b1 : b < n) (hk : D (ate es k).1 = false) :
    k < es.length ∧ c = d (ate es k).1 ∧ Em es bl b d (pre ++ [(k, c)]) := by
  obtain ⟨k', hk', e, hm, ht⟩ := h.qs _ (List.mem_cons_self ..)
  have e1 := (Prod.mk.injEq .. ▸ e : _ ∧ _)
  obtain rfl : k = k' := by have := e1.2; omega
  have e2 := e1.1
  clear e e1
  obtain ⟨⟨f0, f1⟩, ⟨t0, t1⟩, hft, c1, c2⟩ := hr.at hk'
  have hdt : Dn es b pre (ate es k).2.1 := (h.dn _ t0 t1).1 ht
  have hp := h.em.pos hr hd hdt
  have hs := hd.shut k hk' hm hp
  have low : ∀ v, 0 ≤ v → v < n → D v = false → 0 ≤ d v → c ≤ d v := fun v v0 v1 hv hq => by
    obtain ⟨p, hp, hle⟩ := h.min hr hd b0 b1 v0 v1 hv hq
    have := Hp.LeP_iff.1 (asc_head h.asc hp)
    dsimp only at this
    omega
  have hu := low _ f0 f1 hk hs.1
  have hc : c = d (ate es k).1 := by omega
  have hndn : ¬ Dn es b pre (ate es k).1 := fun hx => by
    have := (h.dn _ f0 f1).2 hx
    rw [hk] at this; cases this
  refine ⟨hk', hc, .snoc h.em hk' hndn (firstB_some (Nat.zero_le _) (by omega) (onB_iff.2 ⟨rfl, hm, hp, by omega⟩) fun j _ hj => ?_) hc hdt⟩
  refine Bool.eq_false_iff.2 fun hx => ?_
  obtain ⟨g1, g2, g3, g4⟩ := onB_iff.1 hx
  obtain ⟨_, ⟨s0, s1⟩, _, d1, _⟩ := hr.at (show j < es.length by omega)
  cases hy : D (ate es j).2.1 with
  | false =>
    have := low _ s0 s1 hy g3
    omega
  | true =>
    rcases h.qa j (by omega) g2 hy with h6 | h6
    · rw [g1, hk] at h6; cases h6
    · have := Hp.LeP_iff.1 (asc_head h.asc h6)
      dsimp only at this
      omega
theorem DI.step {n : Int} {es : List Ed} {bl : List Int} {b : Int} {d : Int → Int} {D E : Int → Bool} {c : Int} {k : Nat} {r : List Hp.Pr} {pre : List (Nat × Int)} (h : DI n es bl b d D ((c, (k : Int)) :: r) pre) (hr : RightL n es) (hd : IsFar n es bl b d) (b0 : 0 ≤ b) (b1 : b < n) (hk : D (ate es k).1 = false)
    (hE : ∀ v, 0 ≤ v → v < n → E v = (D v || decide (v = (ate es k).1))) :
    DI n es bl b d E (comeB es bl (ate es k).1 c r) (pre ++ [(k, c)]) ∧ (comeB es bl (ate es k).1 c r).length + (es.length - cnt es E es.length) < (((c, (k : Int)) :: r).length + (es.length - cnt es D es.length)) := by
  obtain ⟨hkl, hc, hem⟩ := h.on hr hd b0 b1 hk
  obtain ⟨⟨f0, f1⟩, _⟩ := hr.at hkl
  have hasc := (List.pairwise_cons.1 h.asc).2
  have mono : ∀ v, 0 ≤ v → v < n → D v = true → E v = true := fun v v0 v1 hv => by rw [hE v v0 v1, hv]; rfl
  have hEu : E (ate es k).1 = true := by rw [hE _ f0 f1]; simp
  have hcnt : cnt es E es.length = cnt es D es.length + cnt es (fun v => decide (v = (ate es k).1)) es.length := by
    rw [← cnt_add (E := fun v => D v || decide (v = (ate es k).1)) (fun v => rfl) hk]
    unfold cnt
    refine List.countP_congr fun j hj => ?_
    obtain ⟨_, ⟨t0, t1⟩, _⟩ := hr.at (List.mem_range.1 hj)
    rw [hE _ t0 t1]
  have hlen := len_comeB es bl (ate es k).1 c r
  have hcl := cnt_le es E es.length
  have hl := h.len
  simp only [List.length_cons] at hl ⊢
  refine ⟨⟨hem, fun v v0 v1 => ?_, fun p hp => ?_, fun j hj hm ht => ?_, ?_, ?_⟩, by omega⟩
  · rw [hE v v0 v1, Bool.or_eq_true, h.dn v v0 v1, decide_eq_true_eq, Dn.snoc]
  · have old : p ∈ r → ∃ j : Nat, j < es.length ∧ p = (d (ate es j).2.1 + (ate es j).2.2, (j : Int)) ∧ mayB bl (ate es j) = true ∧ E (ate es j).2.1 = true := fun hp => by
      obtain ⟨j, h1, h2, h3, h4⟩ := h.qs p (List.mem_cons_of_mem _ hp)
      obtain ⟨_, ⟨t0, t1⟩, _⟩ := hr.at h1
      exact ⟨j, h1, h2, h3, mono _ t0 t1 h4⟩
    by_cases hb : (ate es k).1 ∈ bl
    · rw [comeB_yes hb] at hp
      exact old hp
    · rw [comeB_no hb, mem_comeL] at hp
      rcases hp with hp | ⟨j, h1, h2, h3⟩
      · exact old hp
      · exact ⟨j, h1, by rw [h3, h2, hc], mayB_iff.2 (by rw [h2]; exact hb), by rw [h2]; exact hEu⟩
  · obtain ⟨⟨g0, g1⟩, ⟨t0, t1⟩, _⟩ := hr.at hj
    have sub : ∀ p, p ∈ r → p ∈ comeB es bl (ate es k).1 c r := fun p hp => by
      unfold comeB
      split
      · exact hp
      · exact mem_comeL.2 (.inl hp)
    by_cases e : (ate es j).2.1 = (ate es k).1
    · have hb : (ate es k).1 ∉ bl := by rw [← e]; exact mayB_iff.1 hm
      refine .inr ?_
      rw [comeB_no hb, mem_comeL]
      exact .inr ⟨j, hj, e, by rw [e, hc]⟩
    · rw [hE _ t0 t1, Bool.or_eq_true, decide_eq_true_eq] at ht
      rcases ht with ht | ht
      · rcases h.qa j hj hm ht with h1 | h1
        · exact .inl (mono _ g0 g1 h1)
        · rcases List.mem_cons.1 h1 with h1 | h1
          · have : j = k := by have := (Prod.mk.injEq .. ▸ h1 : _ ∧ _).2; omega
            subst this
            exact .inl hEu
          · exact .inr (sub _ h1)
      · exact absurd ht e
  · unfold comeB
    split
    · exact hasc
    · exact asc_comeL hasc _
  · omega
theorem DI.begin {n : Int} {es : List Ed} {bl : List Int} {b : Int} {d : Int → Int} {D : Int → Bool} (hr : RightL n es) (hd : IsFar n es bl b d) (b0 : 0 ≤ b) (b1 : b < n) (hD : ∀ v, 0 ≤ v → v < n → D v = decide (v = b)) : DI n es bl b d D (comeB es bl b 0 []) [] := by
  have hDb : D b = true := by rw [hD b b0 b1]; simp
  refine ⟨.nil, fun v v0 v1 => ?_, fun p hp => ?_, fun j hj hm ht => ?_, ?_, ?_⟩
  · rw [hD v v0 v1, decide_eq_true_eq]
    exact ⟨.inl, fun h => by rcases h with h | ⟨y, hy, _⟩; exact h; simp at hy⟩
  · by_cases hb : b ∈ bl
    · rw [comeB_yes hb] at hp
      simp at hp
    · rw [comeB_no hb, mem_comeL] at hp
      rcases hp with hp | ⟨j, h1, h2, h3⟩
      · simp at hp
      · exact ⟨j, h1, by rw [h3, h2, hd.here], mayB_iff.2 (by rw [h2]; exact hb), by rw [h2]; exact hDb⟩
  · obtain ⟨_, ⟨t0, t1⟩, _⟩ := hr.at hj
    rw [hD _ t0 t1, decide_eq_true_eq] at ht
    have hb : b ∉ bl := by rw [← ht]; exact mayB_iff.1 hm
    refine .inr ?_
    rw [comeB_no hb, mem_comeL]
    exact .inr ⟨j, hj, ht, by rw [ht, hd.here]⟩
  · unfold comeB
    split
    · exact List.Pairwise.nil
    · exact asc_comeL List.Pairwise.nil _
  · refine Nat.le_trans (len_comeB es bl b 0 []) ?_
    simp only [List.length_nil, Nat.zero_add]
    unfold cnt
    refine Nat.le_of_eq (List.countP_congr fun j hj => ?_)
    obtain ⟨_, ⟨t0, t1⟩, _⟩ := hr.at (List.mem_range.1 hj)
    rw [hD _ t0 t1]
end Go.Proofs.Ythmblgfcjbiomaa.Rt
