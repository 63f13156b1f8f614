import Derived.Test.YthmblgfcjbiomaaRa
/- Costs made less edge by edge till none is made less; the cheapest way of least edges: plain lists. -/
set_option linter.unusedVariables false
set_option linter.unusedSimpArgs false
namespace Go.Proofs.Ythmblgfcjbiomaa.Rt
open Ly

/-- What a list of costs says of a node. -/
def gi (o : List Int) (v : Int) : Int := o.getD v.toNat (-1)
theorem gi_at {o : List Int} {v : Int} (h : v.toNat < o.length) : gi o v = o[v.toNat] := by simp [gi, h]
theorem gi_mem {o : List Int} {v : Int} (h : v.toNat < o.length) : gi o v ∈ o := by rw [gi_at h]; exact List.getElem_mem h
theorem gi_set {o : List Int} {v x c : Int} (h0 : 0 ≤ v) (h1 : v.toNat < o.length) (h2 : 0 ≤ x) : gi (o.set v.toNat c) x = if x = v then c else gi o x := by
  unfold gi
  rw [List.getD_eq_getElem?_getD, List.getD_eq_getElem?_getD]
  by_cases e : x = v
  · subst e
    simp [h1]
  · rw [if_neg e, List.getElem?_set_ne (by omega)]
/-- How many are told. -/
def told (o : List Int) : Nat := o.countP fun x => decide (0 ≤ x)
/-- How much is left to be made less. -/
def left (o : List Int) : Nat := (o.map fun x => if 0 ≤ x then x.toNat else 50000).sum
theorem left_set : ∀ {o : List Int} {i : Nat} {c : Int} (h : i < o.length), left (o.set i c) + (if 0 ≤ o[i] then o[i].toNat else 50000) = left o + (if 0 ≤ c then c.toNat else 50000)
  | x :: r, 0, c, _ => by simp only [left, List.set_cons_zero, List.map_cons, List.sum_cons, List.getElem_cons_zero]; omega
  | x :: r, i + 1, c, h => by
    have ih := left_set (o := r) (i := i) (c := c) (by simpa using h)
    simp only [left, List.set_cons_succ, List.map_cons, List.sum_cons, List.getElem_cons_succ] at ih ⊢
    omega
/-- Costs on the way to being the least. -/
structure BF (n : Int) (es : List Ed) (bl : List Int) (b : Int) (o : List Int) : Prop where
  len : o.length = n.toNat
  here : gi o b = 0
  low : ∀ x ∈ o, -1 ≤ x
  way : ∀ v, 0 ≤ v → v < n → 0 ≤ gi o v → ∃ ks, WayL es bl b v ks ∧ costL es ks = gi o v
  top : ∀ x ∈ o, x ≤ 1000 * ((told o : Int) - 1)
/-- An edge that makes something less. -/
def lessB (bl : List Int) (o : List Int) (e : Ed) : Bool := mayB bl e && decide (0 ≤ gi o e.2.1) && (decide (gi o e.1 < 0) || decide (gi o e.2.1 + e.2.2 < gi o e.1))
theorem BF.bound {n : Int} {es : List Ed} {bl : List Int} {b : Int} {o : List Int} (h : BF n es bl b o) (hr : RightL n es) : ∀ x ∈ o, x ≤ 39000 := fun x hx => by
  have h1 := h.top x hx
  have h2 : told o ≤ o.length := List.countP_le_length
  have h3 := h.len
  have h4 := hr.1
  have h5 := hr.2.1
  omega
theorem BF.less {n : Int} {es : List Ed} {bl : List Int} {b : Int} {o : List Int} (h : BF n es bl b o) (hr : RightL n es) {k : Nat} (hk : k < es.length) (hl : lessB bl o (ate es k) = true) :
    BF n es bl b (o.set (ate es k).1.toNat (gi o (ate es k).2.1 + (ate es k).2.2)) ∧ left (o.set (ate es k).1.toNat (gi o (ate es k).2.1 + (ate es k).2.2)) < left o := by
  obtain ⟨⟨f0, f1⟩, ⟨t0, t1⟩, hft, c1, c2⟩ := hr.at hk
  have hlen := h.len
  have hb := h.bound hr
  simp only [lessB, Bool.and_eq_true, Bool.or_eq_true, decide_eq_true_eq] at hl
  obtain ⟨⟨hm, ht⟩, hlt⟩ := hl
  have hf : (ate es k).1.toNat < o.length := by omega
  have htl : (ate es k).2.1.toNat < o.length := by omega
  have htm := gi_mem (o := o) (v := (ate es k).2.1) htl
  have htop := h.top _ htm
  have hgf := gi_at (o := o) (v := (ate es k).1) hf
  have hfm := gi_mem (o := o) (v := (ate es k).1) hf
  have htold : told (o.set (ate es k).1.toNat (gi o (ate es k).2.1 + (ate es k).2.2)) = (told o - if 0 ≤ gi o (ate es k).1 then 1 else 0) + 1 := by
    unfold told
    rw [List.countP_set hf, ← hgf]
    simp only [decide_eq_true_eq]
    rw [if_pos (show 0 ≤ gi o (ate es k).2.1 + (ate es k).2.2 by omega)]
  have hpos : 0 ≤ gi o (ate es k).1 → 1 ≤ told o := fun hx => by
    unfold told
    exact List.countP_pos_iff.2 ⟨_, hfm, by simpa using hx⟩
  refine ⟨⟨by simpa using hlen, ?_, fun x hx => ?_, fun v v0 v1 hv => ?_, fun x hx => ?_⟩, ?_⟩
  · by_cases e : 0 ≤ b
    · rw [gi_set f0 hf e]
      by_cases eb : b = (ate es k).1
      · have := h.here
        rw [eb] at this
        omega
      · rw [if_neg eb]; exact h.here
    · have := h.here
      by_cases e2 : (ate es k).1 = 0
      · have hb0 : gi o b = gi o (ate es k).1 := by unfold gi; rw [e2, show b.toNat = (0 : Int).toNat by omega]
        omega
      · unfold gi at this ⊢
        rw [List.getD_eq_getElem?_getD, List.getElem?_set_ne (by omega), ← List.getD_eq_getElem?_getD]
        exact this
  · rcases List.mem_or_eq_of_mem_set hx with hx | rfl
    · exact h.low x hx
    · omega
  · rw [gi_set f0 hf v0] at hv ⊢
    by_cases e : v = (ate es k).1
    · subst e
      rw [if_pos rfl]
      obtain ⟨ks, hw, hc⟩ := h.way _ t0 t1 ht
      exact ⟨k :: ks, .cons hk hm hw, by simp only [costL]; omega⟩
    · rw [if_neg e] at hv ⊢
      exact h.way v v0 v1 hv
  · rw [htold]
    rcases List.mem_or_eq_of_mem_set hx with hx | rfl
    · have := h.top x hx
      by_cases e : 0 ≤ gi o (ate es k).1
      · rw [if_pos e]; have := hpos e; omega
      · rw [if_neg e]; omega
    · by_cases e : 0 ≤ gi o (ate es k).1
      · rw [if_pos e]
        have := hpos e
        have := h.top _ hfm
        omega
      · rw [if_neg e]; omega
  · have h9 := left_set (c := gi o (ate es k).2.1 + (ate es k).2.2) hf
    rw [← hgf] at h9
    have := hb _ htm
    rw [if_pos (show 0 ≤ gi o (ate es k).2.1 + (ate es k).2.2 by omega)] at h9
    by_cases e : 0 ≤ gi o (ate es k).1
    · rw [if_pos e] at h9; omega
    · rw [if_neg e] at h9; omega
/-- Where no edge makes anything less the costs are the least. -/
theorem BF.far {n : Int} {es : List Ed} {bl : List Int} {b : Int} {o : List Int} (h : BF n es bl b o) (hn : ∀ k, k < es.length → lessB bl o (ate es k) = false) : IsFar n es bl b (gi o) := by
  refine ⟨h.here, fun v v0 v1 => h.low _ (gi_mem (by have := h.len; omega)), h.way, fun k hk hm ht => ?_⟩
  have h1 := hn k hk
  simp only [lessB, hm, decide_eq_true ht, Bool.true_and, Bool.or_eq_false_iff, decide_eq_false_iff_not] at h1
  omega
theorem gi_start {n b x : Int} (b0 : 0 ≤ b) (b1 : b < n) (x0 : 0 ≤ x) : gi ((List.replicate n.toNat (-1 : Int)).set b.toNat 0) x = if x = b then 0 else -1 := by
  rw [gi_set b0 (by simp; omega) x0]
  by_cases e : x = b
  · rw [if_pos e, if_pos e]
  · rw [if_neg e, if_neg e]
    unfold gi
    rw [List.getD_eq_getElem?_getD, List.getElem?_replicate]
    split <;> rfl
theorem BF.start {n : Int} {es : List Ed} {bl : List Int} {b : Int} (b0 : 0 ≤ b) (b1 : b < n) : BF n es bl b ((List.replicate n.toNat (-1 : Int)).set b.toNat 0) := by
  have hl : b.toNat < (List.replicate n.toNat (-1 : Int)).length := by simp; omega
  have ht : told ((List.replicate n.toNat (-1 : Int)).set b.toNat 0) = 1 := by
    unfold told
    rw [List.countP_set hl]
    simp [List.countP_replicate]
  refine ⟨by simp, by rw [gi_start b0 b1 b0, if_pos rfl], fun x hx => ?_, fun v v0 v1 hv => ?_, fun x hx => ?_⟩
  · rcases List.mem_or_eq_of_mem_set hx with hx | rfl
    · have := List.eq_of_mem_replicate hx; omega
    · omega
  · rw [gi_start b0 b1 v0] at hv ⊢
    by_cases e : v = b
    · subst e
      rw [if_pos rfl]
      exact ⟨[], .nil, rfl⟩
    · rw [if_neg e] at hv; omega
  · rw [ht]
    rcases List.mem_or_eq_of_mem_set hx with hx | rfl
    · have := List.eq_of_mem_replicate hx; omega
    · omega
end Go.Proofs.Ythmblgfcjbiomaa.Rt
