import Derived.Test.YthmblgfcjbiomaaRb
/- The cheapest way of least edges: plain lists. -/
set_option linter.unusedVariables false
set_option linter.unusedSimpArgs false
namespace Go.Proofs.Ythmblgfcjbiomaa.Rt
open Ly

/-- An edge that leads on as cheaply. -/
def onB (es : List Ed) (bl : List Int) (d : Int → Int) (v : Int) (k : Nat) : Bool := decide ((ate es k).1 = v) && mayB bl (ate es k) && decide (0 ≤ d (ate es k).2.1) && decide (d (ate es k).2.1 + (ate es k).2.2 = d v)
theorem onB_iff {es : List Ed} {bl : List Int} {d : Int → Int} {v : Int} {k : Nat} : onB es bl d v k = true ↔ (ate es k).1 = v ∧ mayB bl (ate es k) = true ∧ 0 ≤ d (ate es k).2.1 ∧ d (ate es k).2.1 + (ate es k).2.2 = d v := by
  simp [onB, and_assoc]
theorem first_found {p : Nat → Bool} : ∀ {k i : Nat}, (∃ j, i ≤ j ∧ j < i + k ∧ p j = true) → ∃ m, firstB p i k = some m ∧ i ≤ m ∧ m < i + k ∧ p m = true ∧ ∀ j, i ≤ j → j < m → p j = false
  | 0, i, ⟨j, h1, h2, _⟩ => by omega
  | k + 1, i, ⟨j, h1, h2, h3⟩ => by
    by_cases e : p i = true
    · exact ⟨i, by rw [firstB, if_pos e], Nat.le_refl _, by omega, e, fun j h1 h2 => by omega⟩
    · have hj : i + 1 ≤ j := by
        rcases Nat.lt_or_ge i j with h | h
        · exact h
        · exact absurd (by rw [show i = j by omega]; exact h3) e
      obtain ⟨m, h4, h5, h6, h7, h8⟩ := first_found (p := p) (k := k) (i := i + 1) ⟨j, hj, by omega, h3⟩
      refine ⟨m, by rw [firstB, if_neg e]; exact h4, by omega, by omega, h7, fun q h9 h10 => ?_⟩
      by_cases e2 : q = i
      · subst e2; simpa using e
      · exact h8 q (by omega) h10
/-- From a node that is not the one wanted some edge leads on as cheaply. -/
theorem IsFar.on {n : Int} {es : List Ed} {bl : List Int} {b : Int} {d : Int → Int} (h : IsFar n es bl b d) {v : Int} (v0 : 0 ≤ v) (v1 : v < n) (hd : 0 ≤ d v) (hv : v ≠ b) : ∃ k, k < es.length ∧ onB es bl d v k = true := by
  obtain ⟨ks, hw, hc⟩ := h.way v v0 v1 hd
  cases hw with
  | nil => exact absurd rfl hv
  | @cons k ks hk hm hw =>
    have h1 := h.least hw
    have h2 := h.shut k hk hm h1.1
    simp only [costL] at hc
    exact ⟨k, hk, onB_iff.2 ⟨rfl, hm, h1.1, by omega⟩⟩
/-- The way that takes the least of them each time. -/
def routeL (es : List Ed) (bl : List Int) (b : Int) (d : Int → Int) : Nat → Int → List Nat
  | 0, _ => []
  | f + 1, v => if v = b then [] else match firstB (onB es bl d v) 0 es.length with
    | some k => k :: routeL es bl b d f (ate es k).2.1
    | none => []
theorem routeL_at {es : List Ed} {bl : List Int} {b : Int} {d : Int → Int} {f : Nat} : routeL es bl b d f b = [] := by cases f <;> simp [routeL]
theorem routeL_on {es : List Ed} {bl : List Int} {b : Int} {d : Int → Int} {f : Nat} {v : Int} {k : Nat} (hv : v ≠ b) (hk : firstB (onB es bl d v) 0 es.length = some k) : routeL es bl b d (f + 1) v = k :: routeL es bl b d f (ate es k).2.1 := by
  rw [routeL, if_neg hv, hk]
theorem IsFar.zero {n : Int} {es : List Ed} {bl : List Int} {b : Int} {d : Int → Int} (h : IsFar n es bl b d) (hr : RightL n es) {v : Int} (v0 : 0 ≤ v) (v1 : v < n) (hd : d v = 0) : v = b := by
  refine Classical.byContradiction fun hv => ?_
  obtain ⟨k, hk, h1⟩ := h.on v0 v1 (by omega) hv
  obtain ⟨_, _, h2, h3⟩ := onB_iff.1 h1
  obtain ⟨_, _, _, h4, _⟩ := hr.at hk
  omega
theorem IsFar.routed {n : Int} {es : List Ed} {bl : List Int} {b : Int} {d : Int → Int} (h : IsFar n es bl b d) (hr : RightL n es) : ∀ {f : Nat} {v : Int}, 0 ≤ v → v < n → 0 ≤ d v → d v ≤ f → WayL es bl b v (routeL es bl b d f v) ∧ costL es (routeL es bl b d f v) = d v
  | 0, v, v0, v1, hd, hf => by
    obtain rfl := h.zero hr v0 v1 (by omega)
    rw [routeL_at]
    exact ⟨.nil, by rw [h.here]; rfl⟩
  | f + 1, v, v0, v1, hd, hf => by
    by_cases hv : v = b
    · subst hv
      rw [routeL_at]
      exact ⟨.nil, by rw [h.here]; rfl⟩
    · obtain ⟨k, hk, h1⟩ := h.on v0 v1 hd hv
      obtain ⟨m, h2, _, h3, h4, _⟩ := first_found (p := onB es bl d v) (k := es.length) (i := 0) ⟨k, Nat.zero_le _, by omega, h1⟩
      rw [routeL_on hv h2]
      obtain ⟨g1, g2, g3, g4⟩ := onB_iff.1 h4
      obtain ⟨_, ⟨t0, t1⟩, _, c1, _⟩ := hr.at (show m < es.length by omega)
      obtain ⟨ih1, ih2⟩ := IsFar.routed h hr (f := f) t0 t1 g3 (by omega)
      exact ⟨WayL.step (by omega) g2 g1 ih1, by simp only [costL]; omega⟩
/-- What is told of costs at nodes alone tells the way. -/
theorem routeL_congr {n : Int} {es : List Ed} {bl : List Int} {b : Int} {d g : Int → Int} (hr : RightL n es) (h : ∀ v, 0 ≤ v → v < n → d v = g v) : ∀ {f : Nat} {v : Int}, 0 ≤ v → v < n → routeL es bl b d f v = routeL es bl b g f v
  | 0, v, _, _ => rfl
  | f + 1, v, v0, v1 => by
    by_cases hv : v = b
    · subst hv; rw [routeL_at, routeL_at]
    · have hp : ∀ k, k < es.length → onB es bl d v k = onB es bl g v k := fun k hk => by
        obtain ⟨_, ⟨t0, t1⟩, _⟩ := hr.at hk
        unfold onB
        rw [h v v0 v1, h _ t0 t1]
      by_cases hx : ∃ k, k < es.length ∧ onB es bl d v k = true
      · obtain ⟨k, hk, h1⟩ := hx
        obtain ⟨m, h2, _, h3, h4, h5⟩ := first_found (p := onB es bl d v) (k := es.length) (i := 0) ⟨k, Nat.zero_le _, by omega, h1⟩
        have h6 : firstB (onB es bl g v) 0 es.length = some m := firstB_some (Nat.zero_le _) h3 (by rw [← hp m (by omega)]; exact h4) fun j j0 j1 => by rw [← hp j (by omega)]; exact h5 j j0 j1
        obtain ⟨_, ⟨t0, t1⟩, _⟩ := hr.at (show m < es.length by omega)
        rw [routeL_on hv h2, routeL_on hv h6, routeL_congr hr h t0 t1]
      · have n1 : firstB (onB es bl d v) 0 es.length = none := firstB_none fun j _ hj => Bool.eq_false_iff.2 fun e => hx ⟨j, by omega, e⟩
        have n2 : firstB (onB es bl g v) 0 es.length = none := firstB_none fun j _ hj => Bool.eq_false_iff.2 fun e => hx ⟨j, by omega, by rw [hp j (by omega)]; exact e⟩
        rw [routeL, routeL, if_neg hv, if_neg hv, n1, n2]
end Go.Proofs.Ythmblgfcjbiomaa.Rt
