import Derived.Test.YthmblgfcjbiomaaRc
/- The cheapest way, with no number of steps; scaled; what a way is edge by edge: plain lists. -/
set_option linter.unusedVariables false
set_option linter.unusedSimpArgs false
namespace Go.Proofs.Ythmblgfcjbiomaa.Rt
open Ly

theorem routeL_fuel {n : Int} {es : List Ed} {bl : List Int} {b : Int} {d : Int → Int} (h : IsFar n es bl b d) (hr : RightL n es) : ∀ {f g : Nat} {v : Int}, 0 ≤ v → v < n → 0 ≤ d v → d v ≤ f → d v ≤ g → routeL es bl b d f v = routeL es bl b d g v
  | f, g, v, v0, v1, hd, hf, hg => by
    by_cases hv : v = b
    · subst hv; rw [routeL_at, routeL_at]
    · obtain ⟨k, hk, h1⟩ := h.on v0 v1 hd hv
      obtain ⟨m, h2, _, h3, h4, _⟩ := first_found (p := onB es bl d v) (k := es.length) (i := 0) ⟨k, Nat.zero_le _, by omega, h1⟩
      obtain ⟨g1, g2, g3, g4⟩ := onB_iff.1 h4
      obtain ⟨_, ⟨t0, t1⟩, _, c1, _⟩ := hr.at (show m < es.length by omega)
      match f, g with
      | 0, _ => omega
      | _ + 1, 0 => omega
      | f + 1, g + 1 =>
        rw [routeL_on hv h2, routeL_on hv h2, routeL_fuel h hr (f := f) (g := g) t0 t1 g3 (by omega) (by omega)]
/-- The cheapest way whose edges are least. -/
def routeF (es : List Ed) (bl : List Int) (b : Int) (d : Int → Int) (v : Int) : List Nat := routeL es bl b d (d v).toNat v
theorem routeF_at {es : List Ed} {bl : List Int} {b : Int} {d : Int → Int} : routeF es bl b d b = [] := routeL_at
theorem IsFar.step {n : Int} {es : List Ed} {bl : List Int} {b : Int} {d : Int → Int} (h : IsFar n es bl b d) (hr : RightL n es) {v : Int} (v0 : 0 ≤ v) (v1 : v < n) (hd : 0 ≤ d v) (hv : v ≠ b) {k : Nat} (hk : firstB (onB es bl d v) 0 es.length = some k) (hl : k < es.length) (hb : onB es bl d v k = true) :
    routeF es bl b d v = k :: routeF es bl b d (ate es k).2.1 ∧ 0 ≤ d (ate es k).2.1 ∧ d (ate es k).2.1 < d v ∧ 0 ≤ (ate es k).2.1 ∧ (ate es k).2.1 < n := by
  obtain ⟨g1, g2, g3, g4⟩ := onB_iff.1 hb
  obtain ⟨_, ⟨t0, t1⟩, _, c1, _⟩ := hr.at hl
  refine ⟨?_, g3, by omega, t0, t1⟩
  unfold routeF
  obtain ⟨f, hf⟩ : ∃ f, (d v).toNat = f + 1 := ⟨(d v).toNat - 1, by omega⟩
  rw [hf, routeL_on hv hk, routeL_fuel h hr (f := f) (g := (d (ate es k).2.1).toNat) t0 t1 g3 (by omega) (by omega)]
theorem IsFar.route {n : Int} {es : List Ed} {bl : List Int} {b : Int} {d : Int → Int} (h : IsFar n es bl b d) (hr : RightL n es) {v : Int} (v0 : 0 ≤ v) (v1 : v < n) (hd : 0 ≤ d v) : WayL es bl b v (routeF es bl b d v) ∧ costL es (routeF es bl b d v) = d v :=
  h.routed hr v0 v1 hd (by omega)
theorem routeF_congr {n : Int} {es : List Ed} {bl : List Int} {b : Int} {d g : Int → Int} (hr : RightL n es) (h : ∀ v, 0 ≤ v → v < n → d v = g v) {v : Int} (v0 : 0 ≤ v) (v1 : v < n) : routeF es bl b d v = routeF es bl b g v := by
  unfold routeF
  rw [h v v0 v1, routeL_congr hr h v0 v1]
theorem far_uniq {n : Int} {es : List Ed} {bl : List Int} {b : Int} {o p : List Int} (ho : o.length = n.toNat) (hp : p.length = n.toNat) (h : IsFar n es bl b (gi o)) (k : IsFar n es bl b (gi p)) : o = p := by
  refine List.ext_getElem (by omega) fun i h1 h2 => ?_
  have := h.uniq k (v := i) (by omega) (by omega)
  rw [gi_at (by simpa using h1), gi_at (by simpa using h2)] at this
  simpa using this
theorem onB_scale {n t : Int} {es : List Ed} {bl : List Int} {d : Int → Int} (ht : 1 ≤ t) {v : Int} (hd : 0 ≤ d v) {k : Nat} (hk : k < es.length) : onB (scale t es) bl (fun v => if 0 ≤ d v then d v * t else -1) v k = onB es bl d v k := by
  rw [Bool.eq_iff_iff, onB_iff, onB_iff, ate_scale hk]
  dsimp only
  rw [if_pos hd]
  by_cases hx : 0 ≤ d (ate es k).2.1
  · rw [if_pos hx]
    have h0 : 0 ≤ d (ate es k).2.1 * t := Int.mul_nonneg hx (by omega)
    have h1 : d (ate es k).2.1 * t + (ate es k).2.2 * t = d v * t ↔ d (ate es k).2.1 + (ate es k).2.2 = d v := by
      rw [← Int.add_mul]
      exact ⟨fun e => Int.eq_of_mul_eq_mul_right (by omega) e, fun e => by rw [e]⟩
    simp [h0, h1, hx, mayB]
  · rw [if_neg hx]
    constructor
    · rintro ⟨_, _, h, _⟩; omega
    · rintro ⟨_, _, h, _⟩; exact absurd h hx
theorem routeL_scale {n t : Int} {es : List Ed} {bl : List Int} {b : Int} {d : Int → Int} (ht : 1 ≤ t) (h : IsFar n es bl b d) (hr : RightL n es) : ∀ {f : Nat} {v : Int}, 0 ≤ v → v < n → 0 ≤ d v → routeL (scale t es) bl b (fun v => if 0 ≤ d v then d v * t else -1) f v = routeL es bl b d f v
  | 0, v, _, _, _ => rfl
  | f + 1, v, v0, v1, hd => by
    by_cases hv : v = b
    · subst hv; rw [routeL_at, routeL_at]
    · obtain ⟨k, hk, h1⟩ := h.on v0 v1 hd hv
      obtain ⟨m, h2, _, h3, h4, h5⟩ := first_found (p := onB es bl d v) (k := es.length) (i := 0) ⟨k, Nat.zero_le _, by omega, h1⟩
      have h6 : firstB (onB (scale t es) bl (fun v => if 0 ≤ d v then d v * t else -1) v) 0 (scale t es).length = some m := by
        rw [scale_len]
        exact firstB_some (Nat.zero_le _) h3 (by rw [onB_scale (n := n) ht hd (by omega)]; exact h4) fun j j0 j1 => by rw [onB_scale (n := n) ht hd (by omega)]; exact h5 j j0 j1
      obtain ⟨g1, g2, g3, g4⟩ := onB_iff.1 h4
      obtain ⟨_, ⟨t0, t1⟩, _⟩ := hr.at (show m < es.length by omega)
      rw [routeL_on hv h2, routeL_on hv h6, ate_scale (by omega), routeL_scale ht h hr t0 t1 g3]
theorem routeF_scale {n t : Int} {es : List Ed} {bl : List Int} {b : Int} {d : Int → Int} (ht : 1 ≤ t) (h : IsFar n es bl b d) (hr : RightL n es) {v : Int} (v0 : 0 ≤ v) (v1 : v < n) (hd : 0 ≤ d v) : routeF (scale t es) bl b (fun v => if 0 ≤ d v then d v * t else -1) v = routeF es bl b d v := by
  unfold routeF
  rw [routeL_scale ht h hr v0 v1 hd]
  dsimp only
  rw [if_pos hd]
  have : d v * 1 ≤ d v * t := Int.mul_le_mul_of_nonneg_left ht hd
  exact routeL_fuel h hr v0 v1 hd (by omega) (by omega)
/-- The node ahead of a way's edge. -/
def nodeAt (es : List Ed) (a : Int) (ks : List Nat) : Nat → Int
  | 0 => a
  | i + 1 => (ate es (ks.getD i 0)).2.1
theorem nodeAt_cons (es : List Ed) (a : Int) (k : Nat) (ks : List Nat) (i : Nat) : nodeAt es a (k :: ks) (i + 1) = nodeAt es (ate es k).2.1 ks i := by cases i <;> simp [nodeAt]
theorem WayL.at {es : List Ed} {bl : List Int} {b a : Int} {ks : List Nat} (h : WayL es bl b a ks) : nodeAt es a ks ks.length = b ∧ ∀ i, i < ks.length → ks.getD i 0 < es.length ∧ mayB bl (ate es (ks.getD i 0)) = true ∧ (ate es (ks.getD i 0)).1 = nodeAt es a ks i := by
  induction h with
  | nil => exact ⟨rfl, fun i hi => by simp at hi⟩
  | @cons k ks hk hm _ ih =>
    refine ⟨by rw [List.length_cons, nodeAt_cons]; exact ih.1, fun i hi => ?_⟩
    cases i with
    | zero => exact ⟨by simpa using hk, by simpa using hm, by simp [nodeAt]⟩
    | succ i =>
      have := ih.2 i (by simpa using hi)
      rw [nodeAt_cons]
      simpa using this
end Go.Proofs.Ythmblgfcjbiomaa.Rt
