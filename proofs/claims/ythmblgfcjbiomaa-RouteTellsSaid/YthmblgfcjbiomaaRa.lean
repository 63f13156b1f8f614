import Derived.Test.YthmblgfcjbiomaaYa
/- The cheapest ways in a layout: plain lists. -/
set_option linter.unusedVariables false
set_option linter.unusedSimpArgs false
namespace Go.Proofs.Ythmblgfcjbiomaa.Rt
open Ly

/-- An edge may be gone: it does not lead to what is blocked. -/
def mayB (bl : List Int) (e : Ed) : Bool := !decide (e.2.1 ∈ bl)
theorem mayB_iff {bl : List Int} {e : Ed} : mayB bl e = true ↔ e.2.1 ∉ bl := by simp [mayB]
/-- A way: its edges' places. -/
inductive WayL (es : List Ed) (bl : List Int) (b : Int) : Int → List Nat → Prop
  | nil : WayL es bl b b []
  | cons {k : Nat} {ks : List Nat} : k < es.length → mayB bl (ate es k) = true → WayL es bl b (ate es k).2.1 ks → WayL es bl b (ate es k).1 (k :: ks)
def costL (es : List Ed) : List Nat → Int
  | [] => 0
  | k :: ks => (ate es k).2.2 + costL es ks
theorem costL_append (es : List Ed) (ks ls : List Nat) : costL es (ks ++ ls) = costL es ks + costL es ls := by
  induction ks with
  | nil => simp [costL]
  | cons k r ih => simp [costL, ih]; omega
theorem WayL.step {es : List Ed} {bl : List Int} {b a : Int} {k : Nat} {ks : List Nat} (hk : k < es.length) (hm : mayB bl (ate es k) = true) (ha : (ate es k).1 = a) (h : WayL es bl b (ate es k).2.1 ks) : WayL es bl b a (k :: ks) := by
  subst ha
  exact .cons hk hm h
theorem WayL.trans {es : List Ed} {bl : List Int} {a b c : Int} {ks ls : List Nat} (h : WayL es bl b a ks) (h2 : WayL es bl c b ls) : WayL es bl c a (ks ++ ls) := by
  induction h with
  | nil => exact h2
  | cons hk hm _ ih => exact .cons hk hm ih
theorem WayL.mono {es : List Ed} {bl bm : List Int} {a b : Int} {ks : List Nat} (hs : ∀ x, x ∈ bl → x ∈ bm) (h : WayL es bm b a ks) : WayL es bl b a ks := by
  induction h with
  | nil => exact .nil
  | cons hk hm _ ih => exact .cons hk (mayB_iff.2 fun hx => mayB_iff.1 hm (hs _ hx)) ih
/-- Edges of the same ends, whatever they cost. -/
theorem WayL.alike {es fs : List Ed} {bl : List Int} {a b : Int} {ks : List Nat} (hl : es.length ≤ fs.length) (he : ∀ k, k < es.length → (ate fs k).1 = (ate es k).1 ∧ (ate fs k).2.1 = (ate es k).2.1) (h : WayL es bl b a ks) : WayL fs bl b a ks := by
  induction h with
  | nil => exact .nil
  | @cons k ks hk hm _ ih =>
    obtain ⟨h1, h2⟩ := he k hk
    refine WayL.step (by omega) ?_ h1 (by rw [h2]; exact ih)
    rw [mayB_iff] at hm ⊢
    rw [h2]
    exact hm
theorem WayL.lt {es : List Ed} {bl : List Int} {a b : Int} {ks : List Nat} (h : WayL es bl b a ks) : ∀ k ∈ ks, k < es.length := by
  induction h with
  | nil => simp
  | cons hk hm _ ih =>
    intro k hx
    rcases List.mem_cons.1 hx with rfl | hx
    · exact hk
    · exact ih _ hx
/-- What one comes to is told by ways. -/
theorem way_of {es : List Ed} {bl : List Int} {a b : Int} {ks : List Nat} (h : WayL es bl b a ks) : Ly.Way es bl a b := by
  induction h with
  | nil => exact .here
  | @cons k ks hk hm _ ih => exact Ly.Way.trans (.over (ate_mem hk) .here (mayB_iff.1 hm)) ih
theorem of_way {es : List Ed} {bl : List Int} {a b : Int} (h : Ly.Way es bl a b) : ∃ ks, WayL es bl b a ks := by
  induction h with
  | here => exact ⟨[], .nil⟩
  | @over e he _ hb ih =>
    obtain ⟨ks, hk⟩ := ih
    obtain ⟨i, hi, rfl⟩ := mem_ate he
    exact ⟨ks ++ [i], hk.trans (.cons hi (mayB_iff.2 hb) .nil)⟩
/-- Costs to a node, as they are told: -1 where there is no way. -/
structure IsFar (n : Int) (es : List Ed) (bl : List Int) (b : Int) (d : Int → Int) : Prop where
  here : d b = 0
  low : ∀ v, 0 ≤ v → v < n → -1 ≤ d v
  way : ∀ v, 0 ≤ v → v < n → 0 ≤ d v → ∃ ks, WayL es bl b v ks ∧ costL es ks = d v
  shut : ∀ k, k < es.length → mayB bl (ate es k) = true → 0 ≤ d (ate es k).2.1 → 0 ≤ d (ate es k).1 ∧ d (ate es k).1 ≤ d (ate es k).2.1 + (ate es k).2.2
/-- No way costs less. -/
theorem IsFar.least {n : Int} {es : List Ed} {bl : List Int} {b : Int} {d : Int → Int} (h : IsFar n es bl b d) {v : Int} {ks : List Nat} (hw : WayL es bl b v ks) : 0 ≤ d v ∧ d v ≤ costL es ks := by
  induction hw with
  | nil => rw [h.here]; exact ⟨by omega, by simp [costL]⟩
  | @cons k ks hk hm _ ih =>
    have := h.shut k hk hm ih.1
    exact ⟨this.1, by simp only [costL]; omega⟩
theorem IsFar.reach {n : Int} {es : List Ed} {bl : List Int} {b : Int} {d : Int → Int} (h : IsFar n es bl b d) {v : Int} (h0 : 0 ≤ v) (h1 : v < n) : 0 ≤ d v ↔ Ly.Way es bl v b := by
  constructor
  · intro hd
    obtain ⟨ks, hk, _⟩ := h.way v h0 h1 hd
    exact way_of hk
  · intro hw
    obtain ⟨ks, hk⟩ := of_way hw
    exact (h.least hk).1
/-- Costs are told but one way. -/
theorem IsFar.uniq {n : Int} {es : List Ed} {bl : List Int} {b : Int} {d f : Int → Int} (h : IsFar n es bl b d) (k : IsFar n es bl b f) {v : Int} (h0 : 0 ≤ v) (h1 : v < n) : d v = f v := by
  have a1 := h.low v h0 h1
  have a2 := k.low v h0 h1
  by_cases hd : 0 ≤ d v
  · obtain ⟨ks, hk, hc⟩ := h.way v h0 h1 hd
    have b1 := k.least hk
    obtain ⟨ls, hl, hc2⟩ := k.way v h0 h1 b1.1
    have b2 := h.least hl
    omega
  · by_cases hf : 0 ≤ f v
    · obtain ⟨ls, hl, hc2⟩ := k.way v h0 h1 hf
      have b2 := h.least hl
      omega
    · omega
/-- More that is blocked makes nothing cheaper; dearer edges neither. -/
theorem IsFar.more {n : Int} {es fs : List Ed} {bl bm : List Int} {b : Int} {d f : Int → Int} (h : IsFar n es bl b d) (k : IsFar n fs bm b f) (hs : ∀ x, x ∈ bl → x ∈ bm) (hl : fs.length ≤ es.length)
    (he : ∀ k, k < fs.length → (ate es k).1 = (ate fs k).1 ∧ (ate es k).2.1 = (ate fs k).2.1 ∧ (ate es k).2.2 ≤ (ate fs k).2.2) {v : Int} (h0 : 0 ≤ v) (h1 : v < n) (hf : 0 ≤ f v) : 0 ≤ d v ∧ d v ≤ f v := by
  obtain ⟨ks, hk, hc⟩ := k.way v h0 h1 hf
  have h2 := h.least ((hk.alike hl fun k hk => ⟨(he k hk).1, (he k hk).2.1⟩).mono hs)
  refine ⟨h2.1, Int.le_trans h2.2 ?_⟩
  rw [← hc]
  have hlt := hk.lt
  clear hk hc h2
  induction ks with
  | nil => simp [costL]
  | cons k r ih =>
    have h3 := (he k (hlt k (by simp))).2.2
    have h4 := ih fun x hx => hlt x (by simp [hx])
    simp only [costL]
    omega
/-- With all costs times a number. -/
def scale (t : Int) (es : List Ed) : List Ed := es.map fun e => (e.1, e.2.1, e.2.2 * t)
theorem scale_len (t : Int) (es : List Ed) : (scale t es).length = es.length := by simp [scale]
theorem ate_scale {t : Int} {es : List Ed} {k : Nat} (hk : k < es.length) : ate (scale t es) k = ((ate es k).1, (ate es k).2.1, (ate es k).2.2 * t) := by
  rw [ate_lt (by simpa [scale] using hk), ate_lt hk]
  simp [scale]
theorem costL_scale {t : Int} {es : List Ed} {ks : List Nat} (h : ∀ k ∈ ks, k < es.length) : costL (scale t es) ks = costL es ks * t := by
  induction ks with
  | nil => simp [costL]
  | cons k r ih =>
    simp only [costL]
    rw [ih fun x hx => h x (by simp [hx]), ate_scale (h k (by simp)), Int.add_mul]
theorem IsFar.scaled {n t : Int} {es : List Ed} {bl : List Int} {b : Int} {d : Int → Int} (h : IsFar n es bl b d) (ht : 1 ≤ t) : IsFar n (scale t es) bl b (fun v => if 0 ≤ d v then d v * t else -1) := by
  have pos : ∀ x : Int, 0 ≤ x → 0 ≤ x * t := fun x hx => Int.mul_nonneg hx (by omega)
  refine ⟨by simp [h.here], fun v h0 h1 => ?_, fun v h0 h1 hd => ?_, fun k hk hm hd => ?_⟩
  · by_cases hv : 0 ≤ d v
    · rw [if_pos hv]; have := pos _ hv; omega
    · rw [if_neg hv]; omega
  · by_cases hv : 0 ≤ d v
    · rw [if_pos hv]
      obtain ⟨ks, hk, hc⟩ := h.way v h0 h1 hv
      refine ⟨ks, hk.alike (by simp [scale_len]) fun k hk => ?_, ?_⟩
      · rw [ate_scale hk]; exact ⟨rfl, rfl⟩
      · rw [costL_scale hk.lt, hc]
    · rw [if_neg hv] at hd; omega
  · rw [scale_len] at hk
    rw [ate_scale hk] at hm hd ⊢
    dsimp only at hd ⊢
    by_cases hv : 0 ≤ d (ate es k).2.1
    · have h2 := h.shut k hk hm hv
      rw [if_pos hv, if_pos h2.1]
      refine ⟨pos _ h2.1, ?_⟩
      rw [← Int.add_mul]
      exact Int.mul_le_mul_of_nonneg_right h2.2 (by omega)
    · rw [if_neg hv] at hd; omega
end Go.Proofs.Ythmblgfcjbiomaa.Rt
