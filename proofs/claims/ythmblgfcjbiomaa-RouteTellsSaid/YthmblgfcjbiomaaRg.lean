import Derived.Test.YthmblgfcjbiomaaRe
import Derived.Test.YthmblgfcjbiomaaYd
/- The smallest calls of package route: Index and Contains of numbers, isNode, Cost. -/
set_option linter.unusedVariables false
set_option linter.unusedSimpArgs false
namespace Go.Proofs.Ythmblgfcjbiomaa.Rt
open Go.RowKit Ly

theorem ret_i {a b : Int} (h : a = b) : Ending.returned (.int .i64 a) = .returned (.int .i64 b) := by rw [h]
theorem index_any (l : List Int) (x : Int) (v : Value) (w : World) (h : IntsAt w v l) :
    Calls Try.prog 41 #[v, .int .i64 x] w (fun e w' => (∃ r : Int, e = .returned (.int .i64 r) ∧ Hid (0 ≤ r ↔ x ∈ l)) ∧ w = w') := by
  obtain ⟨ao, ac, rfl, h1, h2⟩ := h
  go_enter Try.func41, Try.ntmps41
  go_wp2
  go_loop [8] (fun i => ∃ k : Nat, k ≤ l.length ∧ i = .int .i64 k ∧ Hid (¬ x ∈ l.take k)) (fun i => l.length - (intOf i).toNat)
  case atStart => exact ⟨0, Nat.zero_le _, rfl, by show ¬ _; simp⟩
  case round =>
    obtain ⟨k, hk, rfl, hx⟩ := hrel
    by_cases hlt : k < l.length
    · obtain ⟨b1, o1, rfl, l1, c1⟩ := h2 (by omega)
      have g1 := c1 k hlt
      clear c1 h2
      by_cases e : ati l k = x
      · have HE : Hid (x ∈ l) := e ▸ ati_mem hlt
        subst e
        go_wp2
        go_ret
        exact ⟨⟨_, rfl, by show _ ↔ _; simp [HE.out]⟩, rfl⟩
      · have HE : Hid (¬ x ∈ l.take (k + 1)) := fun y => (mem_take_at hlt).1 y |>.elim hx.out e
        have e' : decide (x = ati l k) = false := by simpa using fun h => e h.symm
        go_wp2
        go_round
        case rel => exact ⟨k + 1, by omega, by go_num, HE⟩
        case measure => simp [intOf]; omega
    · have HE : Hid (¬ x ∈ l) := fun y => hx.out (by rwa [List.take_of_length_le (by omega)])
      go_wp2
      go_ret
      exact ⟨⟨_, rfl, by show _ ↔ _; simp [HE.out]⟩, rfl⟩
theorem contains_any (l : List Int) (x : Int) (v : Value) (w : World) (h : IntsAt w v l) (t : Bool) (ht : decide (x ∈ l) = t) :
    Calls Try.prog 38 #[v, .int .i64 x] w (fun e w' => e = .returned (.bool t) ∧ w = w') := by
  have C := Lib.hid (index_any l x v w h)
  have H := Lib.hid ht
  clear ht h
  obtain ⟨Q, HQ⟩ : ∃ Q, Hid ((fun e w' => e = Ending.returned (.bool t) ∧ w = w') = Q) := ⟨_, rfl⟩
  rw [HQ.out]
  go_enter Try.func38, Try.ntmps38
  go_wp2_with (go_at_call 41; (with_reducible refine (C.out).mono ?_); rintro e w1 ⟨⟨r, rfl, HR⟩, rfl⟩)
  rw [← HQ.out]
  exact ⟨ret_bool (by rw [← H.out, decide_eq_decide]; exact HR.out), rfl⟩
theorem node12_any (n a : Int) (v : Value) (w : World) (t : Bool) (h : nodeB n a = t) :
    Calls Try.prog 26 #[.agg #[.int .i64 n, v], .int .i64 a] w (Ret (.bool t) w) := by
  have H := Lib.hid h
  clear h
  have H0 : Hid (Below w.heap.size w (w.alloc (.cells #[.int .i64 n, v] 24))) := (Below.refl _ w).alloc (Nat.le_refl _) _
  obtain ⟨Q, HQ⟩ : ∃ Q, Hid (Ret (.bool t) w = Q) := ⟨_, rfl⟩
  rw [HQ.out]
  by_cases h0 : 0 ≤ a
  · go_enter Try.func26, Try.ntmps26
    go_wp2
    rw [← HQ.out]
    exact ⟨ret_bool (by rw [← H.out]; simp [nodeB, h0]), H0.out⟩
  · have h0' : decide (0 ≤ a) = false := by simpa using h0
    go_enter Try.func26, Try.ntmps26
    go_wp2
    rw [← HQ.out]
    exact ⟨ret_bool (by rw [← H.out]; unfold nodeB; rw [h0']; rfl), H0.out⟩

/-- What numbers that are edges cost together. -/
def costI (es : List Ed) : List Int → Int
  | [] => 0
  | x :: r => (if 0 ≤ x ∧ x.toNat < es.length then (ate es x.toNat).2.2 else 0) + costI es r
theorem costI_take (es : List Ed) : ∀ {ks : List Int} {k : Nat}, k < ks.length → costI es (ks.take (k + 1)) = costI es (ks.take k) + (if 0 ≤ ati ks k ∧ (ati ks k).toNat < es.length then (ate es (ati ks k).toNat).2.2 else 0)
  | [], k, h => by simp at h
  | x :: r, 0, h => by simp [costI, ati]
  | x :: r, k + 1, h => by
    have := costI_take es (ks := r) (k := k) (by simpa using h)
    rw [List.take_succ_cons, List.take_succ_cons]
    simp only [costI]
    rw [this]
    simp only [ati, List.getD_cons_succ] at this ⊢
    omega
/-- Each of them is a cost between 0 and 1000. -/
theorem costI_le {n : Int} {es : List Ed} (hr : RightL n es) (ks : List Int) (k : Nat) : 0 ≤ costI es (ks.take k) ∧ costI es (ks.take k) ≤ 1000 * (k : Int) := by
  induction k with
  | zero => simp [costI]
  | succ k ih =>
    by_cases hk : k < ks.length
    · rw [costI_take es hk]
      by_cases h : 0 ≤ ati ks k ∧ (ati ks k).toNat < es.length
      · rw [if_pos h]
        obtain ⟨_, _, _, c1, c2⟩ := hr.at h.2
        omega
      · rw [if_neg h]; omega
    · rw [List.take_of_length_le (by omega)]
      rw [List.take_of_length_le (by omega)] at ih
      omega
end Go.Proofs.Ythmblgfcjbiomaa.Rt
