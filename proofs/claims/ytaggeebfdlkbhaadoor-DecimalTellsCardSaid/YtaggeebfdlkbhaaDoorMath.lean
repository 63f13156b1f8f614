/- Plain numbers: the one form of a decimal (strip, mk), no program. -/
namespace Go.Proofs.YtaggeebfdlkbhaaDoor

/-- Noughts taken off a whole number's end: what is left, and how many there were. -/
def strip (m : Int) : Int × Nat :=
  if h : m ≠ 0 ∧ m % 10 = 0 then ((strip (m / 10)).1, (strip (m / 10)).2 + 1) else (m, 0)
termination_by m.natAbs
decreasing_by all_goals omega

def p15 : Int := 1000000000000000

/-- The form of m times 10^e (nothing and false, if there is none). -/
def mk (m e : Int) : Int × Int × Bool :=
  if m = 0 then (0, 0, true)
  else if -p15 ≤ (strip m).1 ∧ (strip m).1 ≤ p15 ∧ -9 ≤ e + (strip m).2 ∧ e + (strip m).2 ≤ 9 then ((strip m).1, e + (strip m).2, true)
  else (0, 0, false)

def rightB (m e : Int) : Bool := decide ((m = 0 ∧ e = 0) ∨ (m % 10 ≠ 0 ∧ -p15 ≤ m ∧ m ≤ p15 ∧ -9 ≤ e ∧ e ≤ 9))

theorem strip_stop {m : Int} (h : m = 0 ∨ m % 10 ≠ 0) : strip m = (m, 0) := by
  rw [strip, dif_neg (by omega)]
theorem strip_step {m : Int} (h0 : m ≠ 0) (h : m % 10 = 0) : strip m = ((strip (m / 10)).1, (strip (m / 10)).2 + 1) := by
  rw [strip, dif_pos ⟨h0, h⟩]
theorem strip_mul {m : Int} (h0 : m ≠ 0) : strip (m * 10) = ((strip m).1, (strip m).2 + 1) := by
  rw [strip_step (by omega) (by omega)]
  rw [show m * 10 / 10 = m by omega]

theorem strip_ne (m : Int) (h : m ≠ 0) : (strip m).1 % 10 ≠ 0 ∧ (strip m).1 ≠ 0 := by
  induction hn : m.natAbs using Nat.strongRecOn generalizing m with
  | _ n ih =>
    by_cases hd : m % 10 = 0
    · rw [strip_step h hd]
      exact ih (m / 10).natAbs (by omega) (m / 10) (by omega) rfl
    · rw [strip_stop (.inr hd)]
      exact ⟨hd, h⟩

theorem strip_val (m : Int) : m = (strip m).1 * 10 ^ (strip m).2 := by
  induction hn : m.natAbs using Nat.strongRecOn generalizing m with
  | _ n ih =>
    by_cases h : m ≠ 0 ∧ m % 10 = 0
    · rw [strip_step h.1 h.2]
      have := ih (m / 10).natAbs (by omega) (m / 10) rfl
      show m = (strip (m / 10)).1 * 10 ^ ((strip (m / 10)).2 + 1)
      rw [Int.pow_succ, ← Int.mul_assoc, ← this]
      omega
    · rw [strip_stop (by omega)]; simp

/-- A number without noughts at its end, with noughts: stripped, it is that one. -/
theorem strip_pow {q : Int} (h : q % 10 ≠ 0) (k : Nat) : strip (q * 10 ^ k) = (q, k) := by
  induction k with
  | zero => simp [strip_stop (.inr h)]
  | succ k ih =>
    rw [Int.pow_succ, ← Int.mul_assoc, strip_mul, ih]
    intro h0
    rcases Int.mul_eq_zero.1 h0 with h0 | h0
    · omega
    · exact absurd h0 (Int.pow_ne_zero (by decide))

theorem mk_zero (e : Int) : mk 0 e = (0, 0, true) := by simp [mk]
theorem mk_mul (m e : Int) : mk (m * 10) e = mk m (e + 1) := by
  by_cases h : m = 0
  · subst h; simp [mk]
  · unfold mk
    rw [if_neg (by omega), if_neg h, strip_mul h]
    have : e + (((strip m).2 + 1 : Nat) : Int) = e + 1 + ((strip m).2 : Int) := by omega
    simp only [this]
theorem mk_pow (m e : Int) (k : Nat) : mk (m * 10 ^ k) e = mk m (e + k) := by
  induction k generalizing e with
  | zero => simp
  | succ k ih =>
    rw [Int.pow_succ, ← Int.mul_assoc, mk_mul, ih]
    congr 1; omega

theorem mk_right (m e : Int) (h : rightB m e = true) : mk m e = (m, e, true) := by
  unfold rightB at h
  simp only [decide_eq_true_eq] at h
  unfold mk
  by_cases hm : m = 0
  · subst hm; simp at h; simp [h]
  · rw [if_neg hm, strip_stop (by omega)]
    simp
    omega
theorem mk_is_right (m e : Int) (h : (mk m e).2.2 = true) : rightB (mk m e).1 (mk m e).2.1 = true := by
  unfold mk at h ⊢
  unfold rightB
  simp only [decide_eq_true_eq]
  split
  · simp
  · rename_i h0
    split
    · rename_i h1
      have := strip_ne m h0
      right
      exact ⟨this.1, h1⟩
    · rename_i h1
      rw [if_neg h0, if_neg h1] at h
      cases h
theorem mk_not (m e : Int) (h : (mk m e).2.2 = false) : mk m e = (0, 0, false) := by
  unfold mk at h ⊢
  split at h
  · cases h
  · split at h
    · cases h
    · rename_i h0 h1
      rw [if_neg h0, if_neg h1]
theorem mk_right_iff (m e : Int) : rightB m e = true ↔ mk m e = (m, e, true) :=
  ⟨mk_right m e, fun h => by have := mk_is_right m e (by rw [h]); rw [h] at this; exact this⟩
end Go.Proofs.YtaggeebfdlkbhaaDoor
namespace Go.Proofs.YtaggeebfdlkbhaaDoor
theorem tmod10 (q : Int) : (q.tmod 10 = 0) ↔ q % 10 = 0 := by
  constructor
  · intro h; have := Int.dvd_of_tmod_eq_zero h; omega
  · intro h; exact Int.tmod_eq_zero_of_dvd (by omega)
theorem tdiv10 {q : Int} (h : q % 10 = 0) : q.tdiv 10 = q / 10 := Int.tdiv_eq_ediv_of_dvd (by omega)
theorem tmod10_t {q : Int} (h : q % 10 = 0) : (q.tmod 10 == 0) = true := by simp [(tmod10 q).2 h]
theorem tmod10_f {q : Int} (h : q % 10 ≠ 0) : (q.tmod 10 == 0) = false := by
  rw [beq_eq_false_iff_ne]; intro h2; exact h ((tmod10 q).1 h2)
end Go.Proofs.YtaggeebfdlkbhaaDoor
