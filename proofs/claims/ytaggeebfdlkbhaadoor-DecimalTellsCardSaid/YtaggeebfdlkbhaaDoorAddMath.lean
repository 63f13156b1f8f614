/- Plain: sums of decimals by their values. -/
import Derived.Test.YtaggeebfdlkbhaaDoorValue
set_option linter.unusedSimpArgs false
set_option linter.unusedVariables false
namespace Go.Proofs.YtaggeebfdlkbhaaDoor

theorem addS_comm (m e m' e' : Int) : addS m e m' e' = addS m' e' m e := by
  unfold addS
  by_cases h : rightB m e = true ∧ rightB m' e' = true
  · rw [if_pos h, if_pos ⟨h.2, h.1⟩, Int.add_comm]
  · rw [if_neg h, if_neg (fun x => h ⟨x.2, x.1⟩)]
theorem addS_zero {m' e' : Int} {e : Int} (h : rightB 0 e = true) (h' : rightB m' e' = true) : addS 0 e m' e' = (m', e', true) := by
  unfold addS
  rw [if_pos ⟨h, h'⟩, sv_zero, Int.zero_add]
  exact mk_sv_right h'
theorem addS_no {m e m' e' : Int} (h : ¬ (rightB m e = true ∧ rightB m' e' = true)) : addS m e m' e' = (0, 0, false) := by
  unfold addS; rw [if_neg h]
theorem addS_val {m e m' e' : Int} (h : rightB m e = true) (h' : rightB m' e' = true) (hle : e' ≤ e) : addS m e m' e' = mk (m * 10 ^ (e - e').toNat + m') e' := by
  obtain ⟨_, _, e1, _⟩ := rightB_bounds h
  obtain ⟨_, _, e2, _⟩ := rightB_bounds h'
  unfold addS
  rw [if_pos ⟨h, h'⟩]
  have : sv m e + sv m' e' = sv (m * 10 ^ (e - e').toNat + m') e' := by
    unfold sv
    rw [Int.add_mul, Int.mul_assoc, ← Int.pow_add]
    congr 3
    omega
  rw [this, mk_sv e2]
theorem mod_right {m e : Int} (h : rightB m e = true) (h0 : m ≠ 0) : m % 10 ≠ 0 := by
  unfold rightB at h; simp only [decide_eq_true_eq] at h; omega
theorem addS_far {m e m' e' : Int} (h : rightB m e = true) (h' : rightB m' e' = true) (hm' : m' ≠ 0) (hle : e' ≤ e) (hf : m * 10 ^ (e - e').toNat < -2000000000000000 ∨ 2000000000000000 < m * 10 ^ (e - e').toNat) : addS m e m' e' = (0, 0, false) := by
  rw [addS_val h h' hle]
  obtain ⟨a1, a2, _, _⟩ := rightB_bounds h
  obtain ⟨b1, b2, _, _⟩ := rightB_bounds h'
  have hk : (e - e').toNat ≠ 0 := by
    intro h0; rw [h0] at hf; simp at hf; omega
  obtain ⟨k, hk⟩ := Nat.exists_eq_succ_of_ne_zero hk
  rw [hk] at hf ⊢
  rw [Nat.succ_eq_add_one, Int.pow_succ, ← Int.mul_assoc] at hf ⊢
  have hm := mod_right h' hm'
  generalize m * 10 ^ k = q at *
  rw [mk_big]
  · omega
  · unfold p15; omega
end Go.Proofs.YtaggeebfdlkbhaaDoor
