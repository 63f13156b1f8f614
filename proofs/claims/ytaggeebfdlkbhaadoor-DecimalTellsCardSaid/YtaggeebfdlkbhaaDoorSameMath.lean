/- Plain: a printed decimal with noughts behind its point, or with another power, as Parse takes it. -/
import Derived.Test.YtaggeebfdlkbhaaDoorBackMath
set_option linter.unusedSimpArgs false
set_option linter.unusedVariables false
namespace Go.Proofs.YtaggeebfdlkbhaaDoor

theorem any_append (a b : List UInt8) : (a ++ b).any (· == 46) = (a.any (· == 46) || b.any (· == 46)) := List.any_append
theorem digs_any {l : List UInt8} (h : Digs l) : l.any (· == 46) = false := by
  rw [List.any_eq_false]
  intro c hc h2
  have h1 := dig_le (h c hc)
  have h3 : c = 46 := by simpa using h2
  rw [h3] at h1
  exact absurd h1.1 (by decide)
theorem point_parts {m e : Int} {b : Bool} {W Fr : List UInt8} (h : Parts m e b W Fr) : (printS m e).any (· == 46) = !Fr.isEmpty := by
  rw [h.text, any_append, any_append, digs_any h.dW]
  have hs : (sg b).any (· == 46) = false := by unfold sg; split <;> rfl
  rw [hs]
  unfold ptl
  cases Fr with
  | nil => rfl
  | cons c r => rfl

/-- Noughts behind the digits behind a point. -/
theorem parse_noughts {m e : Int} {b : Bool} {W Fr : List UInt8} (hr : rightB m e = true) (h : Parts m e b W Fr) (hF : Fr ≠ []) (n : Nat) (hn : n ≤ 30) : parseS (printS m e ++ zeros n) = (m, e, true) := by
  have hlen := h.len
  have hbs : (sg b).length ≤ 1 := by unfold sg; split <;> simp
  have ht : printS m e ++ zeros n = sg b ++ (W ++ 46 :: ((Fr ++ zeros n) ++ [])) := by
    rw [h.text]; unfold ptl; rw [if_neg hF]; simp
  unfold parseS
  rw [ht, if_neg (by simp only [List.length_append, List.length_cons, zeros_length, List.length_nil]; omega),
    split_some h.dW h.good (digs_append h.dF (digs_zeros n)) (by simp [hF]) nonDig_nil]
  unfold tailS
  rw [if_pos (show ([] : List UInt8).isEmpty = true from rfl)]
  unfold valS
  simp only
  rw [← List.append_assoc, valD_append_zeros, Int.natCast_mul, Int.natCast_pow, show ((10 : Nat) : Int) = 10 from rfl, sgn_mul, mk_pow, List.length_append, zeros_length]
  have := h.val 0
  rw [show (0 : Int) - ((Fr.length + n : Nat) : Int) + (n : Int) = 0 - (Fr.length : Int) by omega, this, Int.add_zero]
  exact mk_right m e hr
/-- A point and noughts behind a whole number. -/
theorem parse_point {m e : Int} {b : Bool} {W Fr : List UInt8} (hr : rightB m e = true) (h : Parts m e b W Fr) (hF : Fr = []) (n : Nat) (hn : n ≤ 30) : parseS (printS m e ++ [46, 48] ++ zeros n) = (m, e, true) := by
  subst hF
  have hlen := h.len
  have hbs : (sg b).length ≤ 1 := by unfold sg; split <;> simp
  have ht : printS m e ++ [46, 48] ++ zeros n = sg b ++ (W ++ 46 :: (zeros (n + 1) ++ [])) := by
    rw [h.text]; simp [ptl]; rfl
  unfold parseS
  rw [ht, if_neg (by simp only [List.length_append, List.length_cons, zeros_length, List.length_nil]; omega),
    split_some h.dW h.good (digs_zeros (n + 1)) (by simp [zeros]) nonDig_nil]
  unfold tailS
  rw [if_pos (show ([] : List UInt8).isEmpty = true from rfl)]
  unfold valS
  simp only
  rw [valD_append_zeros, Int.natCast_mul, Int.natCast_pow, show ((10 : Nat) : Int) = 10 from rfl, sgn_mul, mk_pow, zeros_length]
  have := h.val 0
  rw [List.append_nil] at this
  rw [show (0 : Int) - ((n + 1 : Nat) : Int) + ((n + 1 : Nat) : Int) = 0 - (([] : List UInt8).length : Int) by simp; omega, this, Int.add_zero]
  exact mk_right m e hr
theorem parse_e0 {m e : Int} (hr : rightB m e = true) : parseS (printS m e ++ [101, 48]) = (m, e, true) := by
  obtain ⟨W, Fr, hp⟩ := print_parts hr
  rw [parse_tail hp (nonDig_cons (by decide)) (by decide) (by simp)]
  rw [show (if ([101, 48] : List UInt8).isEmpty = true then some 0 else powS [101, 48]) = some 0 by decide +kernel]
  show mk m (e + 0) = _
  rw [Int.add_zero]
  exact mk_right m e hr
theorem parse_e00 {m e : Int} (hr : rightB m e = true) : parseS (printS m e ++ [69, 43, 48, 48]) = (m, e, true) := by
  obtain ⟨W, Fr, hp⟩ := print_parts hr
  rw [parse_tail hp (nonDig_cons (by decide)) (by decide) (by simp)]
  rw [show (if ([69, 43, 48, 48] : List UInt8).isEmpty = true then some 0 else powS [69, 43, 48, 48]) = some 0 by decide +kernel]
  show mk m (e + 0) = _
  rw [Int.add_zero]
  exact mk_right m e hr
theorem parse_en {m e : Int} (hr : rightB m e = true) (n : Nat) (hn : n < 9) : parseS (printS m e ++ [101, 45, UInt8.ofNat (48 + n)]) = mk m (e - n) := by
  obtain ⟨W, Fr, hp⟩ := print_parts hr
  rw [parse_tail hp (nonDig_cons (by decide)) (by rfl) (by simp)]
  have : (if ([101, 45, UInt8.ofNat (48 + n)] : List UInt8).isEmpty = true then some 0 else powS [101, 45, UInt8.ofNat (48 + n)]) = some (-(n : Int)) := by
    rcases n with _ | _ | _ | _ | _ | _ | _ | _ | _ | n
    all_goals first | decide +kernel | omega
  rw [this]
  show mk m (e + -n) = _
  rw [show e + -(n : Int) = e - n by omega]
end Go.Proofs.YtaggeebfdlkbhaaDoor
