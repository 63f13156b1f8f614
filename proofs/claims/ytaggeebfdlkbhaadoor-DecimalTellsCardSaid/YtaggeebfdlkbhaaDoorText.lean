/- Plain: what Parse makes of a text is the form of its value (parseS). -/
import Derived.Test.YtaggeebfdlkbhaaDoorParse
set_option linter.unusedSimpArgs false
set_option linter.unusedVariables false
namespace Go.Proofs.YtaggeebfdlkbhaaDoor

theorem fold_val (l : List UInt8) (a : Nat) : l.foldl (fun p c => p * 10 + (c.toNat - 48)) a = a * 10 ^ l.length + valD l := by
  induction l generalizing a with
  | nil => simp [valD]
  | cons c l ih =>
    unfold valD
    simp only [List.foldl_cons, List.length_cons]
    rw [ih, ih (0 * 10 + (c.toNat - 48)), Nat.pow_succ]
    simp only [Nat.zero_mul, Nat.zero_add, Nat.add_mul, Nat.mul_assoc, Nat.mul_comm 10]
    omega
theorem valD_append (a b : List UInt8) : valD (a ++ b) = valD a * 10 ^ b.length + valD b := by
  conv => lhs; unfold valD
  rw [List.foldl_append, fold_val]
  rfl
theorem valD_cons (c : UInt8) (l : List UInt8) : valD (c :: l) = (c.toNat - 48) * 10 ^ l.length + valD l := by
  rw [show c :: l = [c] ++ l from rfl, valD_append]
  simp [valD]
theorem valD_zeros (k : Nat) : valD (zeros k) = 0 := by
  induction k with
  | zero => rfl
  | succ k ih => rw [show zeros (k + 1) = 48 :: zeros k from rfl, valD_cons, ih]; simp
theorem valD_zeros_append (k : Nat) (l : List UInt8) : valD (zeros k ++ l) = valD l := by rw [valD_append, valD_zeros]; simp
theorem valD_append_zeros (k : Nat) (l : List UInt8) : valD (l ++ zeros k) = valD l * 10 ^ k := by rw [valD_append, valD_zeros, zeros_length]; simp

/-- A text of digits that begins and ends with none that is 0: it is empty, or as great as it is long, and no multiple of ten. -/
def Core (F : List UInt8) : Prop := Digs F ∧ (F = [] ∨ ((∃ c r, F = c :: r ∧ c ≠ 48) ∧ ∃ r c, F = r ++ [c] ∧ c ≠ 48))
theorem core_val {F : List UInt8} (h : Core F) (hne : F ≠ []) : 10 ^ (F.length - 1) ≤ valD F ∧ valD F % 10 ≠ 0 := by
  obtain ⟨hd, h | ⟨⟨c, r, e1, h1⟩, r', c', e2, h2⟩⟩ := h
  · exact absurd h hne
  · constructor
    · have hc := dig_le (hd c (by rw [e1]; simp))
      have hc2 : c.toNat ≠ 48 := fun e => h1 (UInt8.toNat_inj.1 e)
      rw [e1, valD_cons]
      simp only [List.length_cons, Nat.add_sub_cancel]
      have : 1 * 10 ^ r.length ≤ (c.toNat - 48) * 10 ^ r.length := Nat.mul_le_mul_right _ (by omega)
      omega
    · have hc := dig_le (hd c' (by rw [e2]; simp))
      have hc2 : c'.toNat ≠ 48 := fun e => h2 (UInt8.toNat_inj.1 e)
      rw [e2, valD_snoc]
      omega
theorem digs_dropL {k : Nat} {l : List UInt8} (h : Digs (zeros k ++ l)) : Digs l := fun c hc => h c (List.mem_append_right _ hc)

theorem dropWhile_split (l : List UInt8) : ∃ k, l = zeros k ++ l.dropWhile (· == 48) := by
  induction l with
  | nil => exact ⟨0, rfl⟩
  | cons c l ih =>
    by_cases h : c = 48
    · obtain ⟨k, hk⟩ := ih
      refine ⟨k + 1, ?_⟩
      rw [List.dropWhile_cons, if_pos (by simp [h]), show zeros (k + 1) = 48 :: zeros k from rfl, List.cons_append, ← hk, h]
    · exact ⟨0, by rw [List.dropWhile_cons, if_neg (by simp [h])]; rfl⟩
theorem dropWhile_head (l : List UInt8) : l.dropWhile (· == 48) = [] ∨ ∃ c r, l.dropWhile (· == 48) = c :: r ∧ c ≠ 48 := by
  induction l with
  | nil => exact .inl rfl
  | cons c l ih =>
    rw [List.dropWhile_cons]
    by_cases h : c = 48
    · rw [if_pos (by simp [h])]; exact ih
    · rw [if_neg (by simp [h])]; exact .inr ⟨c, l, rfl, h⟩
theorem zeros_reverse (k : Nat) : (zeros k).reverse = zeros k := by simp [zeros]
theorem trimR_split (l : List UInt8) : ∃ k, l = Lib.trimRightB l 48 ++ zeros k := by
  obtain ⟨k, hk⟩ := dropWhile_split l.reverse
  refine ⟨k, ?_⟩
  have := congrArg List.reverse hk
  rw [List.reverse_reverse, List.reverse_append, zeros_reverse] at this
  exact this
theorem trimR_last (l : List UInt8) : Lib.trimRightB l 48 = [] ∨ ∃ r c, Lib.trimRightB l 48 = r ++ [c] ∧ c ≠ 48 := by
  unfold Lib.trimRightB
  rcases dropWhile_head l.reverse with h | ⟨c, r, h, hc⟩
  · left; rw [h]; rfl
  · right; exact ⟨r.reverse, c, by rw [h]; simp, hc⟩

/-- What the two trims leave. -/
theorem trims (l : List UInt8) (hd : Digs l) : Core (Lib.trimRightB (Lib.trimLeftB l 48) 48) ∧
    valD l = valD (Lib.trimRightB (Lib.trimLeftB l 48) 48) * 10 ^ ((Lib.trimLeftB l 48).length - (Lib.trimRightB (Lib.trimLeftB l 48) 48).length) ∧
    (Lib.trimRightB (Lib.trimLeftB l 48) 48).length ≤ (Lib.trimLeftB l 48).length := by
  obtain ⟨k, hk⟩ := dropWhile_split l
  have hA : Lib.trimLeftB l 48 = l.dropWhile (· == 48) := rfl
  rw [← hA] at hk
  have hh := dropWhile_head l
  rw [← hA] at hh
  generalize Lib.trimLeftB l 48 = A at *
  obtain ⟨j, hj⟩ := trimR_split A
  have hl := trimR_last A
  have hdA : Digs A := by rw [hk] at hd; exact digs_dropL hd
  have hdF := trimr_digs hdA
  have hlen : A.length = (Lib.trimRightB A 48).length + j := by
    have := congrArg List.length hj
    rwa [List.length_append, zeros_length] at this
  refine ⟨⟨hdF, ?_⟩, ?_, by omega⟩
  · rcases hl with hl | hl
    · exact .inl hl
    · by_cases hF : Lib.trimRightB A 48 = []
      · exact .inl hF
      · refine .inr ⟨?_, hl⟩
        cases hF2 : Lib.trimRightB A 48 with
        | nil => exact absurd hF2 hF
        | cons c r =>
          refine ⟨c, r, rfl, ?_⟩
          rcases hh with hh | ⟨c', r', hh, hc'⟩
          · rw [hh] at hF2; simp [Lib.trimRightB] at hF2
          · rw [hF2, hh] at hj
            simp at hj
            rw [← hj.1]; exact hc'
  · rw [hk, valD_zeros_append, hlen, Nat.add_sub_cancel_left]
    conv => lhs; rw [hj]
    rw [valD_append_zeros]

theorem sgn_mul (b : Bool) (x : Int) (k : Nat) : sgn b (x * 10 ^ k) = sgn b x * 10 ^ k := by
  unfold sgn; split
  · rw [Int.neg_mul]
  · rfl
theorem sgn_zero (b : Bool) : sgn b 0 = 0 := by unfold sgn; split <;> rfl
theorem mk_out {q e : Int} (h0 : q % 10 ≠ 0) (h : e < -9 ∨ 9 < e) : mk q e = (0, 0, false) := by
  unfold mk
  rw [if_neg (by omega), strip_stop (.inr h0), if_neg]
  simp only
  omega
theorem mk_big {q e : Int} (h0 : q % 10 ≠ 0) (h : q < -p15 ∨ p15 < q) : mk q e = (0, 0, false) := by
  unfold mk
  rw [if_neg (by omega), strip_stop (.inr h0), if_neg]
  simp only
  omega
theorem sgn_mod {b : Bool} {n : Nat} (h : n % 10 ≠ 0) : sgn b (n : Int) % 10 ≠ 0 := by unfold sgn; split <;> omega

/-- The number that a numeral tells. -/
def valS (o : Option Numeral) : Int × Int × Bool :=
  match o with
  | none => (0, 0, false)
  | some (b, W, Fr, E) => mk (sgn b (valD (W ++ Fr))) (E - Fr.length)
def parseS (l : List UInt8) : Int × Int × Bool := if 400 < l.length then (0, 0, false) else valS (splitS l)

/-- With the power no farther than c to either side (and no shorter than a text is long) the form is the same. -/
theorem mk_clamp {b : Bool} {F : List UInt8} (hF : Core F) {E E' x : Int} {c : Int} (hc : 900 ≤ c) (hE : E' = E ∨ (c ≤ E' ∧ c ≤ E) ∨ (E' ≤ -c ∧ E ≤ -c)) (hx0 : -800 ≤ x) (hx1 : x ≤ 800) :
    mk (sgn b (valD F)) (E' + x) = mk (sgn b (valD F)) (E + x) := by
  rcases hE with rfl | hE
  · rfl
  · by_cases h : F = []
    · subst h
      rw [show ((valD [] : Nat) : Int) = 0 from rfl, sgn_zero, mk_zero, mk_zero]
    · have := (core_val hF h).2
      rw [mk_out (sgn_mod this) (by omega), mk_out (sgn_mod this) (by omega)]
theorem parts_val (b : Bool) (W Fr : List UInt8) (E : Int) (hd : Digs (W ++ Fr)) (hl : W.length + Fr.length ≤ 400) : partsS (some (b, W, Fr, E)) = valS (some (b, W, Fr, E)) := by
  unfold partsS valS formS
  obtain ⟨hc, hv, hle⟩ := trims (W ++ Fr) hd
  have hAl := triml_len (W ++ Fr)
  simp only
  rw [hv]
  generalize Lib.trimLeftB (W ++ Fr) 48 = A at *
  generalize Lib.trimRightB A 48 = F at *
  rw [Int.natCast_mul, Int.natCast_pow, show ((10 : Nat) : Int) = 10 from rfl, sgn_mul, mk_pow]
  rw [List.length_append] at hAl
  by_cases h18 : 18 < F.length
  · rw [if_pos h18]
    have hF : F ≠ [] := by intro e; rw [e] at h18; simp at h18
    obtain ⟨h1, h2⟩ := core_val hc hF
    have h3 : 10 ^ 18 ≤ valD F := Nat.le_trans (Nat.pow_le_pow_right (by decide) (by omega)) h1
    rw [mk_big (sgn_mod h2)]
    unfold sgn p15
    split <;> omega
  · rw [if_neg h18]
    have := mk_clamp (b := b) hc (E := E) (E' := clampE E) (x := (A.length : Int) - F.length - Fr.length) (c := 1000) (by omega) (by unfold clampE; omega) (by omega) (by omega)
    rw [show clampE E - (Fr.length : Int) + A.length - F.length = clampE E + ((A.length : Int) - F.length - Fr.length) by omega, this]
    congr 1
    omega

theorem parse_val (l : List UInt8) (h : l.length ≤ 400) : partsS (splitS l) = parseS l := by
  unfold parseS
  rw [if_neg (by omega)]
  cases hs : splitS l with
  | none => rfl
  | some p =>
    obtain ⟨b, W, Fr, E⟩ := p
    obtain ⟨d1, d2, d3⟩ := split_parts hs
    exact parts_val b W Fr E (digs_append d1 d2) (by omega)

open Go.RowKit in
theorem parse_any (l : List UInt8) (w : World) (hl : l.length ≤ 9223372036854775807) :
    Calls Tryd.prog 13 #[.string ⟨l.toArray⟩] w (Ret (mkV (parseS l)) w) := by
  by_cases h : l.length ≤ 400
  · rw [← parse_val l h]
    exact parse_core l w _ h rfl
  · have : parseS l = (0, 0, false) := by unfold parseS; rw [if_pos (by omega)]
    rw [this]
    have hs : (⟨l.toArray⟩ : ByteArray).size = l.length := List.size_toArray
    exact parse_long _ w (by omega) (by unfold maxLen; omega)
end Go.Proofs.YtaggeebfdlkbhaaDoor
