/- Plain: decimals by their values (sv), and texts of digits in the order of their bytes. -/
import Derived.Test.YtaggeebfdlkbhaaDoorBackMath
set_option linter.unusedSimpArgs false
set_option linter.unusedVariables false
namespace Go.Proofs.YtaggeebfdlkbhaaDoor

/-- A decimal's value, times 10^9. -/
def sv (m e : Int) : Int := m * 10 ^ (e + 9).toNat
theorem mk_sv {m e : Int} (he : -9 ≤ e) : mk (sv m e) (-9) = mk m e := by
  unfold sv
  rw [mk_pow]
  congr 1
  omega
theorem mk_sv_right {m e : Int} (h : rightB m e = true) : mk (sv m e) (-9) = (m, e, true) := by
  rw [mk_sv (rightB_bounds h).2.2.1]
  exact mk_right m e h
theorem sv_mk {V r1 r2 : Int} (h : mk V (-9) = (r1, r2, true)) : sv r1 r2 = V := by
  unfold mk at h
  split at h
  · rename_i h0
    simp only [Prod.mk.injEq] at h
    rw [← h.1, ← h.2.1, h0]; rfl
  · split at h
    · simp only [Prod.mk.injEq] at h
      have hv := strip_val V
      rw [h.1] at hv
      unfold sv
      rw [show (r2 + 9).toNat = (strip V).2 by omega]
      exact hv.symm
    · simp at h
theorem sv_inj {m e m' e' : Int} (h : rightB m e = true) (h' : rightB m' e' = true) (hv : sv m e = sv m' e') : m = m' ∧ e = e' := by
  have h1 := mk_sv_right h
  have h2 := mk_sv_right h'
  rw [hv, h2] at h1
  simp only [Prod.mk.injEq, and_true] at h1
  exact ⟨h1.1.symm, h1.2.symm⟩
theorem sv_neg (m e : Int) : sv (-m) e = -sv m e := by unfold sv; rw [Int.neg_mul]
theorem sv_zero (e : Int) : sv 0 e = 0 := by unfold sv; simp
theorem pow_pos10 (k : Nat) : (0 : Int) < 10 ^ k := Int.pow_pos (by decide)
theorem sv_pos {m e : Int} (h : 0 < m) : 0 < sv m e := Int.mul_pos h (pow_pos10 _)
theorem sv_lt {m e : Int} (h : m < 0) : sv m e < 0 := by
  have := sv_pos (m := -m) (e := e) (by omega)
  rw [sv_neg] at this
  omega
theorem right_neg {m e : Int} (h : rightB m e = true) : rightB (-m) e = true := by
  unfold rightB at *
  simp only [decide_eq_true_eq] at *
  omega
theorem sv_nat (m e : Int) : sv m.natAbs e = (m.natAbs : Int).natAbs * 10 ^ (e + 9).toNat := by unfold sv; rfl

/-- What Compare tells. -/
def cmpD (m e m' e' : Int) : Int := if rightB m e = true ∧ rightB m' e' = true then cmpI (sv m e) (sv m' e') else 0
/-- What Add tells. -/
def addS (m e m' e' : Int) : Int × Int × Bool := if rightB m e = true ∧ rightB m' e' = true then mk (sv m e + sv m' e') (-9) else (0, 0, false)

theorem cmpI_eq {a b : Int} (h : a = b) : cmpI a b = 0 := by unfold cmpI; rw [if_neg (by omega), if_neg (by omega)]
theorem cmpI_less {a b : Int} (h : a < b) : cmpI a b = -1 := by unfold cmpI; rw [if_pos h]
theorem cmpI_more {a b : Int} (h : b < a) : cmpI a b = 1 := by unfold cmpI; rw [if_neg (by omega), if_pos h]

/-! ### Texts of digits -/
def LastNZ (B : List UInt8) : Prop := B = [] ∨ ∃ r c, B = r ++ [c] ∧ c ≠ 48
theorem lastNZ_tail {b : UInt8} {B : List UInt8} (h : LastNZ (b :: B)) : LastNZ B := by
  rcases h with h | ⟨r, c, h, hc⟩
  · cases h
  · cases r with
    | nil => simp at h; exact .inl h.2
    | cons x r => simp at h; exact .inr ⟨r, c, h.2, hc⟩
/-- A text of digits as a number of N digits. -/
def fv (N : Nat) (A : List UInt8) : Nat := valD A * 10 ^ (N - A.length)
theorem fv_lt {N : Nat} {A : List UInt8} (hd : Digs A) (hN : A.length ≤ N) : fv N A < 10 ^ N := by
  have h1 := valD_lt A hd
  have h2 : 10 ^ A.length * 10 ^ (N - A.length) = 10 ^ N := by rw [← Nat.pow_add]; congr 1; omega
  have h3 : 0 < 10 ^ (N - A.length) := Nat.pow_pos (by decide)
  unfold fv
  rw [← h2]
  exact Nat.mul_lt_mul_of_pos_right h1 h3
theorem fv_cons {N : Nat} {a : UInt8} {A : List UInt8} (hN : (a :: A).length ≤ N) : fv N (a :: A) = (a.toNat - 48) * 10 ^ (N - 1) + fv (N - 1) A := by
  unfold fv
  rw [valD_cons, Nat.add_mul, Nat.mul_assoc, ← Nat.pow_add]
  simp only [List.length_cons] at *
  rw [show A.length + (N - (A.length + 1)) = N - 1 by omega, show N - (A.length + 1) = N - 1 - A.length by omega]
theorem valD_pos {B : List UInt8} (hd : Digs B) (hl : LastNZ B) (hne : B ≠ []) : 0 < valD B := by
  rcases hl with h | ⟨r, c, h, hc⟩
  · exact absurd h hne
  · have h1 := dig_le (hd c (by rw [h]; simp))
    have h2 : c.toNat ≠ 48 := fun e => hc (UInt8.toNat_inj.1 e)
    rw [h, valD_snoc]
    omega
theorem less_fv {A B : List UInt8} {N : Nat} (hA : Digs A) (hB : Digs B) (hAN : A.length ≤ N) (hBN : B.length ≤ N) (hl : LastNZ B ∨ A.length = B.length) (h : Op.bytesLess A B = true) : fv N A < fv N B := by
  induction A generalizing B N with
  | nil =>
    cases B with
    | nil => simp [Op.bytesLess] at h
    | cons b B =>
      have hp := valD_pos hB (by rcases hl with hl | hl; exact hl; simp at hl) (by simp)
      unfold fv
      have : 0 < 10 ^ (N - (b :: B).length) := Nat.pow_pos (by decide)
      have h2 := Nat.mul_pos hp this
      simpa [valD] using h2
  | cons a A ih =>
    cases B with
    | nil => simp [Op.bytesLess] at h
    | cons b B =>
      have ha := dig_le (hA a (by simp))
      have hb := dig_le (hB b (by simp))
      rw [fv_cons hAN, fv_cons hBN]
      have hA' : Digs A := fun c hc => hA c (by simp [hc])
      have hB' : Digs B := fun c hc => hB c (by simp [hc])
      simp only [List.length_cons] at hAN hBN hl
      rcases Nat.lt_trichotomy a.toNat b.toNat with hab | hab | hab
      · have h1 := fv_lt hA' (N := N - 1) (by omega)
        have h2 : (a.toNat - 48 + 1) * 10 ^ (N - 1) ≤ (b.toNat - 48) * 10 ^ (N - 1) := Nat.mul_le_mul_right _ (by omega)
        rw [Nat.add_mul] at h2
        omega
      · have hab' : a = b := UInt8.toNat_inj.1 hab
        subst hab'
        have h2 : Op.bytesLess A B = true := by simpa [Op.bytesLess] using h
        have := ih hA' hB' (N := N - 1) (by omega) (by omega) (by rcases hl with hl | hl; exact .inl (lastNZ_tail hl); exact .inr (by omega)) h2
        omega
      · exfalso
        have h1 : ¬ a < b := by rw [UInt8.lt_iff_toNat_lt]; omega
        have h2 : b < a := by rw [UInt8.lt_iff_toNat_lt]; omega
        simp [Op.bytesLess, h1, h2] at h
        rw [h.1] at hab
        omega
theorem less_total (A B : List UInt8) (h1 : Op.bytesLess A B = false) (h2 : Op.bytesLess B A = false) : A = B := by
  induction A generalizing B with
  | nil =>
    cases B with
    | nil => rfl
    | cons b B => simp [Op.bytesLess] at h1
  | cons a A ih =>
    cases B with
    | nil => simp [Op.bytesLess] at h2
    | cons b B =>
      rcases Nat.lt_trichotomy a.toNat b.toNat with hab | hab | hab
      · have : a < b := by rw [UInt8.lt_iff_toNat_lt]; omega
        simp [Op.bytesLess, this] at h1
      · have hab' : a = b := UInt8.toNat_inj.1 hab
        subst hab'
        rw [ih B (by simpa [Op.bytesLess] using h1) (by simpa [Op.bytesLess] using h2)]
      · have : b < a := by rw [UInt8.lt_iff_toNat_lt]; omega
        simp [Op.bytesLess, this] at h2

def cmpS (A B : List UInt8) : Int := if Op.bytesLess A B = true then -1 else if Op.bytesLess B A = true then 1 else 0
/-- Compare without signs, as the program reckons it. -/
def sizeS (m e m' e' : Int) : Int :=
  if cmpI ((Lib.decDigits m.natAbs).length + e) ((Lib.decDigits m'.natAbs).length + e') ≠ 0 then cmpI ((Lib.decDigits m.natAbs).length + e) ((Lib.decDigits m'.natAbs).length + e')
  else cmpS (Lib.decDigits m.natAbs) (Lib.decDigits m'.natAbs)
theorem cmpI_range (a b : Int) : -1 ≤ cmpI a b ∧ cmpI a b ≤ 1 := by unfold cmpI; split <;> (try split) <;> omega
theorem cmpS_range (a b : List UInt8) : -1 ≤ cmpS a b ∧ cmpS a b ≤ 1 := by unfold cmpS; split <;> (try split) <;> omega
theorem sizeS_range (m e m' e' : Int) : -1 ≤ sizeS m e m' e' ∧ sizeS m e m' e' ≤ 1 := by
  unfold sizeS; split
  · exact cmpI_range _ _
  · exact cmpS_range _ _

/-- A number's value between the powers of ten that its digits tell. -/
theorem sv_between {m e : Int} (hm : m ≠ 0) (he : -9 ≤ e) : (10 : Int) ^ ((Lib.decDigits m.natAbs).length - 1 + (e + 9).toNat) ≤ sv m.natAbs e ∧ sv m.natAbs e < 10 ^ ((Lib.decDigits m.natAbs).length + (e + 9).toNat) := by
  have h1 := valD_lt _ (decDigits_digs m.natAbs)
  rw [decDigits_val] at h1
  have h2 : 10 ^ ((Lib.decDigits m.natAbs).length - 1) ≤ m.natAbs := by
    obtain ⟨c, r, hc, hne⟩ := decDigits_head m.natAbs (by omega)
    have hd := dig_le (decDigits_digs m.natAbs c (by rw [hc]; simp))
    have hc2 : c.toNat ≠ 48 := fun e => hne (UInt8.toNat_inj.1 e)
    have hv := decDigits_val m.natAbs
    rw [hc, valD_cons] at hv
    rw [hc]
    simp only [List.length_cons, Nat.add_sub_cancel]
    have : 1 * 10 ^ r.length ≤ (c.toNat - 48) * 10 ^ r.length := Nat.mul_le_mul_right _ (by omega)
    omega
  have hp : 0 < 10 ^ (e + 9).toNat := Nat.pow_pos (by decide)
  have h3 : 10 ^ ((Lib.decDigits m.natAbs).length - 1) * 10 ^ (e + 9).toNat ≤ m.natAbs * 10 ^ (e + 9).toNat := Nat.mul_le_mul_right _ h2
  have h4 : m.natAbs * 10 ^ (e + 9).toNat < 10 ^ (Lib.decDigits m.natAbs).length * 10 ^ (e + 9).toNat := Nat.mul_lt_mul_of_pos_right h1 hp
  rw [← Nat.pow_add] at h3 h4
  unfold sv
  constructor
  · have := Int.ofNat_le.2 h3
    simpa using this
  · have := Int.ofNat_lt.2 h4
    simpa using this
theorem pow_mono10 {a b : Nat} (h : a ≤ b) : (10 : Int) ^ a ≤ 10 ^ b := by
  have := Int.ofNat_le.2 (Nat.pow_le_pow_right (n := 10) (by decide) h)
  simpa using this

theorem fv_sv {m e : Int} (he : -9 ≤ e) {N : Nat} (hN : (N : Int) = (Lib.decDigits m.natAbs).length + e + 9) : (fv N (Lib.decDigits m.natAbs) : Int) = sv m.natAbs e := by
  unfold fv sv
  rw [decDigits_val, show N - (Lib.decDigits m.natAbs).length = (e + 9).toNat by omega]
  simp
theorem right_last {m e : Int} (h : rightB m e = true) (hm : m ≠ 0) : LastNZ (Lib.decDigits m.natAbs) := by
  right
  refine decDigits_last m.natAbs ?_
  unfold rightB at h
  simp only [decide_eq_true_eq] at h
  omega
theorem size_val {m e m' e' : Int} (h : rightB m e = true) (h' : rightB m' e' = true) (hm : m ≠ 0) (hm' : m' ≠ 0) : sizeS m e m' e' = cmpI (sv m.natAbs e) (sv m'.natAbs e') := by
  obtain ⟨_, _, e1, _⟩ := rightB_bounds h
  obtain ⟨_, _, e2, _⟩ := rightB_bounds h'
  obtain ⟨a1, a2⟩ := sv_between hm e1
  obtain ⟨c1, c2⟩ := sv_between hm' e2
  have hl : 1 ≤ (Lib.decDigits m.natAbs).length := by rw [Lib.decDigits_length]; exact Lib.nDigits_pos _
  have hl' : 1 ≤ (Lib.decDigits m'.natAbs).length := by rw [Lib.decDigits_length]; exact Lib.nDigits_pos _
  have f1 := fun N hN => fv_sv (m := m) (e := e) e1 (N := N) hN
  have f2 := fun N hN => fv_sv (m := m') (e := e') e2 (N := N) hN
  have d1 := decDigits_digs m.natAbs
  have d2 := decDigits_digs m'.natAbs
  have l1 := right_last h hm
  have l2 := right_last h' hm'
  have hinj : Lib.decDigits m.natAbs = Lib.decDigits m'.natAbs → (m.natAbs : Int) = m'.natAbs := fun hh => by
    have := congrArg valD hh
    rw [decDigits_val, decDigits_val] at this
    omega
  unfold sizeS
  generalize Lib.decDigits m.natAbs = A at *
  generalize Lib.decDigits m'.natAbs = B at *
  rcases Int.lt_trichotomy ((A.length : Int) + e) (B.length + e') with hlt | heq | hgt
  · rw [cmpI_less hlt, if_pos (by decide)]
    have := pow_mono10 (a := A.length + (e + 9).toNat) (b := B.length - 1 + (e' + 9).toNat) (by omega)
    rw [cmpI_less (by omega)]
  · rw [cmpI_eq heq, if_neg (by simp)]
    obtain ⟨N, hN⟩ := Int.eq_ofNat_of_zero_le (a := (A.length : Int) + e + 9) (by omega)
    have g1 := f1 N (by omega)
    have g2 := f2 N (by omega)
    unfold cmpS
    rcases hAB : Op.bytesLess A B with _ | _
    · rw [if_neg (by simp)]
      rcases hBA : Op.bytesLess B A with _ | _
      · rw [if_neg (by simp)]
        have hE := less_total A B hAB hBA
        rw [cmpI_eq]
        rw [← g1, ← g2, hE]
      · rw [if_pos rfl]
        have := less_fv d2 d1 (N := N) (by omega) (by omega) (.inl l1) hBA
        rw [cmpI_more (by omega)]
    · rw [if_pos rfl]
      have := less_fv d1 d2 (N := N) (by omega) (by omega) (.inl l2) hAB
      rw [cmpI_less (by omega)]
  · rw [cmpI_more hgt, if_pos (by decide)]
    have := pow_mono10 (a := B.length + (e' + 9).toNat) (b := A.length - 1 + (e + 9).toNat) (by omega)
    rw [cmpI_more (by omega)]

theorem cmpI_neg (a b : Int) : cmpI (-a) (-b) = -cmpI a b := by
  rcases Int.lt_trichotomy a b with h | h | h
  · rw [cmpI_less h, cmpI_more (by omega)]; rfl
  · rw [cmpI_eq h, cmpI_eq (by omega)]; rfl
  · rw [cmpI_more h, cmpI_less (by omega)]
theorem cmpI_swap (a b : Int) : cmpI b a = -cmpI a b := by
  rcases Int.lt_trichotomy a b with h | h | h
  · rw [cmpI_less h, cmpI_more (by omega)]; rfl
  · rw [cmpI_eq h, cmpI_eq (by omega)]; rfl
  · rw [cmpI_more h, cmpI_less (by omega)]

/-- What Compare reckons behind the two tests is the order of the values. -/
theorem compare_val {m e m' e' : Int} (h : rightB m e = true) (h' : rightB m' e' = true) :
    (if cmpI (cmpI m 0) (cmpI m' 0) ≠ 0 then cmpI (cmpI m 0) (cmpI m' 0) else cmpI m 0 * sizeS m e m' e') = cmpI (sv m e) (sv m' e') := by
  rcases Int.lt_trichotomy m 0 with hm | hm | hm
  · have s1 := sv_lt (e := e) hm
    rw [cmpI_less hm]
    rcases Int.lt_trichotomy m' 0 with hm' | hm' | hm'
    · rw [cmpI_less hm', cmpI_eq rfl, if_neg (by simp), size_val h h' (by omega) (by omega)]
      have n1 : sv m e = -sv m.natAbs e := by rw [← sv_neg]; congr 1; omega
      have n2 : sv m' e' = -sv m'.natAbs e' := by rw [← sv_neg]; congr 1; omega
      rw [n1, n2, cmpI_neg]; omega
    · rw [hm', cmpI_eq rfl, if_pos (by decide), sv_zero, cmpI_less s1]; rfl
    · have s2 := sv_pos (e := e') hm'
      rw [cmpI_more hm', if_pos (by decide), cmpI_less (by omega : sv m e < sv m' e')]; rfl
  · rw [hm, cmpI_eq rfl, sv_zero]
    rcases Int.lt_trichotomy m' 0 with hm' | hm' | hm'
    · have s2 := sv_lt (e := e') hm'
      rw [cmpI_less hm', if_pos (by decide), cmpI_more s2]; rfl
    · rw [hm', cmpI_eq rfl, if_neg (by rw [cmpI_eq rfl]; simp), sv_zero, cmpI_eq rfl]; simp
    · have s2 := sv_pos (e := e') hm'
      rw [cmpI_more hm', if_pos (by decide), cmpI_less s2]; rfl
  · have s1 := sv_pos (e := e) hm
    rw [cmpI_more hm]
    rcases Int.lt_trichotomy m' 0 with hm' | hm' | hm'
    · have s2 := sv_lt (e := e') hm'
      rw [cmpI_less hm', if_pos (by decide), cmpI_more (by omega : sv m' e' < sv m e)]; rfl
    · rw [hm', cmpI_eq rfl, if_pos (by decide), sv_zero, cmpI_more s1]; rfl
    · rw [cmpI_more hm', cmpI_eq rfl, if_neg (by simp), size_val h h' (by omega) (by omega)]
      rw [show (m.natAbs : Int) = m by omega, show (m'.natAbs : Int) = m' by omega]; omega
end Go.Proofs.YtaggeebfdlkbhaaDoor
