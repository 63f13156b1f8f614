/- Plain facts on the document's own way to tell a character. -/
import Derived.Test.YtfkdepjioleakaaJson
set_option linter.unusedVariables false
set_option linter.unusedSimpArgs false
namespace Go.Proofs.Ytfkdepjioleakaa
open Go.Lib

/-- How many bytes the character at the front has; none: 0. -/
def oneL (l : List UInt8) : Nat := if badB l = true then 0 else (decodeL l).2
/-- The number that bytes which go on make. -/
def contV : Nat → List UInt8 → Option Nat
  | v, [] => some v
  | v, c :: r => if c.toNat / 64 = 2 then contV (v * 64 + c.toNat % 64) r else none
def lastT (n low : Nat) (o : Option Nat) : Nat := match o with
  | none => 0
  | some v => if v < low ∨ 1114111 < v ∨ (55296 ≤ v ∧ v ≤ 57343) then 0 else n

theorem oneL_N (l : List UInt8) : oneL l = if decodeN l.length (l.getD 0 0).toNat (l.getD 1 0).toNat (l.getD 2 0).toNat (l.getD 3 0).toNat = (65533, 1) then 0 else (decodeN l.length (l.getD 0 0).toNat (l.getD 1 0).toNat (l.getD 2 0).toNat (l.getD 3 0).toNat).2 := by
  unfold oneL badB
  rw [decodeL_N]
  simp
theorem one_A {l : List UInt8} (h : (l.getD 0 0).toNat < 128) : oneL l = 1 := by
  rw [oneL_N]
  have e : decodeN l.length (l.getD 0 0).toNat (l.getD 1 0).toNat (l.getD 2 0).toNat (l.getD 3 0).toNat = ((l.getD 0 0).toNat, 1) := by unfold decodeN; rw [if_pos h]
  rw [e, if_neg (fun h2 => by have h3 : (l.getD 0 0).toNat = 65533 := congrArg Prod.fst h2; omega)]
theorem dec_none {l : List UInt8} (h : decodeN l.length (l.getD 0 0).toNat (l.getD 1 0).toNat (l.getD 2 0).toNat (l.getD 3 0).toNat = (65533, 1)) : oneL l = 0 := by rw [oneL_N, if_pos h]
set_option maxRecDepth 100000 in
theorem one_E {l : List UInt8} (h : 128 ≤ (l.getD 0 0).toNat ∧ (l.getD 0 0).toNat < 194 ∨ 245 ≤ (l.getD 0 0).toNat) : oneL l = 0 := by
  apply dec_none
  have k0 := (l.getD 0 0).toNat_lt
  have k1 := (l.getD 1 0).toNat_lt
  generalize (l.getD 0 0).toNat = b0 at *
  generalize (l.getD 1 0).toNat = b1 at *
  generalize (l.getD 2 0).toNat = b2 at *
  generalize (l.getD 3 0).toNat = b3 at *
  unfold decodeN
  repeat' split
  all_goals first | rfl | (exfalso; omega)
set_option maxRecDepth 100000 in
theorem one_short {l : List UInt8} (n : Nat) (hl : l.length < n) (h : 194 ≤ (l.getD 0 0).toNat ∧ (l.getD 0 0).toNat ≤ 223 ∧ n = 2 ∨ 224 ≤ (l.getD 0 0).toNat ∧ (l.getD 0 0).toNat ≤ 239 ∧ n = 3 ∨ 240 ≤ (l.getD 0 0).toNat ∧ (l.getD 0 0).toNat ≤ 244 ∧ n = 4) : oneL l = 0 := by
  apply dec_none
  generalize (l.getD 0 0).toNat = b0 at *
  generalize (l.getD 1 0).toNat = b1 at *
  generalize (l.getD 2 0).toNat = b2 at *
  generalize (l.getD 3 0).toNat = b3 at *
  unfold decodeN
  repeat' split
  all_goals first | rfl | (exfalso; omega)
theorem split2 {l : List UInt8} (h : 2 ≤ l.length) : (l.drop 1).take 1 = [l.getD 1 0] := by
  match l, h with
  | a :: b :: r, _ => simp
theorem split3 {l : List UInt8} (h : 3 ≤ l.length) : (l.drop 1).take 2 = [l.getD 1 0, l.getD 2 0] := by
  match l, h with
  | a :: b :: c :: r, _ => simp
theorem split4 {l : List UInt8} (h : 4 ≤ l.length) : (l.drop 1).take 3 = [l.getD 1 0, l.getD 2 0, l.getD 3 0] := by
  match l, h with
  | a :: b :: c :: d :: r, _ => simp
set_option maxRecDepth 100000 in
set_option maxHeartbeats 1000000 in
theorem one_2 {l : List UInt8} (hl : 2 ≤ l.length) (h0 : 194 ≤ (l.getD 0 0).toNat) (h1 : (l.getD 0 0).toNat ≤ 223) : oneL l = lastT 2 128 (contV ((l.getD 0 0).toNat % 32) ((l.drop 1).take 1)) := by
  rw [split2 hl, oneL_N]
  simp only [contV]
  have k1 := (l.getD 1 0).toNat_lt
  generalize (l.getD 0 0).toNat = b0 at *
  generalize (l.getD 1 0).toNat = b1 at *
  generalize (l.getD 2 0).toNat = b2 at *
  generalize (l.getD 3 0).toNat = b3 at *
  by_cases c1 : b1 / 64 = 2
  · have e : decodeN l.length b0 b1 b2 b3 = (b0 % 32 * 64 + b1 % 64, 2) := by
      unfold decodeN
      rw [if_neg (by omega), if_pos (by omega), if_pos (by omega)]
    rw [e, if_neg (by simp), if_pos c1]
    unfold lastT
    simp only
    rw [if_neg (by omega)]
  · have e : decodeN l.length b0 b1 b2 b3 = (65533, 1) := by
      unfold decodeN
      rw [if_neg (by omega), if_neg (by omega), if_neg (by omega), if_neg (by omega)]
    rw [e, if_pos rfl, if_neg c1]
    rfl
set_option maxRecDepth 100000 in
set_option maxHeartbeats 1000000 in
theorem one_3 {l : List UInt8} (hl : 3 ≤ l.length) (h0 : 224 ≤ (l.getD 0 0).toNat) (h1 : (l.getD 0 0).toNat ≤ 239) : oneL l = lastT 3 2048 (contV ((l.getD 0 0).toNat % 16) ((l.drop 1).take 2)) := by
  rw [split3 hl, oneL_N]
  simp only [contV]
  have k1 := (l.getD 1 0).toNat_lt
  have k2 := (l.getD 2 0).toNat_lt
  generalize (l.getD 0 0).toNat = b0 at *
  generalize (l.getD 1 0).toNat = b1 at *
  generalize (l.getD 2 0).toNat = b2 at *
  generalize (l.getD 3 0).toNat = b3 at *
  by_cases c1 : b1 / 64 = 2 ∧ b2 / 64 = 2
  · obtain ⟨c1, c2⟩ := c1
    rw [if_pos c1, if_pos c2]
    unfold lastT
    simp only
    by_cases hv : (b0 % 16 * 64 + b1 % 64) * 64 + b2 % 64 < 2048 ∨ 1114111 < (b0 % 16 * 64 + b1 % 64) * 64 + b2 % 64 ∨ (55296 ≤ (b0 % 16 * 64 + b1 % 64) * 64 + b2 % 64 ∧ (b0 % 16 * 64 + b1 % 64) * 64 + b2 % 64 ≤ 57343)
    · have e : decodeN l.length b0 b1 b2 b3 = (65533, 1) := by
        unfold decodeN
        rw [if_neg (by omega), if_neg (by omega), if_pos (by omega), if_neg (by omega)]
      rw [e, if_pos rfl, if_pos hv]
    · have e : decodeN l.length b0 b1 b2 b3 = (b0 % 16 * 4096 + b1 % 64 * 64 + b2 % 64, 3) := by
        unfold decodeN
        rw [if_neg (by omega), if_neg (by omega), if_pos (by omega), if_pos (by omega)]
      rw [e, if_neg (by simp), if_neg hv]
  · have e : decodeN l.length b0 b1 b2 b3 = (65533, 1) := by
      unfold decodeN
      rw [if_neg (by omega), if_neg (by omega), if_neg (by omega), if_neg (by omega)]
    rw [e, if_pos rfl]
    by_cases d1 : b1 / 64 = 2
    · rw [if_pos d1, if_neg (by omega)]; rfl
    · rw [if_neg d1]; rfl
set_option maxRecDepth 100000 in
set_option maxHeartbeats 1000000 in
theorem one_4 {l : List UInt8} (hl : 4 ≤ l.length) (h0 : 240 ≤ (l.getD 0 0).toNat) (h1 : (l.getD 0 0).toNat ≤ 244) : oneL l = lastT 4 65536 (contV ((l.getD 0 0).toNat % 8) ((l.drop 1).take 3)) := by
  rw [split4 hl, oneL_N]
  simp only [contV]
  have k1 := (l.getD 1 0).toNat_lt
  have k2 := (l.getD 2 0).toNat_lt
  have k3 := (l.getD 3 0).toNat_lt
  generalize (l.getD 0 0).toNat = b0 at *
  generalize (l.getD 1 0).toNat = b1 at *
  generalize (l.getD 2 0).toNat = b2 at *
  generalize (l.getD 3 0).toNat = b3 at *
  by_cases c1 : b1 / 64 = 2 ∧ b2 / 64 = 2 ∧ b3 / 64 = 2
  · obtain ⟨c1, c2, c3⟩ := c1
    rw [if_pos c1, if_pos c2, if_pos c3]
    unfold lastT
    simp only
    by_cases hv : ((b0 % 8 * 64 + b1 % 64) * 64 + b2 % 64) * 64 + b3 % 64 < 65536 ∨ 1114111 < ((b0 % 8 * 64 + b1 % 64) * 64 + b2 % 64) * 64 + b3 % 64 ∨ (55296 ≤ ((b0 % 8 * 64 + b1 % 64) * 64 + b2 % 64) * 64 + b3 % 64 ∧ ((b0 % 8 * 64 + b1 % 64) * 64 + b2 % 64) * 64 + b3 % 64 ≤ 57343)
    · have e : decodeN l.length b0 b1 b2 b3 = (65533, 1) := by
        unfold decodeN
        rw [if_neg (by omega), if_neg (by omega), if_neg (by omega), if_pos (by omega), if_neg (by omega)]
      rw [e, if_pos rfl, if_pos hv]
    · have e : decodeN l.length b0 b1 b2 b3 = (b0 % 8 * 262144 + b1 % 64 * 4096 + b2 % 64 * 64 + b3 % 64, 4) := by
        unfold decodeN
        rw [if_neg (by omega), if_neg (by omega), if_neg (by omega), if_pos (by omega), if_pos (by omega)]
      rw [e, if_neg (by simp), if_neg hv]
  · have e : decodeN l.length b0 b1 b2 b3 = (65533, 1) := by
      unfold decodeN
      rw [if_neg (by omega), if_neg (by omega), if_neg (by omega), if_neg (by omega)]
    rw [e, if_pos rfl]
    by_cases d1 : b1 / 64 = 2
    · rw [if_pos d1]
      by_cases d2 : b2 / 64 = 2
      · rw [if_pos d2, if_neg (by omega)]; rfl
      · rw [if_neg d2]; rfl
    · rw [if_neg d1]; rfl
theorem contV_lt : ∀ (m : List UInt8) (v k : Nat), contV v m = some k → k < (v + 1) * 64 ^ m.length
  | [], v, k, h => by simp [contV] at h; subst h; simp
  | c :: r, v, k, h => by
    unfold contV at h
    split at h
    · have := contV_lt r _ _ h
      refine Nat.lt_of_lt_of_le this ?_
      rw [List.length_cons, Nat.pow_succ, Nat.mul_comm (64 ^ r.length) 64, ← Nat.mul_assoc]
      exact Nat.mul_le_mul_right _ (by omega)
    · cases h
theorem contV_step {m : List UInt8} {k v : Nat} (hk : k < m.length) : contV v (m.drop k) = if (m.getD k 0).toNat / 64 = 2 then contV (v * 64 + (m.getD k 0).toNat % 64) (m.drop (k + 1)) else none := by
  rw [List.drop_eq_getElem_cons hk, List.getD_eq_getElem?_getD, List.getElem?_eq_getElem hk]
  rfl
theorem oneL_zero {l : List UInt8} (hne : l ≠ []) : oneL l = 0 ↔ badB l = true := by
  unfold oneL
  have := width_pos (l := l)
  cases badB l <;> simp
  omega
theorem oneL_pos {l : List UInt8} (h : badB l = false) : oneL l = (decodeL l).2 := by unfold oneL; rw [h]; simp
end Go.Proofs.Ytfkdepjioleakaa
