import Derived.Laws.BitsAllLaws
/- Layer 6, plain: sums, seals, and what is opened. -/
set_option linter.unusedVariables false
set_option linter.unusedSimpArgs false
namespace Go.Proofs.Ytalkajdnilmeaaa.Se

/-- A byte more. -/
def stepS (h : Nat) (b : UInt8) : Nat := 16777619 * (h ^^^ b.toNat) % 4294967296
def sumF (h : Nat) (l : List UInt8) : Nat := l.foldl stepS h
def sumS (l : List UInt8) : Nat := sumF 2166136261 l
theorem stepS_lt (h : Nat) (b : UInt8) : stepS h b < 4294967296 := Nat.mod_lt _ (by decide)
theorem sumF_lt {h : Nat} (hh : h < 4294967296) : ∀ l : List UInt8, sumF h l < 4294967296
  | [] => hh
  | b :: l => sumF_lt (stepS_lt h b) l
theorem first_lt : 2166136261 < 4294967296 := by omega
theorem sumS_lt (l : List UInt8) : sumS l < 4294967296 := by
  unfold sumS
  exact sumF_lt first_lt l
theorem sumF_app (h : Nat) (a b : List UInt8) : sumF h (a ++ b) = sumF (sumF h a) b := List.foldl_append
theorem sumS_snoc (a : List UInt8) (b : UInt8) : sumS (a ++ [b]) = stepS (sumS a) b := by
  unfold sumS
  generalize 2166136261 = h
  rw [sumF_app]
  rfl
theorem xor_lt (h : Nat) (b : UInt8) (hh : h < 4294967296) : h ^^^ b.toNat < 4294967296 :=
  Nat.xor_lt_two_pow (n := 32) hh (Nat.lt_trans b.toNat_lt (by decide))
theorem mul_back' {x P I M q : Nat} (h : P * I = 1 + M * q) (hx : x < M) : P * x % M * I % M = x := by
  rw [Nat.mul_comm P x, Nat.mod_mul_mod, Nat.mul_assoc, h, Nat.mul_add, Nat.mul_one, Nat.mul_left_comm, Nat.add_mul_mod_self_left]
  exact Nat.mod_eq_of_lt hx
theorem mul_inj' {x y P I M q : Nat} (h : P * I = 1 + M * q) (hx : x < M) (hy : y < M) (e : P * x % M = P * y % M) : x = y := by
  rw [← mul_back' h hx, e, mul_back' h hy]
theorem inv_prime : 16777619 * 899433627 = 1 + 4294967296 * 3513497 := by decide
theorem mul_inj {x y : Nat} (hx : x < 4294967296) (hy : y < 4294967296) (h : 16777619 * x % 4294967296 = 16777619 * y % 4294967296) : x = y :=
  mul_inj' inv_prime hx hy h
theorem xor_same {a b c : Nat} (h : a ^^^ c = b ^^^ c) : a = b := by
  have := congrArg (· ^^^ c) h
  simpa [Nat.xor_assoc, Nat.xor_self, Nat.xor_zero] using this
theorem stepS_inj {h k : Nat} (b : UInt8) (hh : h < 4294967296) (hk : k < 4294967296) (e : stepS h b = stepS k b) : h = k :=
  xor_same (mul_inj (xor_lt h b hh) (xor_lt k b hk) e)
theorem stepS_byte {h : Nat} {b c : UInt8} (hh : h < 4294967296) (e : stepS h b = stepS h c) : b = c := by
  have := mul_inj (xor_lt h b hh) (xor_lt h c hh) e
  rw [Nat.xor_comm h, Nat.xor_comm h] at this
  exact UInt8.toNat_inj.mp (xor_same this)
theorem sumF_inj : ∀ (l : List UInt8) {h k : Nat}, h < 4294967296 → k < 4294967296 → sumF h l = sumF k l → h = k
  | [], _, _, _, _, e => e
  | b :: l, h, k, hh, hk, e => stepS_inj b hh hk (sumF_inj l (stepS_lt h b) (stepS_lt k b) e)
/-- Texts that are unlike in one byte alone have unlike sums. -/
theorem sumS_unlike (a c : List UInt8) {x y : UInt8} (h : sumS (a ++ x :: c) = sumS (a ++ y :: c)) : x = y := by
  unfold sumS at h
  rw [sumF_app, sumF_app] at h
  exact stepS_byte (sumF_lt first_lt a) (sumF_inj c (stepS_lt _ _) (stepS_lt _ _) h)

/-- A digit. -/
def hexB (n : Nat) : UInt8 := [48, 49, 50, 51, 52, 53, 54, 55, 56, 57, 97, 98, 99, 100, 101, 102].getD n 0
theorem hexB_inj : ∀ {a b : Nat}, a < 16 → b < 16 → hexB a = hexB b → a = b := by
  have : ∀ a : Fin 16, ∀ b : Fin 16, hexB a.val = hexB b.val → a.val = b.val := by decide
  intro a b ha hb h
  exact this ⟨a, ha⟩ ⟨b, hb⟩ h
theorem hexB_ne : ∀ {a : Nat}, a < 16 → hexB a ≠ 35 := by
  have : ∀ a : Fin 16, hexB a.val ≠ 35 := by decide
  intro a ha
  exact this ⟨a, ha⟩
/-- The last k digits, the highest first. -/
def digL : Nat → Nat → List UInt8
  | 0, _ => []
  | k + 1, n => digL k (n / 16) ++ [hexB (n % 16)]
theorem digL_len : ∀ (k n : Nat), (digL k n).length = k
  | 0, _ => rfl
  | k + 1, n => by rw [digL, List.length_append, digL_len k]; rfl
theorem digL_inj : ∀ (k : Nat) {n m : Nat}, n < 16 ^ k → m < 16 ^ k → digL k n = digL k m → n = m
  | 0, n, m, hn, hm, _ => by simp at hn hm; omega
  | k + 1, n, m, hn, hm, e => by
    rw [digL, digL] at e
    have e1 := List.append_inj' e rfl
    have h1 := digL_inj k (n := n / 16) (m := m / 16) (by rw [Nat.pow_succ] at hn; omega) (by rw [Nat.pow_succ] at hm; omega) e1.1
    have h2 := hexB_inj (Nat.mod_lt n (by decide)) (Nat.mod_lt m (by decide)) (by simpa using e1.2)
    omega
theorem digL_mem : ∀ (k n : Nat) (x : UInt8), x ∈ digL k n → x ≠ 35
  | 0, _, _, h => by simp [digL] at h
  | k + 1, n, x, h => by
    rw [digL, List.mem_append] at h
    rcases h with h | h
    · exact digL_mem k _ _ h
    · rw [List.mem_singleton] at h
      subst h
      exact hexB_ne (Nat.mod_lt n (by decide))
/-- From above: what stands ahead of the last digits. -/
theorem digL_more : ∀ (k n : Nat), digL (k + 1) n = hexB (n / 16 ^ k % 16) :: digL k n
  | 0, n => by simp [digL]
  | k + 1, n => by
    rw [digL, digL_more k (n / 16), digL, Nat.div_div_eq_div_mul, show 16 * 16 ^ k = 16 ^ (k + 1) by rw [Nat.pow_succ, Nat.mul_comm]]
    rfl
theorem digL_mod : ∀ (k n : Nat), digL k (n % 16 ^ k) = digL k n
  | 0, _ => rfl
  | k + 1, n => by
    rw [digL, digL, Nat.mod_mod_of_dvd _ ⟨16 ^ k, by rw [Nat.pow_succ, Nat.mul_comm]⟩]
    congr 1
    rw [show n % 16 ^ (k + 1) / 16 = n / 16 % 16 ^ k by rw [Nat.pow_succ, Nat.mul_comm, Nat.mod_mul_right_div_self], digL_mod k]

/-- What stands behind a text that is sealed; the sealed text; what is opened. -/
def tailS (l : List UInt8) : List UInt8 := 35 :: digL 8 (sumS l)
def sealS (l : List UInt8) : List UInt8 := l ++ tailS l
def openS (s : List UInt8) : Option (List UInt8) := if 9 ≤ s.length ∧ s.drop (s.length - 9) = tailS (s.take (s.length - 9)) then some (s.take (s.length - 9)) else none
theorem tailS_len (l : List UInt8) : (tailS l).length = 9 := by simp [tailS, digL_len]
theorem sealS_len (l : List UInt8) : (sealS l).length = l.length + 9 := by rw [sealS, List.length_append, tailS_len]
theorem tailS_inj {a b : List UInt8} (h : tailS a = tailS b) : sumS a = sumS b :=
  digL_inj 8 (sumS_lt a) (sumS_lt b) (List.cons.inj h).2
theorem openS_app {u t : List UInt8} (ht : t.length = 9) : openS (u ++ t) = if t = tailS u then some u else none := by
  unfold openS
  have e : (u ++ t).length - 9 = u.length := by rw [List.length_append]; omega
  rw [e, List.drop_left, List.take_left]
  by_cases h : t = tailS u
  · rw [if_pos h, if_pos ⟨by rw [List.length_append]; omega, h⟩]
  · rw [if_neg h, if_neg (fun k => h k.2)]
theorem open_seal (l : List UInt8) : openS (sealS l) = some l := by
  rw [sealS, openS_app (tailS_len l), if_pos rfl]
theorem seal_open {s u : List UInt8} (h : openS s = some u) : sealS u = s := by
  unfold openS at h
  split at h
  · next k =>
    injection h with h
    subst h
    rw [sealS, ← k.2, List.take_append_drop]
  · cases h
theorem seal_inj {a b : List UInt8} (h : sealS a = sealS b) : a = b := by
  have := open_seal a
  rw [h, open_seal] at this
  exact (Option.some.inj this).symm
theorem open_short {s : List UInt8} (h : s.length < 9) : openS s = none := by
  unfold openS
  rw [if_neg (fun k => by omega)]
/-- One byte more behind. -/
theorem open_more (l : List UInt8) (c : UInt8) : openS (sealS l ++ [c]) = none := by
  have : sealS l ++ [c] = (l ++ [35]) ++ (digL 8 (sumS l) ++ [c]) := by simp [sealS, tailS]
  rw [this, openS_app (by rw [List.length_append, digL_len]; rfl), if_neg]
  intro h
  rw [digL_more 7] at h
  exact hexB_ne (Nat.mod_lt _ (by decide)) (List.cons.inj h).1
/-- One byte changed. -/
theorem open_changed (a c : List UInt8) {x y : UInt8} {l : List UInt8} (h : sealS l = a ++ x :: c) (hxy : x ≠ y) : openS (a ++ y :: c) = none := by
  have hl := congrArg List.length h
  rw [sealS_len, List.length_append, List.length_cons] at hl
  by_cases ha : a.length < l.length
  · obtain ⟨b, rfl⟩ : ∃ b, l = a ++ b := by
      have := congrArg (List.take a.length) h
      rw [sealS, List.take_left, List.take_append_of_le_length (by omega)] at this
      exact ⟨l.drop a.length, by rw [← this, List.length_take, Nat.min_eq_left (by omega)]; exact (List.take_append_drop _ _).symm⟩
    rw [sealS, List.append_assoc] at h
    have h := List.append_cancel_left h
    cases b with
    | nil => simp at ha
    | cons z b =>
      rw [List.cons_append] at h
      injection h with h1 h2
      subst h1
      rw [← h2, show a ++ y :: (b ++ tailS (a ++ z :: b)) = (a ++ y :: b) ++ tailS (a ++ z :: b) by simp, openS_app (tailS_len _), if_neg]
      intro k
      exact hxy (sumS_unlike a b (tailS_inj k))
  · obtain ⟨b, rfl⟩ : ∃ b, a = l ++ b := by
      have := congrArg (List.take l.length) h
      rw [sealS, List.take_left, List.take_append_of_le_length (by omega)] at this
      exact ⟨a.drop l.length, by rw [← List.take_append_drop l.length a, ← this]; simp⟩
    rw [sealS, List.append_assoc] at h
    have h := List.append_cancel_left h
    have hb := congrArg List.length h
    rw [tailS_len, List.length_append, List.length_cons] at hb
    rw [List.append_assoc, openS_app (by rw [List.length_append, List.length_cons]; omega), if_neg]
    intro k
    rw [h] at k
    exact hxy (List.cons.inj (List.append_cancel_left k)).1.symm
end Go.Proofs.Ytalkajdnilmeaaa.Se
