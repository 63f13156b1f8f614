/- The contract of cutDigits: the digits at a text's head, and what is behind them. -/
import Derived.Test.YtaggeebfdlkbhaaDoorPrint
namespace Go.Proofs.YtaggeebfdlkbhaaDoor
open Go.RowKit Go.Sort

def isDig (c : UInt8) : Bool := decide (48 ≤ (c.toNat : Int)) && decide ((c.toNat : Int) ≤ 57)
def headD (l : List UInt8) : List UInt8 := l.takeWhile isDig
def restD (l : List UInt8) : List UInt8 := l.dropWhile isDig
def nD (l : List UInt8) : Nat := (headD l).length

theorem nD_le (l : List UInt8) : nD l ≤ l.length := (List.takeWhile_prefix isDig).length_le
theorem head_rest (l : List UInt8) : headD l ++ restD l = l := List.takeWhile_append_dropWhile
theorem take_nD (l : List UInt8) : l.take (nD l) = headD l := by
  have h : (headD l ++ restD l).take (headD l).length = headD l := List.take_left
  rw [head_rest] at h
  exact h
theorem drop_nD (l : List UInt8) : l.drop (nD l) = restD l := by
  have h : (headD l ++ restD l).drop (headD l).length = restD l := List.drop_left
  rw [head_rest] at h
  exact h
theorem nD_cons (c : UInt8) (l : List UInt8) : nD (c :: l) = if isDig c = true then nD l + 1 else 0 := by
  unfold nD headD
  rw [List.takeWhile_cons]
  split <;> simp_all
theorem nD_step {l : List UInt8} {k : Nat} (h : k ≤ nD l) (hk : k < l.length) (hd : isDig l[k] = true) : k + 1 ≤ nD l := by
  induction l generalizing k with
  | nil => simp at hk
  | cons c l ih =>
    rw [nD_cons] at h ⊢
    cases k with
    | zero => simp at hd; rw [if_pos hd]; omega
    | succ k =>
      split at h
      · rename_i hc; rw [if_pos hc]
        have := ih (k := k) (by omega) (by simpa using hk) (by simpa using hd)
        omega
      · omega
theorem nD_stop {l : List UInt8} {k : Nat} (h : k ≤ nD l) (hk : k < l.length) (hd : isDig l[k] = false) : k = nD l := by
  induction l generalizing k with
  | nil => simp at hk
  | cons c l ih =>
    rw [nD_cons] at h ⊢
    cases k with
    | zero => simp at hd; rw [if_neg (by simp [hd])]
    | succ k =>
      split at h
      · rename_i hc; rw [if_pos hc]
        have := ih (k := k) (by omega) (by simpa using hk) (by simpa using hd)
        omega
      · omega

theorem nD_byte {s : ByteArray} {k : Nat} (h : k ≤ nD s.data.toList) (hk : k < s.size) :
    (48 ≤ (s[k].toNat : Int) ∧ (s[k].toNat : Int) ≤ 57 → k + 1 ≤ nD s.data.toList) ∧ (¬ (48 ≤ (s[k].toNat : Int) ∧ (s[k].toNat : Int) ≤ 57) → k = nD s.data.toList) := by
  have hk' : k < s.data.toList.length := hk
  have he : s.data.toList[k] = s[k] := rfl
  constructor
  · intro h2; exact nD_step h hk' (by rw [he]; unfold isDig; simp; omega)
  · intro h2; exact nD_stop h hk' (by rw [he]; unfold isDig; simp; omega)

theorem ret_two {a b c d : ByteArray} (h1 : a = c) (h2 : b = d) : Ending.returned (.tuple #[.string a, .string b]) = .returned (.tuple #[.string c, .string d]) := by rw [h1, h2]

set_option maxHeartbeats 400000 in
theorem cut_core (s : ByteArray) (w : World) (hl : s.size ≤ 1000) (n : Nat) (hn : Hid (nD s.data.toList = n)) :
    Calls Tryd.prog 41 #[.string s] w (Ret (.tuple #[.string (s.extract 0 n), .string (s.extract n s.size)]) w) := by
  go_enter Tryd.func41, Tryd.ntmps41
  go_wp2
  go_loop [4] (fun i => ∃ k : Nat, k ≤ s.size ∧ i = .int .i64 k ∧ k ≤ nD s.data.toList) (fun i => s.size - (intOf i).toNat)
  case atStart => exact ⟨0, by omega, rfl, by omega⟩
  case round =>
    obtain ⟨k, hk, rfl, hkn⟩ := hrel
    have hle := nD_le s.data.toList
    have hle2 : nD s.data.toList ≤ s.size := hle
    clear hle
    by_cases hlt : k < s.size
    · obtain ⟨y, z⟩ := nD_byte hkn hlt
      by_cases h1 : 48 ≤ (s[k].toNat : Int)
      · by_cases h2 : (s[k].toNat : Int) ≤ 57
        · have y' := y ⟨h1, h2⟩
          clear y z
          go_wp2
          go_round
          case rel => exact ⟨k + 1, by omega, by go_num, y'⟩
          case measure => simp [intOf]; omega
        · have z' : k = n := by rw [← hn.out]; exact z (by omega)
          clear y z
          subst z'
          go_wp2
          go_quiet (fail)
          go_wp2
          go_ret2
          exact ⟨ret_two (by simp) (by simp), below_drewN (Below.refl _ _) _⟩
      · have z' : k = n := by rw [← hn.out]; exact z (by omega)
        clear y z
        subst z'
        go_wp2
        go_quiet (fail)
        go_wp2
        go_ret2
        exact ⟨ret_two (by simp) (by simp), below_drewN (Below.refl _ _) _⟩
    · have z' : k = n := by have := hn.out; omega
      subst z'
      go_wp2
      go_quiet (fail)
      go_wp2
      go_ret2
      exact ⟨ret_two (by simp) (by simp), below_drewN (Below.refl _ _) _⟩

theorem cut_any (l : List UInt8) (w : World) (hl : l.length ≤ 1000) :
    Calls Tryd.prog 41 #[.string ⟨l.toArray⟩] w (Ret (.tuple #[.string ⟨(headD l).toArray⟩, .string ⟨(restD l).toArray⟩]) w) := by
  have h := cut_core ⟨l.toArray⟩ w (by show l.toArray.size ≤ 1000; simpa using hl) (nD l) rfl
  rw [bs_take, take_nD, show (⟨l.toArray⟩ : ByteArray).size = l.length from List.size_toArray, bs_drop, drop_nD] at h
  exact h
end Go.Proofs.YtaggeebfdlkbhaaDoor
