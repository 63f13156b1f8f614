/- The contract of digits of the document's answer: how many digits there are from a place on. -/
import Derived.Test.YtaggeebfdlkbhaaDoorRText
set_option linter.unusedSimpArgs false
set_option linter.unusedVariables false
namespace Go.Proofs.YtaggeebfdlkbhaaDoor
open Go.RowKit Go.Sort

theorem nD_at {s : ByteArray} {i k : Nat} (h : k ≤ nD (s.data.toList.drop i)) (hk : i + k < s.size) :
    (48 ≤ (s[i + k].toNat : Int) ∧ (s[i + k].toNat : Int) ≤ 57 → k + 1 ≤ nD (s.data.toList.drop i)) ∧ (¬ (48 ≤ (s[i + k].toNat : Int) ∧ (s[i + k].toNat : Int) ≤ 57) → k = nD (s.data.toList.drop i)) := by
  have hl : s.data.toList.length = s.size := rfl
  have hk' : k < (s.data.toList.drop i).length := by rw [List.length_drop]; omega
  have he : (s.data.toList.drop i)[k] = s[i + k] := by rw [List.getElem_drop]; rfl
  constructor
  · intro h2; exact nD_step h hk' (by rw [he]; unfold isDig; simp; omega)
  · intro h2; exact nD_stop h hk' (by rw [he]; unfold isDig; simp; omega)

set_option maxHeartbeats 1000000 in
theorem rdigits_any (s : ByteArray) (i : Nat) (w : World) (hs : s.size ≤ 1000) (hi : i ≤ s.size) (n : Nat) (hn : Hid (nD (s.data.toList.drop i) = n)) :
    Calls Tryd.prog 32 #[.string s, .int .i64 i] w (fun e w' => e = .returned (.int .i64 n) ∧ w = w') := by
  have hle : nD (s.data.toList.drop i) ≤ s.size - i := by
    have := nD_le (s.data.toList.drop i)
    rw [List.length_drop] at this
    exact this
  rw [hn.out] at hle
  have HA := Lib.hid (fun k h hk => nD_at (s := s) (i := i) (k := k) h hk)
  rw [hn.out] at HA
  go_enter Tryd.func32, Tryd.ntmps32
  go_wp2_with fail
  go_loop [5] (fun v => ∃ k : Nat, v = .int .i64 k ∧ k ≤ n ∧ i + k ≤ s.size) (fun v => s.size - (intOf v).toNat)
  case atStart => exact ⟨0, rfl, by omega, by omega⟩
  case round =>
    obtain ⟨k, rfl, hkn, hks⟩ := hrel
    by_cases hlt : i + k < s.size
    · obtain ⟨y, z⟩ := HA.out k hkn hlt
      by_cases h1 : 48 ≤ (s[i + k].toNat : Int)
      · by_cases h2 : (s[i + k].toNat : Int) ≤ 57
        · have y' := y ⟨h1, h2⟩
          clear y z
          go_wp2_with fail
          go_round
          case rel => exact ⟨k + 1, by go_num, y', by omega⟩
          case measure => simp [intOf]; omega
        · have z' : k = n := z (by omega)
          clear y z
          subst z'
          go_wp2_with fail
          go_ret
          exact ⟨rfl, rfl⟩
      · have z' : k = n := z (by omega)
        clear y z
        subst z'
        go_wp2_with fail
        go_ret
        exact ⟨rfl, rfl⟩
    · have z' : k = n := by omega
      subst z'
      go_wp2_with fail
      go_ret
      exact ⟨rfl, rfl⟩
end Go.Proofs.YtaggeebfdlkbhaaDoor
