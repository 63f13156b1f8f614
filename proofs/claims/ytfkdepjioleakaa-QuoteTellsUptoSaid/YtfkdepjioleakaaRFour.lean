/- Contracts of hex and four of the document's answer. -/
import Derived.Test.YtfkdepjioleakaaLUnits
set_option linter.unusedVariables false
set_option linter.unusedSimpArgs false
namespace Go.Proofs.Ytfkdepjioleakaa
open Go.RowKit

set_option maxHeartbeats 1000000 in
theorem rhex_any (n : Nat) (w : World) (hn : n ≤ 1000000) :
    Calls Try.prog 19 #[.int .i64 n] w (fun e w' => e = .returned (.int .u8 (hexd (n % 16)).toNat) ∧ w = w') := by
  have h : n % 16 < (⟨#[48, 49, 50, 51, 52, 53, 54, 55, 56, 57, 97, 98, 99, 100, 101, 102]⟩ : ByteArray).size := by show _ < 16; omega
  have he : (⟨#[48, 49, 50, 51, 52, 53, 54, 55, 56, 57, 97, 98, 99, 100, 101, 102]⟩ : ByteArray)[n % 16] = hexd (n % 16) := by
    unfold hexd; rw [List.getD_eq_getElem?_getD, List.getElem?_eq_getElem (by exact h)]; rfl
  have hx := run_dig _ (n % 16) ((n : Int) % 16) h (by omega) _ he
  generalize hexd (n % 16) = c at *
  clear he h
  go_enter Try.func19, Try.ntmps19
  go_wp2_with fail
  go_ret
  exact ⟨rfl, rfl⟩

def fourV (o : Option Nat) : Int := match o with | none => -1 | some n => n
/-- The number of four digits at a place. -/
def fourL (l : List UInt8) : Option Nat := if l.length < 4 then none else digs 0 (l.take 4)

set_option maxHeartbeats 2000000 in
set_option maxRecDepth 100000 in
theorem rfour_any (s : ByteArray) (i : Nat) (w : World) (hs : s.size ≤ 140737488355328) (hi : i ≤ s.size) :
    Calls Try.prog 36 #[.string s, .int .i64 i] w (fun e w' => e = .returned (.int .i64 (fourV (fourL (s.data.toList.drop i)))) ∧ w = w') := by
  by_cases hl : s.size < i + 4
  · have HE : Hid (fourL (s.data.toList.drop i) = none) := by
      show _ = _
      unfold fourL
      rw [if_pos (by rw [List.length_drop, sz]; omega)]
    rw [HE.out]
    unfold fourV
    go_enter Try.func36, Try.ntmps36
    go_wp2_with fail
    go_ret
    exact ⟨rfl, rfl⟩
  · have HE : Hid (fourL (s.data.toList.drop i) = digs 0 ((s.data.toList.drop i).take 4)) := by
      show _ = _
      unfold fourL
      rw [if_neg (by rw [List.length_drop, sz]; omega)]
    have HM : Hid (∀ k, k < 4 → ((s.data.toList.drop i).take 4).getD k 0 = s.data.toList.getD (i + k) 0) := fun k hk => by
      simp [List.getD_eq_getElem?_getD, List.getElem?_take, List.getElem?_drop, hk]
    have hml : ((s.data.toList.drop i).take 4).length = 4 := by rw [List.length_take, List.length_drop, sz]; omega
    have HML := Lib.hid hml
    generalize (s.data.toList.drop i).take 4 = M at *
    rw [HE.out]
    clear hml HE
    go_enter Try.func36, Try.ntmps36
    go_wp2_with fail
    go_loop [5, 6] (fun vv kv => ∃ k n : Nat, k ≤ 4 ∧ kv = .int .i64 ((i : Int) + k) ∧ vv = .int .i64 n ∧ n < 16 ^ k ∧ Hid (digs 0 M = digs n (M.drop k))) (fun _ kv => i + 4 - (intOf kv).toNat)
    case atStart => exact ⟨0, 0, by omega, by go_num, rfl, by simp, by show _ = _; rw [List.drop_zero]⟩
    case round =>
      obtain ⟨k, n, hk, rfl, rfl, hn, hacc⟩ := hrel
      have hn2 : n < 65537 := by
        have : 16 ^ k ≤ 16 ^ 4 := Nat.pow_le_pow_right (by omega) (by omega)
        omega
      by_cases hlt : k < 4
      · obtain ⟨c, hce⟩ : ∃ c, s[i + k].toNat = c := ⟨_, rfl⟩
        have hc256 : c < 256 := by rw [← hce]; exact s[i + k].toNat_lt
        have hx : ∀ u : World, (Instr.index 9 (.string s) (.int .i64 ((i : Int) + (k : Int)))).run Try.prog u = .ok (.int .u8 c) u := fun u => by
          have := run_byte s (i + k) (by omega) c hce u
          rwa [Int.natCast_add] at this
        have HD := Lib.hid (digs_step (l := M) (k := k) (n := n) (by rw [HML.out]; omega))
        rw [HM.out k hlt, ← byte_getD s (i + k) (by omega)] at HD
        have HG : Hid (digL s[i + k] = if 48 ≤ c ∧ c ≤ 57 then some (c - 48) else if 97 ≤ c ∧ c ≤ 102 then some (c - 87) else if 65 ≤ c ∧ c ≤ 70 then some (c - 55) else none) := by
          show _ = _
          unfold digL
          rw [hce]
        rw [HG.out] at HD
        have HA := Lib.hid (hacc.out.trans HD.out)
        have HN := Lib.hid hn
        clear hce HD HG hacc hn
        by_cases h1 : 48 ≤ c ∧ c ≤ 57
        · rw [if_pos h1] at HA
          obtain ⟨p1, p2⟩ := h1
          go_wp2_with fail
          go_round
          case rel => exact ⟨k + 1, n * 16 + (c - 48), by omega, by go_num, by congr 1; omega, by have := HN.out; rw [Nat.pow_succ]; omega, HA.out⟩
          case measure => simp [intOf]; omega
        · rw [if_neg h1] at HA
          by_cases h2 : 97 ≤ c ∧ c ≤ 102
          · rw [if_pos h2] at HA
            obtain ⟨p1, p2⟩ := h2
            clear h1
            have b1 : decide ((c : Int) ≤ 57) = false := decide_eq_false (by omega)
            go_wp2_with fail
            go_round
            case rel => exact ⟨k + 1, n * 16 + (c - 87), by omega, by go_num, by congr 1; omega, by have := HN.out; rw [Nat.pow_succ]; omega, HA.out⟩
            case measure => simp [intOf]; omega
          · rw [if_neg h2] at HA
            by_cases h3 : 65 ≤ c ∧ c ≤ 70
            · rw [if_pos h3] at HA
              obtain ⟨p1, p2⟩ := h3
              clear h1 h2
              have b1 : decide ((c : Int) ≤ 57) = false := decide_eq_false (by omega)
              have b2 : decide (97 ≤ (c : Int)) = false := decide_eq_false (by omega)
              go_wp2_with fail
              go_round
              case rel => exact ⟨k + 1, n * 16 + (c - 55), by omega, by go_num, by congr 1; omega, by have := HN.out; rw [Nat.pow_succ]; omega, HA.out⟩
              case measure => simp [intOf]; omega
            · rw [if_neg h3] at HA
              go_wp2_with fail
              all_goals first | (exfalso; omega) | skip
              all_goals go_ret
              all_goals exact ⟨ret_int (by rw [HA.out]; rfl), rfl⟩
      · obtain rfl : k = 4 := by omega
        have HA : Hid (digs 0 M = some n) := by
          show _ = _
          rw [hacc.out, List.drop_of_length_le (by rw [HML.out]; omega)]
          rfl
        clear hacc hn
        go_wp2_with fail
        go_ret
        exact ⟨ret_int (by rw [HA.out]; rfl), rfl⟩
end Go.Proofs.Ytfkdepjioleakaa
