/- The contract of one of the document's answer: how many bytes the character at a place has. -/
import Derived.Test.YtfkdepjioleakaaROneMath
import Derived.Test.YtfkdepjioleakaaLPlain
import Derived.Laws.BitsLemmas
set_option linter.unusedVariables false
set_option linter.unusedSimpArgs false
namespace Go.Proofs.Ytfkdepjioleakaa
open Go.RowKit

theorem lastT_some (n low v : Nat) : lastT n low (some v) = if v < low ∨ 1114111 < v ∨ (55296 ≤ v ∧ v ≤ 57343) then 0 else n := rfl
theorem cont_test : ∀ b : Nat, b < 256 → (bits .and .u8 (b : Int) 192 != 128) = !decide (b / 64 = 2) := by decide +kernel
theorem or64 (x y : Nat) (hx : x < 8388608) (hy : y < 64) : bits .or .i64 ((x : Int) * 64) (y : Int) = (x : Int) * 64 + y :=
  bits_join .i64 40 (by decide) (fun n a b => by rw [IntKind.wrap_i64]; omega) 6 _ _ (by omega) (by omega) (by omega) (by omega) (by omega) (by omega)
theorem or_val (x b : Nat) (hx : x < 8388608) : Value.int .i64 (bits .or .i64 ((x : Int) * 64) ((b : Int) % 64)) = .int .i64 ((x * 64 + b % 64 : Nat) : Int) := by
  rw [show ((b : Int) % 64) = ((b % 64 : Nat) : Int) by omega, or64 x (b % 64) hx (by omega)]
  congr 1

set_option maxHeartbeats 2000000 in
set_option maxRecDepth 100000 in
theorem rone_2 (s : ByteArray) (i : Nat) (w : World) (hs : s.size ≤ 140737488355328) (hi : i < s.size) (c : Nat) (hc : Hid (s[i].toNat = c)) (h0 : 194 ≤ c) (h1 : c ≤ 223) :
    Calls Try.prog 28 #[.string s, .int .i64 i] w (fun e w' => e = .returned (.int .i64 (oneL (s.data.toList.drop i))) ∧ w = w') := by
  have hx : ∀ u : World, (Instr.index 9 (.string s) (.int .i64 (i : Int))).run Try.prog u = .ok (.int .u8 c) u := fun u => run_byte s i hi c hc.out u
  have hg : (s.data.toList.drop i).getD 0 0 = s[i] := by rw [Lib.getD_dropU, byte_getD s i hi]; rfl
  have hll : (s.data.toList.drop i).length = s.size - i := by rw [List.length_drop, sz]
  by_cases hl : s.size < i + 2
  · have HE : Hid (oneL (s.data.toList.drop i) = 0) := one_short 2 (by omega) (by rw [hg, hc.out]; omega)
    rw [HE.out]
    clear hg hll
    go_enter Try.func28, Try.ntmps28
    go_wp2_with fail
    all_goals first | (exfalso; omega) | skip
    all_goals go_ret
    all_goals exact ⟨rfl, rfl⟩
  · have HE := Lib.hid (one_2 (l := s.data.toList.drop i) (by omega) (by rw [hg, hc.out]; exact h0) (by rw [hg, hc.out]; exact h1))
    rw [hg, hc.out] at HE
    have HM : Hid (∀ k, k < 1 → (((s.data.toList.drop i).drop 1).take 1).getD k 0 = s.data.toList.getD (i + (k + 1)) 0) := fun k hk => by
      simp [List.getD_eq_getElem?_getD, List.getElem?_take, List.getElem?_drop, hk]
      congr 2
      omega
    have hml : (((s.data.toList.drop i).drop 1).take 1).length = 1 := by rw [List.length_take, List.length_drop]; omega
    have HML := Lib.hid hml
    generalize ((s.data.toList.drop i).drop 1).take 1 = M at *
    rw [HE.out]
    clear hg hll hml HE hc
    go_enter Try.func28, Try.ntmps28
    go_wp2_with fail
    go_loop [8, 9] (fun vv kv => ∃ k x : Nat, 1 ≤ k ∧ k ≤ 2 ∧ kv = .int .i64 k ∧ vv = .int .i64 x ∧ x < 32 * 64 ^ (k - 1) ∧ Hid (contV (c % 32) M = contV x (M.drop (k - 1)))) (fun _ kv => 2 - (intOf kv).toNat)
    case atStart => exact ⟨1, c % 32, by omega, by omega, rfl, by go_num, by simp; omega, rfl⟩
    case round =>
      obtain ⟨k, x, hk1, hk2, rfl, rfl, hx1, hacc⟩ := hrel
      have hx8 : x < 8388608 := by
        have : 64 ^ (k - 1) ≤ 64 ^ 3 := Nat.pow_le_pow_right (by omega) (by omega)
        omega
      by_cases hlt : k < 2
      · obtain ⟨b, hbe⟩ : ∃ b, s[i + k].toNat = b := ⟨_, rfl⟩
        have hb256 : b < 256 := by rw [← hbe]; exact s[i + k].toNat_lt
        have hx2 : ∀ u : World, (Instr.index 9 (.string s) (.int .i64 ((i : Int) + (k : Int)))).run Try.prog u = .ok (.int .u8 b) u := fun u => by
          have := run_byte s (i + k) (by omega) b hbe u
          rwa [Int.natCast_add] at this
        have HS := Lib.hid (contV_step (m := M) (k := k - 1) (v := x) (by rw [HML.out]; omega))
        rw [HM.out (k - 1) (by omega), show i + (k - 1 + 1) = i + k by omega, ← byte_getD s (i + k) (by omega), hbe, show k - 1 + 1 = k by omega] at HS
        have htest := cont_test b hb256
        have HX1 := Lib.hid hx1
        clear hbe hx1
        by_cases hb2 : b / 64 = 2
        · have HA := Lib.hid (hacc.out.trans HS.out)
          rw [if_pos hb2] at HA
          rw [decide_eq_true hb2] at htest
          have htest' : (bits .and .u8 (b : Int) 192 != 128) = false := htest
          have HO := Lib.hid (or64 x (b % 64) hx8 (by omega))
          clear htest HS hacc
          go_wp2_with fail
          go_round
          case rel => exact ⟨k + 1, x * 64 + b % 64, by omega, by omega, by go_num, by rw [or_val x b hx8], by have := HX1.out; rw [show k + 1 - 1 = k - 1 + 1 by omega, Nat.pow_succ]; omega, HA.out⟩
          case measure => simp [intOf]; omega
        · have HA := Lib.hid (hacc.out.trans HS.out)
          rw [if_neg hb2] at HA
          rw [decide_eq_false hb2] at htest
          have htest' : (bits .and .u8 (b : Int) 192 != 128) = true := htest
          clear htest HS hacc
          go_wp2_with fail
          go_ret
          exact ⟨by rw [HA.out]; rfl, rfl⟩
      · have HA : Hid (contV (c % 32) M = some x) := by
          show _ = _
          rw [hacc.out, List.drop_of_length_le (by rw [HML.out]; omega)]
          rfl
        obtain rfl : k = 2 := by omega
        clear hx1 hacc HM HML
        go_wp2_with fail
        all_goals go_ret
        all_goals refine ⟨ret_int ?_, rfl⟩
        all_goals rw [HA.out, lastT_some]
        all_goals first
          | (rw [if_pos (by omega)]; rfl)
          | (rw [if_neg (by omega)]; rfl)

set_option maxHeartbeats 2000000 in
set_option maxRecDepth 100000 in
theorem rone_3 (s : ByteArray) (i : Nat) (w : World) (hs : s.size ≤ 140737488355328) (hi : i < s.size) (c : Nat) (hc : Hid (s[i].toNat = c)) (h0 : 224 ≤ c) (h1 : c ≤ 239) :
    Calls Try.prog 28 #[.string s, .int .i64 i] w (fun e w' => e = .returned (.int .i64 (oneL (s.data.toList.drop i))) ∧ w = w') := by
  have hx : ∀ u : World, (Instr.index 9 (.string s) (.int .i64 (i : Int))).run Try.prog u = .ok (.int .u8 c) u := fun u => run_byte s i hi c hc.out u
  have hg : (s.data.toList.drop i).getD 0 0 = s[i] := by rw [Lib.getD_dropU, byte_getD s i hi]; rfl
  have hll : (s.data.toList.drop i).length = s.size - i := by rw [List.length_drop, sz]
  by_cases hl : s.size < i + 3
  · have HE : Hid (oneL (s.data.toList.drop i) = 0) := one_short 3 (by omega) (by rw [hg, hc.out]; omega)
    rw [HE.out]
    clear hg hll
    have t1 : decide ((c : Int) ≤ 223) = false := decide_eq_false (by omega)
    go_enter Try.func28, Try.ntmps28
    go_wp2_with fail
    all_goals first | (exfalso; omega) | skip
    all_goals go_ret
    all_goals exact ⟨rfl, rfl⟩
  · have HE := Lib.hid (one_3 (l := s.data.toList.drop i) (by omega) (by rw [hg, hc.out]; exact h0) (by rw [hg, hc.out]; exact h1))
    rw [hg, hc.out] at HE
    have HM : Hid (∀ k, k < 2 → (((s.data.toList.drop i).drop 1).take 2).getD k 0 = s.data.toList.getD (i + (k + 1)) 0) := fun k hk => by
      simp [List.getD_eq_getElem?_getD, List.getElem?_take, List.getElem?_drop, hk]
      congr 2
      omega
    have hml : (((s.data.toList.drop i).drop 1).take 2).length = 2 := by rw [List.length_take, List.length_drop]; omega
    have HML := Lib.hid hml
    generalize ((s.data.toList.drop i).drop 1).take 2 = M at *
    rw [HE.out]
    clear hg hll hml HE hc
    have t1 : decide ((c : Int) ≤ 223) = false := decide_eq_false (by omega)
    go_enter Try.func28, Try.ntmps28
    go_wp2_with fail
    go_loop [8, 9] (fun vv kv => ∃ k x : Nat, 1 ≤ k ∧ k ≤ 3 ∧ kv = .int .i64 k ∧ vv = .int .i64 x ∧ x < 16 * 64 ^ (k - 1) ∧ Hid (contV (c % 16) M = contV x (M.drop (k - 1)))) (fun _ kv => 3 - (intOf kv).toNat)
    case atStart => exact ⟨1, c % 16, by omega, by omega, rfl, by go_num, by simp; omega, rfl⟩
    case round =>
      obtain ⟨k, x, hk1, hk2, rfl, rfl, hx1, hacc⟩ := hrel
      have hx8 : x < 8388608 := by
        have : 64 ^ (k - 1) ≤ 64 ^ 3 := Nat.pow_le_pow_right (by omega) (by omega)
        omega
      by_cases hlt : k < 3
      · obtain ⟨b, hbe⟩ : ∃ b, s[i + k].toNat = b := ⟨_, rfl⟩
        have hb256 : b < 256 := by rw [← hbe]; exact s[i + k].toNat_lt
        have hx2 : ∀ u : World, (Instr.index 9 (.string s) (.int .i64 ((i : Int) + (k : Int)))).run Try.prog u = .ok (.int .u8 b) u := fun u => by
          have := run_byte s (i + k) (by omega) b hbe u
          rwa [Int.natCast_add] at this
        have HS := Lib.hid (contV_step (m := M) (k := k - 1) (v := x) (by rw [HML.out]; omega))
        rw [HM.out (k - 1) (by omega), show i + (k - 1 + 1) = i + k by omega, ← byte_getD s (i + k) (by omega), hbe, show k - 1 + 1 = k by omega] at HS
        have htest := cont_test b hb256
        have HX1 := Lib.hid hx1
        clear hbe hx1
        by_cases hb2 : b / 64 = 2
        · have HA := Lib.hid (hacc.out.trans HS.out)
          rw [if_pos hb2] at HA
          rw [decide_eq_true hb2] at htest
          have htest' : (bits .and .u8 (b : Int) 192 != 128) = false := htest
          have HO := Lib.hid (or64 x (b % 64) hx8 (by omega))
          clear htest HS hacc
          go_wp2_with fail
          go_round
          case rel => exact ⟨k + 1, x * 64 + b % 64, by omega, by omega, by go_num, by rw [or_val x b hx8], by have := HX1.out; rw [show k + 1 - 1 = k - 1 + 1 by omega, Nat.pow_succ]; omega, HA.out⟩
          case measure => simp [intOf]; omega
        · have HA := Lib.hid (hacc.out.trans HS.out)
          rw [if_neg hb2] at HA
          rw [decide_eq_false hb2] at htest
          have htest' : (bits .and .u8 (b : Int) 192 != 128) = true := htest
          clear htest HS hacc
          go_wp2_with fail
          go_ret
          exact ⟨by rw [HA.out]; rfl, rfl⟩
      · have HA : Hid (contV (c % 16) M = some x) := by
          show _ = _
          rw [hacc.out, List.drop_of_length_le (by rw [HML.out]; omega)]
          rfl
        obtain rfl : k = 3 := by omega
        clear hx1 hacc HM HML
        go_wp2_with fail
        all_goals go_ret
        all_goals refine ⟨ret_int ?_, rfl⟩
        all_goals rw [HA.out, lastT_some]
        all_goals first
          | (rw [if_pos (by omega)]; rfl)
          | (rw [if_neg (by omega)]; rfl)

set_option maxHeartbeats 2000000 in
set_option maxRecDepth 100000 in
theorem rone_4 (s : ByteArray) (i : Nat) (w : World) (hs : s.size ≤ 140737488355328) (hi : i < s.size) (c : Nat) (hc : Hid (s[i].toNat = c)) (h0 : 240 ≤ c) (h1 : c ≤ 244) :
    Calls Try.prog 28 #[.string s, .int .i64 i] w (fun e w' => e = .returned (.int .i64 (oneL (s.data.toList.drop i))) ∧ w = w') := by
  have hx : ∀ u : World, (Instr.index 9 (.string s) (.int .i64 (i : Int))).run Try.prog u = .ok (.int .u8 c) u := fun u => run_byte s i hi c hc.out u
  have hg : (s.data.toList.drop i).getD 0 0 = s[i] := by rw [Lib.getD_dropU, byte_getD s i hi]; rfl
  have hll : (s.data.toList.drop i).length = s.size - i := by rw [List.length_drop, sz]
  by_cases hl : s.size < i + 4
  · have HE : Hid (oneL (s.data.toList.drop i) = 0) := one_short 4 (by omega) (by rw [hg, hc.out]; omega)
    rw [HE.out]
    clear hg hll
    have t1 : decide ((c : Int) ≤ 223) = false := decide_eq_false (by omega)
    have t2 : decide ((c : Int) ≤ 239) = false := decide_eq_false (by omega)
    go_enter Try.func28, Try.ntmps28
    go_wp2_with fail
    all_goals first | (exfalso; omega) | skip
    all_goals go_ret
    all_goals exact ⟨rfl, rfl⟩
  · have HE := Lib.hid (one_4 (l := s.data.toList.drop i) (by omega) (by rw [hg, hc.out]; exact h0) (by rw [hg, hc.out]; exact h1))
    rw [hg, hc.out] at HE
    have HM : Hid (∀ k, k < 3 → (((s.data.toList.drop i).drop 1).take 3).getD k 0 = s.data.toList.getD (i + (k + 1)) 0) := fun k hk => by
      simp [List.getD_eq_getElem?_getD, List.getElem?_take, List.getElem?_drop, hk]
      congr 2
      omega
    have hml : (((s.data.toList.drop i).drop 1).take 3).length = 3 := by rw [List.length_take, List.length_drop]; omega
    have HML := Lib.hid hml
    generalize ((s.data.toList.drop i).drop 1).take 3 = M at *
    rw [HE.out]
    clear hg hll hml HE hc
    have t1 : decide ((c : Int) ≤ 223) = false := decide_eq_false (by omega)
    have t2 : decide ((c : Int) ≤ 239) = false := decide_eq_false (by omega)
    go_enter Try.func28, Try.ntmps28
    go_wp2_with fail
    go_loop [8, 9] (fun vv kv => ∃ k x : Nat, 1 ≤ k ∧ k ≤ 4 ∧ kv = .int .i64 k ∧ vv = .int .i64 x ∧ x < 8 * 64 ^ (k - 1) ∧ Hid (contV (c % 8) M = contV x (M.drop (k - 1)))) (fun _ kv => 4 - (intOf kv).toNat)
    case atStart => exact ⟨1, c % 8, by omega, by omega, rfl, by go_num, by simp; omega, rfl⟩
    case round =>
      obtain ⟨k, x, hk1, hk2, rfl, rfl, hx1, hacc⟩ := hrel
      have hx8 : x < 8388608 := by
        have : 64 ^ (k - 1) ≤ 64 ^ 3 := Nat.pow_le_pow_right (by omega) (by omega)
        omega
      by_cases hlt : k < 4
      · obtain ⟨b, hbe⟩ : ∃ b, s[i + k].toNat = b := ⟨_, rfl⟩
        have hb256 : b < 256 := by rw [← hbe]; exact s[i + k].toNat_lt
        have hx2 : ∀ u : World, (Instr.index 9 (.string s) (.int .i64 ((i : Int) + (k : Int)))).run Try.prog u = .ok (.int .u8 b) u := fun u => by
          have := run_byte s (i + k) (by omega) b hbe u
          rwa [Int.natCast_add] at this
        have HS := Lib.hid (contV_step (m := M) (k := k - 1) (v := x) (by rw [HML.out]; omega))
        rw [HM.out (k - 1) (by omega), show i + (k - 1 + 1) = i + k by omega, ← byte_getD s (i + k) (by omega), hbe, show k - 1 + 1 = k by omega] at HS
        have htest := cont_test b hb256
        have HX1 := Lib.hid hx1
        clear hbe hx1
        by_cases hb2 : b / 64 = 2
        · have HA := Lib.hid (hacc.out.trans HS.out)
          rw [if_pos hb2] at HA
          rw [decide_eq_true hb2] at htest
          have htest' : (bits .and .u8 (b : Int) 192 != 128) = false := htest
          have HO := Lib.hid (or64 x (b % 64) hx8 (by omega))
          clear htest HS hacc
          go_wp2_with fail
          go_round
          case rel => exact ⟨k + 1, x * 64 + b % 64, by omega, by omega, by go_num, by rw [or_val x b hx8], by have := HX1.out; rw [show k + 1 - 1 = k - 1 + 1 by omega, Nat.pow_succ]; omega, HA.out⟩
          case measure => simp [intOf]; omega
        · have HA := Lib.hid (hacc.out.trans HS.out)
          rw [if_neg hb2] at HA
          rw [decide_eq_false hb2] at htest
          have htest' : (bits .and .u8 (b : Int) 192 != 128) = true := htest
          clear htest HS hacc
          go_wp2_with fail
          go_ret
          exact ⟨by rw [HA.out]; rfl, rfl⟩
      · have HA : Hid (contV (c % 8) M = some x) := by
          show _ = _
          rw [hacc.out, List.drop_of_length_le (by rw [HML.out]; omega)]
          rfl
        obtain rfl : k = 4 := by omega
        clear hx1 hacc HM HML
        go_wp2_with fail
        all_goals go_ret
        all_goals refine ⟨ret_int ?_, rfl⟩
        all_goals rw [HA.out, lastT_some]
        all_goals first
          | (rw [if_pos (by omega)]; rfl)
          | (rw [if_neg (by omega)]; rfl)

set_option maxHeartbeats 1000000 in
set_option maxRecDepth 100000 in
theorem rone_any (s : ByteArray) (i : Nat) (w : World) (hs : s.size ≤ 140737488355328) (hi : i < s.size) :
    Calls Try.prog 28 #[.string s, .int .i64 i] w (fun e w' => e = .returned (.int .i64 (oneL (s.data.toList.drop i))) ∧ w = w') := by
  obtain ⟨c, hc⟩ : ∃ c, s[i].toNat = c := ⟨_, rfl⟩
  have hc256 : c < 256 := by rw [← hc]; exact s[i].toNat_lt
  by_cases h2 : 194 ≤ c ∧ c ≤ 223
  · exact rone_2 s i w hs hi c hc h2.1 h2.2
  by_cases h3 : 224 ≤ c ∧ c ≤ 239
  · exact rone_3 s i w hs hi c hc h3.1 h3.2
  by_cases h4 : 240 ≤ c ∧ c ≤ 244
  · exact rone_4 s i w hs hi c hc h4.1 h4.2
  have hx : ∀ u : World, (Instr.index 9 (.string s) (.int .i64 (i : Int))).run Try.prog u = .ok (.int .u8 c) u := fun u => run_byte s i hi c hc u
  have hg : (s.data.toList.drop i).getD 0 0 = s[i] := by rw [Lib.getD_dropU, byte_getD s i hi]; rfl
  by_cases ha : c < 128
  · rw [one_A (l := s.data.toList.drop i) (by rw [hg, hc]; exact ha)]
    clear hg hc h2 h3 h4
    go_enter Try.func28, Try.ntmps28
    go_wp2_with fail
    go_ret
    exact ⟨rfl, rfl⟩
  · rw [one_E (l := s.data.toList.drop i) (by rw [hg, hc]; omega)]
    clear hg hc
    go_enter Try.func28, Try.ntmps28
    go_wp2_with fail
    all_goals first | (exfalso; omega) | skip
    all_goals go_ret
    all_goals exact ⟨rfl, rfl⟩

set_option maxHeartbeats 1000000 in
theorem rwhole_any (s : ByteArray) (w : World) (hs : s.size ≤ 140737488355328) :
    Calls Try.prog 18 #[.string s] w (fun e w' => e = .returned (.bool (wholeB s.data.toList)) ∧ w = w') := by
  go_enter Try.func18, Try.ntmps18
  go_wp2_with fail
  go_loop [3] (fun iv => ∃ k : Nat, k ≤ s.size ∧ iv = .int .i64 k ∧ Hid (wholeB s.data.toList = wholeB (s.data.toList.drop k))) (fun iv => s.size - (intOf iv).toNat)
  case atStart => exact ⟨0, by omega, rfl, by show _ = _; rw [List.drop_zero]⟩
  case round =>
    obtain ⟨k, hk, rfl, hacc⟩ := hrel
    by_cases hlt : k < s.size
    · have RO := Lib.hid (fun u => rone_any s k u hs hlt)
      have hne := drop_ne hlt
      cases hb : badB (s.data.toList.drop k) with
      | true =>
        have HA := Lib.hid (hacc.out.trans (wholeB_bad hne hb))
        rw [(oneL_zero hne).2 hb] at RO
        clear hacc hb hne
        go_wp2_with (go_at_call 28; (with_reducible refine (RO.out _).mono ?_); rintro e w' ⟨rfl, rfl⟩)
        go_ret
        exact ⟨ret_bool (by rw [HA.out]), rfl⟩
      | false =>
        obtain ⟨_, _, _, g4, g5⟩ := good_front hne hb
        have HA := Lib.hid (hacc.out.trans (wholeB_good hne hb))
        rw [List.drop_drop] at HA
        rw [oneL_pos hb] at RO
        rw [List.length_drop, sz] at g5
        generalize (Lib.decodeL (s.data.toList.drop k)).2 = n at *
        have hz : ((n : Int) == 0) = false := by simp; omega
        clear hacc hb hne
        go_wp2_with (go_at_call 28; (with_reducible refine (RO.out _).mono ?_); rintro e w' ⟨rfl, rfl⟩)
        go_round
        case rel => exact ⟨k + n, by omega, by go_num, HA.out⟩
        case measure => simp [intOf]; omega
    · have HA : Hid (wholeB s.data.toList = true) := by show _ = _; rw [hacc.out, drop_end hlt, wholeB_nil]
      clear hacc
      go_wp2_with fail
      go_ret
      exact ⟨ret_bool (by rw [HA.out]), rfl⟩
end Go.Proofs.Ytfkdepjioleakaa
