import Derived.Test.YtnpbkjmlmdpggaaKn
/- The document's Name: out of o/XTn8. -/
set_option linter.unusedVariables false
set_option linter.unusedSimpArgs false
namespace Go.Proofs.Ytnpbkjmlmdpggaa.Tp
open Go.RowKit
theorem classes (n : Nat) (h : n ≤ 255) : ((95 : Int) ≤ (n : Int) ∧ (n : Int) ≤ 95) ∨ ((46 : Int) ≤ (n : Int) ∧ (n : Int) ≤ 46) ∨ ((58 : Int) ≤ (n : Int) ∧ (n : Int) ≤ 58) ∨ ((45 : Int) ≤ (n : Int) ∧ (n : Int) ≤ 45) ∨ ((47 : Int) ≤ (n : Int) ∧ (n : Int) ≤ 47) ∨ ((96 : Int) ≤ (n : Int) ∧ (n : Int) ≤ 96) ∨ ((97 : Int) ≤ (n : Int) ∧ (n : Int) ≤ 122) ∨ ((65 : Int) ≤ (n : Int) ∧ (n : Int) ≤ 90) ∨ ((48 : Int) ≤ (n : Int) ∧ (n : Int) ≤ 57) ∨ ((0 : Int) ≤ (n : Int) ∧ (n : Int) ≤ 44) ∨ ((59 : Int) ≤ (n : Int) ∧ (n : Int) ≤ 64) ∨ ((91 : Int) ≤ (n : Int) ∧ (n : Int) ≤ 94) ∨ ((123 : Int) ≤ (n : Int) ∧ (n : Int) ≤ 255) := by omega
theorem ofB_yes {c : UInt8} (h : c.toNat = 95 ∨ c.toNat = 46 ∨ c.toNat = 58 ∨ c.toNat = 45 ∨ (97 ≤ c.toNat ∧ c.toNat ≤ 122) ∨ (65 ≤ c.toNat ∧ c.toNat ≤ 90) ∨ (48 ≤ c.toNat ∧ c.toNat ≤ 57)) : ofB c = true := by
  unfold ofB; exact decide_eq_true h
theorem ofB_no {c : UInt8} (h : ¬ (c.toNat = 95 ∨ c.toNat = 46 ∨ c.toNat = 58 ∨ c.toNat = 45 ∨ (97 ≤ c.toNat ∧ c.toNat ≤ 122) ∨ (65 ≤ c.toNat ∧ c.toNat ≤ 90) ∨ (48 ≤ c.toNat ∧ c.toNat ≤ 57))) : ofB c = false := by
  unfold ofB; exact decide_eq_false h
theorem name_all {l : List UInt8} (h : l.all ofB = true) : nameB l = decide (1 ≤ l.length ∧ l.length ≤ 16) := by
  unfold nameB; rw [h, Bool.and_true]
theorem name_of {l : List UInt8} (h : nameB l = true) : ∀ c ∈ l, ofB c = true := by
  simp only [nameB, Bool.and_eq_true, List.all_eq_true] at h; exact h.2
theorem name_no {l : List UInt8} (h : nameB l = true) {c : UInt8} (hc : ofB c = false) : c ∉ l := fun hm => by
  have := name_of h c hm; rw [hc] at this; cases this
theorem name_bad {l : List UInt8} {c : UInt8} (h : c ∈ l) (hc : ofB c = false) : nameB l = false := by
  cases hn : nameB l with
  | false => rfl
  | true => exact absurd h (name_no hn hc)
set_option maxHeartbeats 4000000 in
set_option maxRecDepth 100000 in
theorem rName_any (s : ByteArray) (w : World) (hs : s.size ≤ 9223372036854775000) : Calls Try.prog 49 #[.string s] w (fun e w' => e = .returned (.bool (nameB s.data.toList)) ∧ w = w') := by
  obtain ⟨B, hB0⟩ : ∃ B, nameB s.data.toList = B := ⟨_, rfl⟩
  have HB := Lib.hid hB0
  rw [hB0]
  clear hB0
  go_enter Try.func49, Try.ntmps49
  go_wp2
  go_loop [3] (fun i => ∃ k : Nat, k ≤ s.size ∧ i = .int .i64 k ∧ Hid ((s.data.toList.take k).all ofB = true)) (fun i => s.size - (intOf i).toNat)
  case atStart => exact ⟨0, Nat.zero_le _, rfl, rfl⟩
  case round =>
    obtain ⟨k, hk, rfl, HK⟩ := hrel
    by_cases hlt : k < s.size
    · have hx : ∀ u : World, (Instr.index 9 (.string s) (.int .i64 k)).run Try.prog u = .ok (.int .u8 s[k].toNat) u := run_byte s k hlt s[k].toNat rfl
      have HD := Lib.hid (take_at hlt)
      have HM : Hid (s[k] ∈ s.data.toList) := by
        show s[k] ∈ s.data.toList
        exact Array.mem_toList_iff.2 (Array.getElem_mem hlt)
      generalize s[k] = c at *
      rcases classes c.toNat (by have := c.toNat_lt; omega) with h | h | h | h | h | h | h | h | h | h | h | h | h
      all_goals
        first
          | (have hq := ofB_yes (c := c) (by omega); have HP := Lib.hid hq; clear hq)
          | (have hq := ofB_no (c := c) (by omega); have HP := Lib.hid hq; clear hq)
        generalize c.toNat = m at *
        first | have e1 : ((m : Int) == 95) = true := by simp; omega | have e1 : ((m : Int) == 95) = false := by simp; omega
        first | have e2 : ((m : Int) == 46) = true := by simp; omega | have e2 : ((m : Int) == 46) = false := by simp; omega
        first | have e3 : ((m : Int) == 58) = true := by simp; omega | have e3 : ((m : Int) == 58) = false := by simp; omega
        first | have e4 : ((m : Int) == 45) = true := by simp; omega | have e4 : ((m : Int) == 45) = false := by simp; omega
        first | have e5 : decide ((m : Int) ≤ 122) = true := decide_eq_true (by omega) | have e5 : decide ((m : Int) ≤ 122) = false := decide_eq_false (by omega)
        first | have e6 : decide ((m : Int) ≤ 90) = true := decide_eq_true (by omega) | have e6 : decide ((m : Int) ≤ 90) = false := decide_eq_false (by omega)
        first | have e7 : decide ((m : Int) ≤ 57) = true := decide_eq_true (by omega) | have e7 : decide ((m : Int) ≤ 57) = false := decide_eq_false (by omega)
        go_wp2_with fail
        first
          | (go_round; case rel => exact ⟨k + 1, by omega, by go_num, by show _ = _; rw [HD.out, all_snoc, HK.out, HP.out]; rfl⟩
             case measure => simp [intOf]; omega)
          | (go_ret; exact ⟨ret_bool ((name_bad HM.out HP.out).symm.trans HB.out), rfl⟩)
    · have HA := Lib.hid HB.out
      have h1 := HK.out
      rw [List.take_of_length_le (by rw [sz]; omega)] at h1
      have HB2 : Hid (decide (1 ≤ s.size ∧ s.size ≤ 16) = B) := by
        show _ = _
        rw [← HB.out, name_all h1, sz]
      clear h1
      by_cases c1 : 1 ≤ s.size
      · by_cases c2 : s.size ≤ 16
        · go_wp2
          go_ret
          exact ⟨ret_bool (by rw [← HB2.out]; simp [c1, c2] <;> omega), rfl⟩
        · go_wp2
          go_ret
          exact ⟨ret_bool (by rw [← HB2.out]; simp [c1, c2] <;> omega), rfl⟩
      · go_wp2
        go_ret
        exact ⟨ret_bool (by rw [← HB2.out]; simp [c1] <;> omega), rfl⟩
theorem rname_l (l : List UInt8) (w : World) (h : l.length ≤ 9223372036854775000) : Calls Try.prog 49 #[.string ⟨l.toArray⟩] w (fun e w' => e = .returned (.bool (nameB l)) ∧ w = w') := by
  have := rName_any (⟨l.toArray⟩ : ByteArray) w (by rw [bs_size]; exact h)
  simpa using this
end Go.Proofs.Ytnpbkjmlmdpggaa.Tp
