import Derived.Test.YtoioidafnedneaaDoorToks
/- The contract of the document's word (humpyardref03). -/
set_option linter.unusedVariables false
set_option linter.unusedSimpArgs false
namespace Go.Proofs.YtoioidafnedneaaDoor.Lex
open Go.RowKit

theorem ext_take (s : ByteArray) (i n : Nat) (h : i + n ≤ s.size) : s.extract i (i + n) = ⟨((s.data.toList.drop i).take n).toArray⟩ := by
  apply ByteArray.ext
  rw [ByteArray.data_extract]
  apply Array.ext'
  rw [Array.toList_extract]
  simp [List.extract]
theorem u8_eq {c : UInt8} {n : Nat} (hn : n < 256) (h : c.toNat = n) : c = UInt8.ofNat n := by rw [← h]; simp
theorem numB_cases (c : UInt8) : (numB c = true ∧ ((48 ≤ (c.toNat : Int) ∧ (c.toNat : Int) ≤ 57) ∨ (c.toNat : Int) = 43 ∨ (c.toNat : Int) = 45 ∨ (c.toNat : Int) = 46 ∨ (c.toNat : Int) = 101 ∨ (c.toNat : Int) = 69)) ∨
    (numB c = false ∧ ((c.toNat : Int) < 48 ∨ 57 < (c.toNat : Int)) ∧ (c.toNat : Int) ≠ 43 ∧ (c.toNat : Int) ≠ 45 ∧ (c.toNat : Int) ≠ 46 ∧ (c.toNat : Int) ≠ 101 ∧ (c.toNat : Int) ≠ 69) := by
  cases h : numB c with
  | true =>
    refine .inl ⟨rfl, ?_⟩
    simp only [numB, List.contains_eq_mem, decide_eq_true_eq, List.mem_cons, List.not_mem_nil, or_false] at h
    rcases h with rfl | rfl | rfl | rfl | rfl | rfl | rfl | rfl | rfl | rfl | rfl | rfl | rfl | rfl | rfl <;> decide
  | false =>
    refine .inr ⟨rfl, ?_⟩
    have k : ∀ n : Nat, n < 256 → numB (UInt8.ofNat n) = true → c.toNat ≠ n := fun n hn hb e => by rw [← u8_eq hn e, h] at hb; cases hb
    have h0 := k 48 (by omega) (by decide); have h1 := k 49 (by omega) (by decide); have h2 := k 50 (by omega) (by decide); have h3 := k 51 (by omega) (by decide); have h4 := k 52 (by omega) (by decide)
    have h5 := k 53 (by omega) (by decide); have h6 := k 54 (by omega) (by decide); have h7 := k 55 (by omega) (by decide); have h8 := k 56 (by omega) (by decide); have h9 := k 57 (by omega) (by decide)
    have a := k 43 (by omega) (by decide); have b := k 45 (by omega) (by decide); have d := k 46 (by omega) (by decide); have e := k 101 (by omega) (by decide); have f := k 69 (by omega) (by decide)
    omega
theorem letB_cases (c : UInt8) : (letB c = true ∧ 97 ≤ (c.toNat : Int) ∧ (c.toNat : Int) ≤ 122) ∨ (letB c = false ∧ ((c.toNat : Int) < 97 ∨ 122 < (c.toNat : Int))) := by
  unfold letB
  by_cases h1 : 97 ≤ c.toNat
  · by_cases h2 : c.toNat ≤ 122
    · left; simp [h1, h2]; omega
    · right; simp [h1, h2]; omega
  · right; simp [h1]; omega

set_option maxHeartbeats 2000000 in
theorem rword_num (s : ByteArray) (i : Nat) (w : World) (hi : i ≤ s.size) (hs : s.size ≤ 1000000) :
    Calls Tryd.prog 38 #[.string s, .int .i64 i, .bool true] w (fun e w' => e = .returned (.string ⟨((s.data.toList.drop i).takeWhile numB).toArray⟩) ∧ w = w') := by
  obtain ⟨N, HN⟩ : ∃ N, Hid (spanN numB (s.data.toList.drop i) = N) := ⟨_, rfl⟩
  have hN : i + N ≤ s.size := by
    have := spanN_le numB (s.data.toList.drop i); rw [HN.out, List.length_drop, sz] at this; omega
  have HE : Hid (s.extract i (i + N) = ⟨((s.data.toList.drop i).takeWhile numB).toArray⟩) := by
    show _ = _
    rw [ext_take s i N hN, ← HN.out, take_spanN]
  obtain ⟨E, hE⟩ : ∃ E, Hid ((⟨((s.data.toList.drop i).takeWhile numB).toArray⟩ : ByteArray) = E) := ⟨_, rfl⟩
  rw [hE.out] at HE ⊢
  clear hE
  go_enter Tryd.func38, Tryd.ntmps38
  go_wp2
  go_loop [7] (fun x => ∃ k : Nat, i + k ≤ s.size ∧ x = .int .i64 k ∧ Hid (N = k + spanN numB (s.data.toList.drop (i + k)))) (fun x => s.size - (intOf x).toNat)
  case atStart => exact ⟨0, by omega, rfl, by show _ = _; rw [← HN.out]; simp⟩
  case round =>
    obtain ⟨k, hk, rfl, HK⟩ := hrel
    by_cases hlt : i + k < s.size
    · have hx : ∀ u : World, (Instr.index 9 (.string s) (.int .i64 ((i : Int) + (k : Int)))).run Tryd.prog u = .ok (.int .u8 s[i + k].toNat) u := by
        have := Quo.run_byte s (i + k) hlt s[i + k].toNat rfl
        simpa using this
      have HD := Lib.hid (drop_at hlt)
      generalize hc : s[i + k] = c at *
      have hC := numB_cases c
      have HY := Lib.hid (fun h => spanN_yes (p := numB) (c := c) h)
      have HNo := Lib.hid (fun h => spanN_no (p := numB) (c := c) h)
      clear hc
      have c0 : (0 : Int) ≤ (c.toNat : Int) := by omega
      have c1 : (c.toNat : Int) < 256 := by have := c.toNat_lt; omega
      generalize (c.toNat : Int) = z at *
      rcases hC with ⟨hp, hC⟩ | ⟨hp, hC⟩
      · have HM : Hid (N = (k + 1) + spanN numB (s.data.toList.drop (i + (k + 1)))) := by
          show _ = _
          rw [HK.out, HD.out, HY.out hp, show i + k + 1 = i + (k + 1) by omega]; omega
        clear HK HD HY HNo hp HE HN
        rcases hC with ⟨h1, h2⟩ | h1 | h1 | h1 | h1 | h1
        all_goals
          go_wp2_with fail
          go_round
          case rel => exact ⟨k + 1, by omega, by go_num, HM⟩
          case measure => simp [intOf]; omega
      · obtain rfl : k = N := by
          have := HK.out; rw [HD.out, HNo.out hp] at this; omega
        clear HK HD HY HNo hp HN
        rcases hC with ⟨h0 | h0, h1, h2, h3, h4, h5⟩
        all_goals
          have b1 : (z == 43) = false := by simpa using h1
          have b2 : (z == 45) = false := by simpa using h2
          have b3 : (z == 46) = false := by simpa using h3
          have b4 : (z == 101) = false := by simpa using h4
          have b5 : (z == 69) = false := by simpa using h5
          clear h1 h2 h3 h4 h5
          go_wp2_with fail
          go_ret
          exact ⟨by rw [HE.out]; rfl, rfl⟩
    · obtain rfl : k = N := by
        have := HK.out; rw [drop_end hlt] at this; simpa [spanN] using this.symm
      clear HK HN
      go_wp2_with fail
      go_ret
      exact ⟨by rw [HE.out]; rfl, rfl⟩

set_option maxHeartbeats 2000000 in
theorem rword_let (s : ByteArray) (i : Nat) (w : World) (hi : i ≤ s.size) (hs : s.size ≤ 1000000) :
    Calls Tryd.prog 38 #[.string s, .int .i64 i, .bool false] w (fun e w' => e = .returned (.string ⟨((s.data.toList.drop i).takeWhile letB).toArray⟩) ∧ w = w') := by
  obtain ⟨N, HN⟩ : ∃ N, Hid (spanN letB (s.data.toList.drop i) = N) := ⟨_, rfl⟩
  have hN : i + N ≤ s.size := by
    have := spanN_le letB (s.data.toList.drop i); rw [HN.out, List.length_drop, sz] at this; omega
  have HE : Hid (s.extract i (i + N) = ⟨((s.data.toList.drop i).takeWhile letB).toArray⟩) := by
    show _ = _
    rw [ext_take s i N hN, ← HN.out, take_spanN]
  obtain ⟨E, hE⟩ : ∃ E, Hid ((⟨((s.data.toList.drop i).takeWhile letB).toArray⟩ : ByteArray) = E) := ⟨_, rfl⟩
  rw [hE.out] at HE ⊢
  clear hE
  go_enter Tryd.func38, Tryd.ntmps38
  go_wp2
  go_loop [7] (fun x => ∃ k : Nat, i + k ≤ s.size ∧ x = .int .i64 k ∧ Hid (N = k + spanN letB (s.data.toList.drop (i + k)))) (fun x => s.size - (intOf x).toNat)
  case atStart => exact ⟨0, by omega, rfl, by show _ = _; rw [← HN.out]; simp⟩
  case round =>
    obtain ⟨k, hk, rfl, HK⟩ := hrel
    by_cases hlt : i + k < s.size
    · have hx : ∀ u : World, (Instr.index 9 (.string s) (.int .i64 ((i : Int) + (k : Int)))).run Tryd.prog u = .ok (.int .u8 s[i + k].toNat) u := by
        have := Quo.run_byte s (i + k) hlt s[i + k].toNat rfl
        simpa using this
      have HD := Lib.hid (drop_at hlt)
      generalize hc : s[i + k] = c at *
      have hC := letB_cases c
      have HY := Lib.hid (fun h => spanN_yes (p := letB) (c := c) h)
      have HNo := Lib.hid (fun h => spanN_no (p := letB) (c := c) h)
      clear hc
      have c0 : (0 : Int) ≤ (c.toNat : Int) := by omega
      have c1 : (c.toNat : Int) < 256 := by have := c.toNat_lt; omega
      generalize (c.toNat : Int) = z at *
      rcases hC with ⟨hp, hC⟩ | ⟨hp, hC⟩
      · have HM : Hid (N = (k + 1) + spanN letB (s.data.toList.drop (i + (k + 1)))) := by
          show _ = _
          rw [HK.out, HD.out, HY.out hp, show i + k + 1 = i + (k + 1) by omega]; omega
        clear HK HD HY HNo hp HE HN
        rcases hC with ⟨h1, h2⟩
        all_goals
          go_wp2_with fail
          go_round
          case rel => exact ⟨k + 1, by omega, by go_num, HM⟩
          case measure => simp [intOf]; omega
      · obtain rfl : k = N := by
          have := HK.out; rw [HD.out, HNo.out hp] at this; omega
        clear HK HD HY HNo hp HN
        rcases hC with h1 | h1
        all_goals
          go_wp2_with fail
          go_ret
          exact ⟨by rw [HE.out]; rfl, rfl⟩
    · obtain rfl : k = N := by
        have := HK.out; rw [drop_end hlt] at this; simpa [spanN] using this.symm
      clear HK HN
      go_wp2_with fail
      go_ret
      exact ⟨by rw [HE.out]; rfl, rfl⟩
end Go.Proofs.YtoioidafnedneaaDoor.Lex
