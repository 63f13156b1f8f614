import Derived.Test.YtnpbkjmlmdpggaaKj
import Derived.Laws.BitsAllLaws
/- topic's Name alone: out of u/XTl, XTa. -/
set_option linter.unusedVariables false
set_option linter.unusedSimpArgs false
namespace Go.Proofs.Ytnpbkjmlmdpggaa.Tp
open Go.RowKit
def ofB (c : UInt8) : Bool := decide (c.toNat = 95 ∨ c.toNat = 46 ∨ c.toNat = 58 ∨ c.toNat = 45 ∨ (97 ≤ c.toNat ∧ c.toNat ≤ 122) ∨ (65 ≤ c.toNat ∧ c.toNat ≤ 90) ∨ (48 ≤ c.toNat ∧ c.toNat ≤ 57))
def nameB (l : List UInt8) : Bool := decide (1 ≤ l.length ∧ l.length ≤ 16) && l.all ofB
theorem ret_bool {a b : Bool} (h : a = b) : Ending.returned (.bool a) = .returned (.bool b) := by rw [h]
theorem bs_size (F : List UInt8) : (⟨F.toArray⟩ : ByteArray).size = F.length := List.size_toArray
theorem sz (s : ByteArray) : s.data.toList.length = s.size := by rw [Array.length_toList]; rfl
theorem bs_self (s : ByteArray) : s = ⟨s.data.toList.toArray⟩ := by apply ByteArray.ext; simp
theorem beq_no {n m : Nat} (h : n ≠ m) : ((n : Int) == (m : Int)) = false := by
  simp; omega
set_option maxHeartbeats 4000000 in
set_option maxRecDepth 100000 in
theorem ofName_any (c : UInt8) (w : World) : Calls Try.prog 54 #[.int .u8 c.toNat] w (fun e w' => e = .returned (.bool (ofB c)) ∧ w = w') := by
  unfold ofB
  generalize c.toNat = n
  by_cases h : n = 95 ∨ n = 46 ∨ n = 58 ∨ n = 45
  · rcases h with rfl | rfl | rfl | rfl
    all_goals
      go_enter Try.func54, Try.ntmps54
      go_wp2
      go_ret
      exact ⟨rfl, rfl⟩
  · have h1 := beq_no (n := n) (m := 95) (by omega)
    have h2 := beq_no (n := n) (m := 46) (by omega)
    have h3 := beq_no (n := n) (m := 58) (by omega)
    have h4 := beq_no (n := n) (m := 45) (by omega)
    simp only [Int.cast_ofNat_Int] at h1 h2 h3 h4
    have HN := Lib.hid h
    clear h
    go_enter Try.func54, Try.ntmps54
    go_wp2
    all_goals go_ret
    all_goals exact ⟨ret_bool (by have := HN.out; rw [Bool.eq_iff_iff]; simp; try omega), rfl⟩
theorem run_byte (s : ByteArray) (k : Nat) (h : k < s.size) (c : Nat) (hc : s[k].toNat = c) (u : World) : (Instr.index 9 (.string s) (.int .i64 (k : Int))).run Try.prog u = .ok (.int .u8 c) u := by
  rw [run_index_string _ _ _ _ _ Try.underlying9]
  have e1 : ((k : Int)).toNat = k := Int.toNat_natCast k
  simp [h, hc]
theorem take_at {s : ByteArray} {k : Nat} (h : k < s.size) : s.data.toList.take (k + 1) = s.data.toList.take k ++ [s[k]] := by
  rw [List.take_add_one, List.getElem?_eq_getElem (by rw [sz]; exact h)]; rfl
theorem all_snoc (l : List UInt8) (c : UInt8) : (l ++ [c]).all ofB = (l.all ofB && ofB c) := by simp
set_option maxHeartbeats 4000000 in
set_option maxRecDepth 100000 in
theorem Name_any (s : ByteArray) (w : World) (hs : s.size ≤ 9223372036854775000) : Calls Try.prog 47 #[.string s] w (fun e w' => e = .returned (.bool (nameB s.data.toList)) ∧ w = w') := by
  unfold nameB
  rw [sz]
  obtain ⟨B, HB⟩ : ∃ B, Hid (s.data.toList.all ofB = B) := ⟨_, rfl⟩
  rw [HB.out]
  by_cases h1 : 1 ≤ s.size
  · by_cases h2 : s.size ≤ 16
    · rw [show decide (1 ≤ s.size ∧ s.size ≤ 16) = true by simp [h1, h2], Bool.true_and]
      go_enter Try.func47, Try.ntmps47
      go_wp2
      go_loop [14] (fun i => ∃ k : Nat, k ≤ s.size ∧ i = .int .i64 k ∧ Hid ((s.data.toList.take k).all ofB = true)) (fun i => s.size - (intOf i).toNat)
      case atStart => exact ⟨0, Nat.zero_le _, rfl, rfl⟩
      case round =>
        obtain ⟨k, hk, rfl, HK⟩ := hrel
        by_cases hlt : k < s.size
        · have hx : ∀ u : World, (Instr.index 9 (.string s) (.int .i64 k)).run Try.prog u = .ok (.int .u8 s[k].toNat) u := run_byte s k hlt s[k].toNat rfl
          have HD := Lib.hid (take_at hlt)
          have HM : Hid (s[k] ∈ s.data.toList) := by
            show s[k] ∈ s.data.toList
            exact Array.mem_toList_iff.2 (Array.getElem_mem hlt)
          generalize hc : s[k] = c at *
          clear hc
          have C := Lib.hid (ofName_any c)
          cases hp : ofB c with
          | true =>
            rw [hp] at C
            have HP := Lib.hid hp
            clear hp
            go_wp2_with (go_at_call 54; refine (C.out _).mono ?_; rintro e w' ⟨rfl, rfl⟩)
            go_round
            case rel => exact ⟨k + 1, by omega, by go_num, by show _ = _; rw [HD.out, all_snoc, HK.out, HP.out]; rfl⟩
            case measure => simp [intOf]; omega
          | false =>
            rw [hp] at C
            have HA : Hid (s.data.toList.all ofB = false) := by
              show _ = _
              rw [Bool.eq_false_iff]
              intro h
              have := List.all_eq_true.1 h c HM.out
              rw [hp] at this
              cases this
            clear hp
            go_wp2_with (go_at_call 54; refine (C.out _).mono ?_; rintro e w' ⟨rfl, rfl⟩)
            go_ret
            exact ⟨ret_bool (HA.out.symm.trans HB.out), rfl⟩
        · have HE : Hid (s.data.toList.all ofB = true) := by
            show _ = _
            have := HK.out
            rwa [List.take_of_length_le (by rw [sz]; omega)] at this
          go_wp2
          go_ret
          exact ⟨ret_bool (HE.out.symm.trans HB.out), rfl⟩
    · rw [show decide (1 ≤ s.size ∧ s.size ≤ 16) = false by simp; omega, Bool.false_and]
      go_enter Try.func47, Try.ntmps47
      go_wp2
      go_ret
      exact ⟨rfl, rfl⟩
  · rw [show decide (1 ≤ s.size ∧ s.size ≤ 16) = false by simp; omega, Bool.false_and]
    go_enter Try.func47, Try.ntmps47
    go_wp2
    go_ret
    exact ⟨rfl, rfl⟩
theorem Name_l (l : List UInt8) (w : World) (hs : l.length ≤ 9223372036854775000) : Calls Try.prog 47 #[.string ⟨l.toArray⟩] w (fun e w' => e = .returned (.bool (nameB l)) ∧ w = w') :=
  Name_any ⟨l.toArray⟩ w (by rw [bs_size]; exact hs)
theorem tl_eq (a : List UInt8) : (⟨a.toArray⟩ : ByteArray).toList = a := by
  rw [ByteArray.toList_eq]
theorem bs_eq (a b : List UInt8) : ((⟨a.toArray⟩ : ByteArray) = ⟨b.toArray⟩) ↔ a = b := by
  constructor
  · intro h
    have := congrArg (fun x => x.data.toList) h
    simpa using this
  · rintro rfl
    rfl
theorem str_ne {a b : List UInt8} (h : a ≠ b) : ((⟨a.toArray⟩ : ByteArray).toList == (⟨b.toArray⟩ : ByteArray).toList) = false := by
  rw [tl_eq, tl_eq]
  simpa using h
end Go.Proofs.Ytnpbkjmlmdpggaa.Tp
