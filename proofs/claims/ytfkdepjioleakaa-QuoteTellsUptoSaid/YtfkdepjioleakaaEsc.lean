/- Contracts of digit, unit, isFirst, isSecond, numbered and escape. -/
import Derived.Test.YtfkdepjioleakaaQuote2
set_option linter.unusedVariables false
set_option linter.unusedSimpArgs false
namespace Go.Proofs.Ytfkdepjioleakaa
open Go.RowKit

def digV (o : Option Nat) : Value := match o with
  | none => .tuple #[.int .i32 0, .bool false]
  | some d => .tuple #[.int .i32 d, .bool true]

theorem two_int {a b : Int} {x y : Bool} (h : a = b) (k : x = y) : Ending.returned (.tuple #[.int .i32 a, .bool x]) = .returned (.tuple #[.int .i32 b, .bool y]) := by rw [h, k]

set_option maxHeartbeats 1000000 in
theorem digit_any (c : UInt8) (w : World) :
    Calls Try.prog 47 #[.int .u8 c.toNat] w (fun e w' => e = .returned (digV (digL c)) ∧ w = w') := by
  have hc := c.toNat_lt
  unfold digL
  by_cases h1 : 48 ≤ c.toNat ∧ c.toNat ≤ 57
  · rw [if_pos h1]
    obtain ⟨a1, a2⟩ := h1
    generalize c.toNat = n at *
    go_enter Try.func47, Try.ntmps47
    go_wp2
    go_ret2
    exact ⟨two_int (by omega) rfl, rfl⟩
  · rw [if_neg h1]
    by_cases h2 : 97 ≤ c.toNat ∧ c.toNat ≤ 102
    · rw [if_pos h2]
      obtain ⟨a1, a2⟩ := h2
      clear h1
      generalize c.toNat = n at *
      have b2 : decide ((n : Int) ≤ 57) = false := by simp; omega
      go_enter Try.func47, Try.ntmps47
      go_wp2
      go_ret2
      exact ⟨two_int (by omega) rfl, rfl⟩
    · rw [if_neg h2]
      by_cases h3 : 65 ≤ c.toNat ∧ c.toNat ≤ 70
      · rw [if_pos h3]
        obtain ⟨a1, a2⟩ := h3
        clear h1 h2
        generalize c.toNat = n at *
        have b2 : decide ((n : Int) ≤ 57) = false := by simp; omega
        have b3 : decide (97 ≤ (n : Int)) = false := by simp; omega
        go_enter Try.func47, Try.ntmps47
        go_wp2
        go_ret2
        exact ⟨two_int (by omega) rfl, rfl⟩
      · rw [if_neg h3]
        generalize c.toNat = n at *
        go_enter Try.func47, Try.ntmps47
        go_wp2
        all_goals first | (exfalso; omega) | skip
        all_goals go_ret2
        all_goals exact ⟨rfl, rfl⟩

theorem isFirst_any (n : Nat) (w : World) : Calls Try.prog 44 #[.int .i32 n] w (fun e w' => e = .returned (.bool (isF n)) ∧ w = w') := by
  go_enter Try.func44, Try.ntmps44
  go_wp2
  all_goals go_ret
  all_goals refine ⟨ret_bool ?_, rfl⟩
  all_goals unfold isF
  all_goals rw [Bool.eq_iff_iff]
  all_goals simp only [Bool.and_eq_true, decide_eq_true_eq, Bool.false_eq_true, false_iff]
  all_goals omega
theorem isSecond_any (n : Nat) (w : World) : Calls Try.prog 43 #[.int .i32 n] w (fun e w' => e = .returned (.bool (isS n)) ∧ w = w') := by
  go_enter Try.func43, Try.ntmps43
  go_wp2
  all_goals go_ret
  all_goals refine ⟨ret_bool ?_, rfl⟩
  all_goals unfold isS
  all_goals rw [Bool.eq_iff_iff]
  all_goals simp only [Bool.and_eq_true, decide_eq_true_eq, Bool.false_eq_true, false_iff]
  all_goals omega

set_option maxHeartbeats 1000000 in
theorem unit_short (s : ByteArray) (w : World) (hs : s.size ≤ 140737488355328) (h : s.data.toList.length < 6 ∨ Lib.hasPrefix s.data.toList [92, 117] = false) :
    Calls Try.prog 42 #[.string s] w (fun e w' => e = .returned (.tuple #[.int .i32 0, .bool false]) ∧ w = w') := by
  rw [sz] at h
  have HP := Lib.hid (fun w => Try.strings_HasPrefix s ⟨#[92, 117]⟩ w)
  rw [show (⟨#[92, 117]⟩ : ByteArray).data.toList = [92, 117] from rfl] at HP
  by_cases h1 : s.size < 6
  · go_enter Try.func42, Try.ntmps42
    go_wp2_with fail
    go_ret2
    exact ⟨rfl, rfl⟩
  · rw [h.resolve_left h1] at HP
    go_enter Try.func42, Try.ntmps42
    go_wp2_with (go_at_call 23; refine (HP.out _).mono ?_; rintro e w' ⟨rfl, rfl⟩)
    go_ret2
    exact ⟨rfl, rfl⟩

theorem digs_step {l : List UInt8} {k n : Nat} (hk : k < l.length) : digs n (l.drop k) = match digL (l.getD k 0) with | none => none | some d => digs (n * 16 + d) (l.drop (k + 1)) := by
  rw [List.drop_eq_getElem_cons hk, List.getD_eq_getElem?_getD, List.getElem?_eq_getElem hk]
  rfl
theorem mid_getD (l : List UInt8) (k : Nat) (hk : k < 4) : ((l.drop 2).take 4).getD k 0 = l.getD (2 + k) 0 := by
  simp [List.getD_eq_getElem?_getD, List.getElem?_take, List.getElem?_drop, hk]
theorem byte_getD (s : ByteArray) (k : Nat) (h : k < s.size) : s[k] = s.data.toList.getD k 0 := by
  rw [List.getD_eq_getElem?_getD, List.getElem?_eq_getElem (by rw [sz]; exact h)]
  rfl

set_option maxHeartbeats 1000000 in
theorem unit_core (s : ByteArray) (w : World) (hs : s.size ≤ 140737488355328) (h : 6 ≤ s.size) (hp : Lib.hasPrefix s.data.toList [92, 117] = true) (m : List UInt8) (hm : Hid ((s.data.toList.drop 2).take 4 = m)) :
    Calls Try.prog 42 #[.string s] w (fun e w' => e = .returned (digV (digs 0 m)) ∧ w = w') := by
  have HP := Lib.hid (fun w => Try.strings_HasPrefix s ⟨#[92, 117]⟩ w)
  rw [show (⟨#[92, 117]⟩ : ByteArray).data.toList = [92, 117] from rfl, hp] at HP
  clear hp
  have hml : m.length = 4 := by rw [← hm.out]; simp; omega
  have HML := Lib.hid hml
  clear hml
  go_enter Try.func42, Try.ntmps42
  go_wp2_with (go_at_call 23; refine (HP.out _).mono ?_; rintro e w' ⟨rfl, rfl⟩)
  go_loop [4, 5] (fun a i => ∃ (k n : Nat), k ≤ 4 ∧ a = .int .i32 n ∧ i = .int .i64 ((2 + k : Nat) : Int) ∧ n < 16 ^ k ∧ Hid (digs 0 m = digs n (m.drop k))) (fun _ i => 6 - (intOf i).toNat)
  case atStart => exact ⟨0, 0, by omega, rfl, rfl, by simp, by show _ = _; rw [List.drop_zero]⟩
  case round =>
    obtain ⟨k, n, hk, rfl, rfl, hn, hacc⟩ := hrel
    by_cases hlt : k < 4
    · have hn2 : n < 4096 := by
        have : 16 ^ k ≤ 16 ^ 3 := Nat.pow_le_pow_right (by omega) (by omega)
        omega
      have HG : Hid (m.getD k 0 = s[2 + k]) := by
        have := mid_getD s.data.toList k hlt
        rw [hm.out] at this
        exact this.trans (byte_getD s (2 + k) (by omega)).symm
      have HD := Lib.hid (digs_step (l := m) (k := k) (n := n) (by rw [HML.out]; omega))
      rw [HG.out] at HD
      have DA := Lib.hid (fun w => digit_any s[2 + k] w)
      cases hd : digL s[2 + k] with
      | none =>
        rw [hd] at DA HD
        have HE := Lib.hid (hacc.out.trans HD.out)
        clear HD hacc HG hm hd
        go_wp2_with (go_at_call 47; refine (DA.out _).mono ?_; rintro e w' ⟨rfl, rfl⟩; unfold digV)
        go_ret2
        exact ⟨by rw [HE.out]; rfl, rfl⟩
      | some d =>
        have hd16 := (digL_lt hd).1
        rw [hd] at DA HD
        have HE := Lib.hid (hacc.out.trans HD.out)
        clear HD hacc HG hm hd
        go_wp2_with (go_at_call 47; refine (DA.out _).mono ?_; rintro e w' ⟨rfl, rfl⟩; unfold digV)
        go_round
        case rel => exact ⟨k + 1, n * 16 + d, by omega, by go_num, by go_num, by rw [Nat.pow_succ]; omega, HE.out⟩
        case measure => simp [intOf]; omega
    · have hk4 : k = 4 := by omega
      subst hk4
      have HE : Hid (digs 0 m = some n) := by
        show _ = _
        rw [hacc.out, List.drop_of_length_le (by rw [HML.out]; omega)]
        rfl
      clear hacc hm
      go_wp2_with fail
      go_ret2
      exact ⟨by rw [HE.out]; rfl, rfl⟩

def unitV (o : Option Nat) : Value := digV o
theorem unit_any (s : ByteArray) (w : World) (hs : s.size ≤ 140737488355328) :
    Calls Try.prog 42 #[.string s] w (fun e w' => e = .returned (digV (unitL s.data.toList)) ∧ w = w') := by
  unfold unitL
  split
  · rename_i h; exact unit_short s w hs h
  · rename_i h
    refine unit_core s w hs ?_ ?_ _ rfl
    · rw [sz] at h; omega
    · cases hh : Lib.hasPrefix s.data.toList [92, 117] with
      | true => rfl
      | false => exact absurd (.inr hh) h
end Go.Proofs.Ytfkdepjioleakaa
