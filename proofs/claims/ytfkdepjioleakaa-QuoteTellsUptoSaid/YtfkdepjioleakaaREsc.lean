/- The contract of escape of the document's answer. -/
import Derived.Test.YtfkdepjioleakaaRLaid
set_option linter.unusedVariables false
set_option linter.unusedSimpArgs false
namespace Go.Proofs.Ytfkdepjioleakaa
open Go.RowKit

theorem unit_by_four (m : List UInt8) : unitL m = if m.length < 2 ∨ m.getD 0 0 ≠ 92 ∨ m.getD 1 0 ≠ 117 then none else fourL (m.drop 2) := by
  unfold unitL fourL
  match m with
  | [] => simp
  | [a] => simp
  | a :: b :: r =>
    by_cases h : a = 92 ∧ b = 117
    · obtain ⟨rfl, rfl⟩ := h
      have hp : Lib.hasPrefix (92 :: 117 :: r) [92, 117] = true := by simp [Lib.hasPrefix, List.isPrefixOf]
      rw [hp]
      simp only [List.length_cons, List.getD_cons_zero, List.getD_cons_succ, List.drop_succ_cons, List.drop_zero]
      by_cases hl : r.length < 4
      · rw [if_pos (.inl (by omega)), if_neg (by simp), if_pos hl]
      · rw [if_neg (by simp; omega), if_neg (by simp), if_neg hl]
    · have hp : Lib.hasPrefix (a :: b :: r) [92, 117] = false := by
        simp only [Lib.hasPrefix, List.isPrefixOf, Bool.and_true]
        have : ¬ (92 = a ∧ 117 = b) := fun k => h ⟨k.1.symm, k.2.symm⟩
        simpa using this
      rw [if_pos (.inr hp), if_pos]
      simp only [List.getD_cons_zero, List.getD_cons_succ]
      by_cases ha : a = 92
      · right; right; exact fun hb => h ⟨ha, hb⟩
      · right; left; exact ha

/-- What escape hands back: nothing and 0, or a character's bytes and how many tell it behind the backslash. -/
def EscRet (q : Nat × Nat) (w : World) (e : Ending) (w' : World) : Prop :=
  (q.2 = 0 ∧ e = .returned (.tuple #[.slice none 0 0, .int .i64 0]) ∧ w' = w) ∨
  (q.2 ≠ 0 ∧ e = .returned (.tuple #[.slice (some ⟨w.heap.size, 0, none⟩) (enc q.1).length (enc q.1).length, .int .i64 ((q.2 : Int) - 1)]) ∧ w' = w.alloc (.cells (Lib.byteCells (enc q.1)).toArray 5))
theorem esc_no {w : World} {e : Ending} {w' : World} (h : e = .returned (.tuple #[.slice none 0 0, .int .i64 0]) ∧ w' = w) : EscRet (0, 0) w e w' := .inl ⟨rfl, h⟩
theorem two_sl {a b : Value} {m n : Int} (h1 : a = b) (h2 : m = n) : Ending.returned (.tuple #[a, .int .i64 m]) = .returned (.tuple #[b, .int .i64 n]) := by rw [h1, h2]

set_option maxHeartbeats 1000000 in
theorem resc_34 (s : ByteArray) (p : Nat) (w : World) (hs : s.size ≤ 140737488355328) (h2 : p + 1 < s.size) (hc : s[p + 1] = 34) :
    Calls Try.prog 27 #[.string s, .int .i64 ((p : Int) + 1)] w (EscRet (34, 2) w) := by
  have hx : ∀ u : World, (Instr.index 9 (.string s) (.int .i64 ((p : Int) + 1))).run Try.prog u = .ok (.int .u8 34) u := fun u => by
    have := run_byte s (p + 1) h2 34 (by rw [hc]; rfl) u
    rwa [Int.natCast_add] at this
  have HE : Hid (enc 34 = [34]) := by show _ = _; decide +kernel
  clear hc
  go_enter Try.func27, Try.ntmps27
  go_wp2_with fail
  go_ret2
  refine .inr ⟨by simp, two_sl (by rw [HE.out]; rfl) (by decide), ?_⟩
  rw [HE.out]
  rfl

set_option maxHeartbeats 1000000 in
theorem resc_92 (s : ByteArray) (p : Nat) (w : World) (hs : s.size ≤ 140737488355328) (h2 : p + 1 < s.size) (hc : s[p + 1] = 92) :
    Calls Try.prog 27 #[.string s, .int .i64 ((p : Int) + 1)] w (EscRet (92, 2) w) := by
  have hx : ∀ u : World, (Instr.index 9 (.string s) (.int .i64 ((p : Int) + 1))).run Try.prog u = .ok (.int .u8 92) u := fun u => by
    have := run_byte s (p + 1) h2 92 (by rw [hc]; rfl) u
    rwa [Int.natCast_add] at this
  have HE : Hid (enc 92 = [92]) := by show _ = _; decide +kernel
  clear hc
  go_enter Try.func27, Try.ntmps27
  go_wp2_with fail
  go_ret2
  refine .inr ⟨by simp, two_sl (by rw [HE.out]; rfl) (by decide), ?_⟩
  rw [HE.out]
  rfl

set_option maxHeartbeats 1000000 in
theorem resc_47 (s : ByteArray) (p : Nat) (w : World) (hs : s.size ≤ 140737488355328) (h2 : p + 1 < s.size) (hc : s[p + 1] = 47) :
    Calls Try.prog 27 #[.string s, .int .i64 ((p : Int) + 1)] w (EscRet (47, 2) w) := by
  have hx : ∀ u : World, (Instr.index 9 (.string s) (.int .i64 ((p : Int) + 1))).run Try.prog u = .ok (.int .u8 47) u := fun u => by
    have := run_byte s (p + 1) h2 47 (by rw [hc]; rfl) u
    rwa [Int.natCast_add] at this
  have HE : Hid (enc 47 = [47]) := by show _ = _; decide +kernel
  clear hc
  go_enter Try.func27, Try.ntmps27
  go_wp2_with fail
  go_ret2
  refine .inr ⟨by simp, two_sl (by rw [HE.out]; rfl) (by decide), ?_⟩
  rw [HE.out]
  rfl

set_option maxHeartbeats 1000000 in
theorem resc_98 (s : ByteArray) (p : Nat) (w : World) (hs : s.size ≤ 140737488355328) (h2 : p + 1 < s.size) (hc : s[p + 1] = 98) :
    Calls Try.prog 27 #[.string s, .int .i64 ((p : Int) + 1)] w (EscRet (8, 2) w) := by
  have hx : ∀ u : World, (Instr.index 9 (.string s) (.int .i64 ((p : Int) + 1))).run Try.prog u = .ok (.int .u8 98) u := fun u => by
    have := run_byte s (p + 1) h2 98 (by rw [hc]; rfl) u
    rwa [Int.natCast_add] at this
  have HE : Hid (enc 8 = [8]) := by show _ = _; decide +kernel
  clear hc
  go_enter Try.func27, Try.ntmps27
  go_wp2_with fail
  go_ret2
  refine .inr ⟨by simp, two_sl (by rw [HE.out]; rfl) (by decide), ?_⟩
  rw [HE.out]
  rfl

set_option maxHeartbeats 1000000 in
theorem resc_116 (s : ByteArray) (p : Nat) (w : World) (hs : s.size ≤ 140737488355328) (h2 : p + 1 < s.size) (hc : s[p + 1] = 116) :
    Calls Try.prog 27 #[.string s, .int .i64 ((p : Int) + 1)] w (EscRet (9, 2) w) := by
  have hx : ∀ u : World, (Instr.index 9 (.string s) (.int .i64 ((p : Int) + 1))).run Try.prog u = .ok (.int .u8 116) u := fun u => by
    have := run_byte s (p + 1) h2 116 (by rw [hc]; rfl) u
    rwa [Int.natCast_add] at this
  have HE : Hid (enc 9 = [9]) := by show _ = _; decide +kernel
  clear hc
  go_enter Try.func27, Try.ntmps27
  go_wp2_with fail
  go_ret2
  refine .inr ⟨by simp, two_sl (by rw [HE.out]; rfl) (by decide), ?_⟩
  rw [HE.out]
  rfl

set_option maxHeartbeats 1000000 in
theorem resc_110 (s : ByteArray) (p : Nat) (w : World) (hs : s.size ≤ 140737488355328) (h2 : p + 1 < s.size) (hc : s[p + 1] = 110) :
    Calls Try.prog 27 #[.string s, .int .i64 ((p : Int) + 1)] w (EscRet (10, 2) w) := by
  have hx : ∀ u : World, (Instr.index 9 (.string s) (.int .i64 ((p : Int) + 1))).run Try.prog u = .ok (.int .u8 110) u := fun u => by
    have := run_byte s (p + 1) h2 110 (by rw [hc]; rfl) u
    rwa [Int.natCast_add] at this
  have HE : Hid (enc 10 = [10]) := by show _ = _; decide +kernel
  clear hc
  go_enter Try.func27, Try.ntmps27
  go_wp2_with fail
  go_ret2
  refine .inr ⟨by simp, two_sl (by rw [HE.out]; rfl) (by decide), ?_⟩
  rw [HE.out]
  rfl

set_option maxHeartbeats 1000000 in
theorem resc_102 (s : ByteArray) (p : Nat) (w : World) (hs : s.size ≤ 140737488355328) (h2 : p + 1 < s.size) (hc : s[p + 1] = 102) :
    Calls Try.prog 27 #[.string s, .int .i64 ((p : Int) + 1)] w (EscRet (12, 2) w) := by
  have hx : ∀ u : World, (Instr.index 9 (.string s) (.int .i64 ((p : Int) + 1))).run Try.prog u = .ok (.int .u8 102) u := fun u => by
    have := run_byte s (p + 1) h2 102 (by rw [hc]; rfl) u
    rwa [Int.natCast_add] at this
  have HE : Hid (enc 12 = [12]) := by show _ = _; decide +kernel
  clear hc
  go_enter Try.func27, Try.ntmps27
  go_wp2_with fail
  go_ret2
  refine .inr ⟨by simp, two_sl (by rw [HE.out]; rfl) (by decide), ?_⟩
  rw [HE.out]
  rfl

set_option maxHeartbeats 1000000 in
theorem resc_114 (s : ByteArray) (p : Nat) (w : World) (hs : s.size ≤ 140737488355328) (h2 : p + 1 < s.size) (hc : s[p + 1] = 114) :
    Calls Try.prog 27 #[.string s, .int .i64 ((p : Int) + 1)] w (EscRet (13, 2) w) := by
  have hx : ∀ u : World, (Instr.index 9 (.string s) (.int .i64 ((p : Int) + 1))).run Try.prog u = .ok (.int .u8 114) u := fun u => by
    have := run_byte s (p + 1) h2 114 (by rw [hc]; rfl) u
    rwa [Int.natCast_add] at this
  have HE : Hid (enc 13 = [13]) := by show _ = _; decide +kernel
  clear hc
  go_enter Try.func27, Try.ntmps27
  go_wp2_with fail
  go_ret2
  refine .inr ⟨by simp, two_sl (by rw [HE.out]; rfl) (by decide), ?_⟩
  rw [HE.out]
  rfl

set_option maxHeartbeats 1000000 in
theorem resc_end (s : ByteArray) (p : Nat) (w : World) (hs : s.size ≤ 140737488355328) (h2 : ¬ p + 1 < s.size) :
    Calls Try.prog 27 #[.string s, .int .i64 ((p : Int) + 1)] w (EscRet (0, 0) w) := by
  go_enter Try.func27, Try.ntmps27
  go_wp2_with fail
  go_ret2
  exact esc_no ⟨rfl, rfl⟩
set_option maxHeartbeats 1000000 in
theorem resc_none (s : ByteArray) (p : Nat) (w : World) (hs : s.size ≤ 140737488355328) (h2 : p + 1 < s.size) (c : Nat) (hc : Hid (s[p + 1].toNat = c)) (k1 : ((c : Int) == 34) = false) (k2 : ((c : Int) == 92) = false) (k3 : ((c : Int) == 47) = false) (k4 : ((c : Int) == 117) = false)
    (k5 : ((c : Int) == 98) = false) (k6 : ((c : Int) == 116) = false) (k7 : ((c : Int) == 110) = false) (k8 : ((c : Int) == 102) = false) (k9 : ((c : Int) == 114) = false) :
    Calls Try.prog 27 #[.string s, .int .i64 ((p : Int) + 1)] w (EscRet (0, 0) w) := by
  have hx : ∀ u : World, (Instr.index 9 (.string s) (.int .i64 ((p : Int) + 1))).run Try.prog u = .ok (.int .u8 c) u := fun u => by
    have := run_byte s (p + 1) h2 c hc.out u
    rwa [Int.natCast_add] at this
  go_enter Try.func27, Try.ntmps27
  go_wp2_with fail
  go_ret2
  exact esc_no ⟨rfl, rfl⟩
end Go.Proofs.Ytfkdepjioleakaa
