/- The contract of escape of the document's answer, where a number stands behind the backslash; and all of it. -/
import Derived.Test.YtfkdepjioleakaaREsc
set_option linter.unusedVariables false
set_option linter.unusedSimpArgs false
namespace Go.Proofs.Ytfkdepjioleakaa
open Go.RowKit

theorem fourL_lt {l : List UInt8} {f : Nat} (h : fourL l = some f) : f < 65536 ∧ 4 ≤ l.length := by
  unfold fourL at h
  split at h
  · cases h
  · rename_i hl
    have := (digs_lt _ _ _ h).1
    have h4 : (l.take 4).length = 4 := by rw [List.length_take]; omega
    rw [h4] at this
    omega

set_option maxHeartbeats 2000000 in
set_option maxRecDepth 100000 in
theorem resc_u0 (s : ByteArray) (p : Nat) (w : World) (hs : s.size ≤ 140737488355328) (h2 : p + 1 < s.size) (hc : s[p + 1] = 117) (o : Option Nat) (hF : fourL (s.data.toList.drop (p + 2)) = o) (ho : o = none ∨ ∃ f, o = some f ∧ isS f = true) :
    Calls Try.prog 27 #[.string s, .int .i64 ((p : Int) + 1)] w (EscRet (0, 0) w) := by
  have hx : ∀ u : World, (Instr.index 9 (.string s) (.int .i64 ((p : Int) + 1))).run Try.prog u = .ok (.int .u8 117) u := fun u => by
    have := run_byte s (p + 1) h2 117 (by rw [hc]; rfl) u
    rwa [Int.natCast_add] at this
  have RF := Lib.hid (fun u => rfour_any s (p + 2) u hs (by omega))
  rw [hF, show ((p + 2 : Nat) : Int) = (p : Int) + 1 + 1 by omega] at RF
  clear hc hF
  rcases ho with rfl | ⟨f, rfl, hf⟩
  · unfold fourV at RF
    go_enter Try.func27, Try.ntmps27
    go_wp2_with (go_at_call 36; (with_reducible refine (RF.out _).mono ?_); rintro e w' ⟨rfl, rfl⟩)
    go_ret2
    exact esc_no ⟨rfl, rfl⟩
  · rw [show fourV (some f) = (f : Int) from rfl] at RF
    have hb : 56320 ≤ f ∧ f < 57344 := by simpa [isS] using hf
    have a1 : decide (56320 ≤ (f : Int)) = true := decide_eq_true (by omega)
    have a2 : decide ((f : Int) ≤ 57343) = true := decide_eq_true (by omega)
    have a0 : decide ((f : Int) < 0) = false := decide_eq_false (by omega)
    clear hb hf
    go_enter Try.func27, Try.ntmps27
    go_wp2_with (go_at_call 36; (with_reducible refine (RF.out _).mono ?_); rintro e w' ⟨rfl, rfl⟩)
    go_ret2
    exact esc_no ⟨rfl, rfl⟩

set_option maxHeartbeats 2000000 in
set_option maxRecDepth 100000 in
theorem resc_u1 (s : ByteArray) (p : Nat) (w : World) (hs : s.size ≤ 140737488355328) (h2 : p + 1 < s.size) (hc : s[p + 1] = 117) (f : Nat) (hF : fourL (s.data.toList.drop (p + 2)) = some f) (h1 : isS f = false) (h3 : isF f = false) :
    Calls Try.prog 27 #[.string s, .int .i64 ((p : Int) + 1)] w (EscRet (f, 6) w) := by
  have hx : ∀ u : World, (Instr.index 9 (.string s) (.int .i64 ((p : Int) + 1))).run Try.prog u = .ok (.int .u8 117) u := fun u => by
    have := run_byte s (p + 1) h2 117 (by rw [hc]; rfl) u
    rwa [Int.natCast_add] at this
  have RF := Lib.hid (fun u => rfour_any s (p + 2) u hs (by omega))
  have hlt := (fourL_lt hF).1
  rw [hF, show ((p + 2 : Nat) : Int) = (p : Int) + 1 + 1 by omega, show fourV (some f) = (f : Int) from rfl] at RF
  have hb : f < 55296 ∨ 57344 ≤ f := by
    simp [isS] at h1
    simp [isF] at h3
    omega
  have RL := Lib.hid (fun u => rlaid_any f u (by unfold vr; omega))
  have hz0 : 0 ≤ (f : Int) := by omega
  have hb' : (f : Int) < 55296 ∨ 57344 ≤ (f : Int) := by omega
  have HF2 : Hid (∀ z : Int, z = (f : Int) → Calls Try.prog 27 #[.string s, .int .i64 ((p : Int) + 1)] w (EscRet (f, 6) w)) := by
    intro z hz
    rw [← hz] at RF RL hz0 hb'
    clear hc hF h1 h3 hb hlt hz
    rcases hb' with hb | hb
    · have a3 : decide (z < 55296) = true := decide_eq_true hb
      have a1 : decide (56320 ≤ z) = false := decide_eq_false (by omega)
      clear hb
      go_enter Try.func27, Try.ntmps27
      go_wp2_with (first
        | (go_at_call 36; (with_reducible refine (RF.out _).mono ?_); rintro e w' ⟨rfl, rfl⟩)
        | (go_at_call 37; (with_reducible refine (RL.out _).mono ?_); rintro e w' ⟨rfl, rfl⟩))
      go_ret2
      exact .inr ⟨by simp, rfl, rfl⟩
    · have a1 : decide (56320 ≤ z) = true := decide_eq_true (by omega)
      have a2 : decide (z ≤ 57343) = false := decide_eq_false (by omega)
      have a3 : decide (z < 55296) = false := decide_eq_false (by omega)
      have a4 : decide (57343 < z) = true := decide_eq_true (by omega)
      clear hb
      go_enter Try.func27, Try.ntmps27
      go_wp2_with (first
        | (go_at_call 36; (with_reducible refine (RF.out _).mono ?_); rintro e w' ⟨rfl, rfl⟩)
        | (go_at_call 37; (with_reducible refine (RL.out _).mono ?_); rintro e w' ⟨rfl, rfl⟩))
      go_ret2
      exact .inr ⟨by simp, rfl, rfl⟩
  exact HF2.out _ rfl
end Go.Proofs.Ytfkdepjioleakaa
