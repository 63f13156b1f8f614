/- Contracts of raise and Int of the program, and of the document's answer. -/
import Derived.Test.YtaggeebfdlkbhaaDoorRight
namespace Go.Proofs.YtaggeebfdlkbhaaDoor
open Go.RowKit

/-- n times 10^x, if that is at most b to either side. -/
def raiseS (n : Int) (x : Nat) (b : Int) : Int × Bool := if -b ≤ n * 10 ^ x ∧ n * 10 ^ x ≤ b then (n * 10 ^ x, true) else (0, false)
def rsV (r : Int × Bool) : Value := .tuple #[.int .i64 r.1, .bool r.2]

theorem pow_split {n : Int} {j x : Nat} (h : j ≤ x) : n * 10 ^ x = n * 10 ^ j * 10 ^ (x - j) := by
  rw [Int.mul_assoc, ← Int.pow_add, show j + (x - j) = x by omega]
theorem le_mul_pow {q b : Int} (k : Nat) (h : b < q) (hb : 0 ≤ b) : b < q * 10 ^ k := by
  have h0 : (0 : Int) < 10 ^ k := Int.pow_pos (by decide)
  have h2 : q * 1 ≤ q * 10 ^ k := Int.mul_le_mul_of_nonneg_left (by omega) (by omega)
  omega
theorem raise_over {n b q : Int} {j x : Nat} (hq : q = n * 10 ^ j) (hj : j ≤ x) (hb : 0 ≤ b) (h : q < -b ∨ b < q) : raiseS n x b = (0, false) := by
  unfold raiseS
  rw [if_neg]
  rw [pow_split hj, ← hq]
  rcases h with h | h
  · have := le_mul_pow (q := -q) (x - j) (by omega) hb
    rw [Int.neg_mul] at this
    omega
  · have := le_mul_pow (q := q) (x - j) h hb
    omega
theorem raise_done {n b q : Int} {x : Nat} (hq : q = n * 10 ^ x) (h1 : -b ≤ q) (h2 : q ≤ b) : raiseS n x b = (q, true) := by
  unfold raiseS; rw [← hq, if_pos ⟨h1, h2⟩]

set_option maxHeartbeats 400000 in
theorem raise_any (n : Int) (x : Nat) (b : Int) (w : World) (hx : x ≤ 100) (hb0 : 0 ≤ b) (hb1 : b ≤ 1000000000000000000) (hb : b % 10 = 0) (hn0 : -b ≤ n) (hn1 : n ≤ b) :
    Calls Tryd.prog 33 #[.int .i64 n, .int .i64 x, .int .i64 b] w (fun e w' => e = .returned (rsV (raiseS n x b)) ∧ w = w') := by
  have HB := Lib.hid hb
  clear hb
  go_enter Tryd.func33, Tryd.ntmps33
  go_wp2
  go_loop [0, 9] (fun a i => ∃ (j : Nat) (q : Int), a = .int .i64 q ∧ i = .int .i64 j ∧ j ≤ x ∧ -b ≤ q ∧ q ≤ b ∧ Hid (q = n * 10 ^ j)) (fun _ i => x - (intOf i).toNat)
  case atStart => exact ⟨0, n, rfl, rfl, by omega, hn0, hn1, by show n = n * 10 ^ 0; simp⟩
  case round =>
    obtain ⟨j, q, rfl, rfl, hj, h1, h2, hq⟩ := hrel
    by_cases hlt : j < x
    · rcases hwb : withinB q (b / 10) with _ | _
      · have a1 : raiseS n x b = (0, false) := raise_over (q := q * 10) (j := j + 1) (by rw [hq.out, Int.pow_succ, Int.mul_assoc]) (by omega) hb0 (by
          have := HB.out
          have h3 : ¬ withinB q (b / 10) = true := by rw [hwb]; simp
          rw [withinB_iff] at h3
          omega)
        have A1 := Lib.hid a1
        clear a1
        go_wp2_with (go_at_call 29; refine (within_any _ _ _ (by omega) (by omega)).mono ?_; rintro e w' ⟨rfl, rfl⟩)
        go_ret2
        exact ⟨by rw [A1.out]; rfl, rfl⟩
      · have hw2 := withinB_iff.1 hwb
        obtain ⟨g1, g2⟩ := hw2
        go_wp2_with (go_at_call 29; refine (within_any _ _ _ (by omega) (by omega)).mono ?_; rintro e w' ⟨rfl, rfl⟩)
        go_round
        case rel => exact ⟨j + 1, q * 10, rfl, by go_num, by omega, by have := HB.out; omega, by have := HB.out; omega, by show _ = _; rw [hq.out, Int.pow_succ, Int.mul_assoc]⟩
        case measure => simp [intOf]; omega
    · have a1 : raiseS n x b = (q, true) := by
        have : j = x := by omega
        subst this
        exact raise_done hq.out h1 h2
      have A1 := Lib.hid a1
      clear a1
      go_wp2
      go_ret2
      exact ⟨by rw [A1.out]; rfl, rfl⟩

/-- What Int tells. -/
def intS (m e : Int) : Int × Bool := if rightB m e = true ∧ 0 ≤ e then raiseS m e.toNat 1000000000000000000 else (0, false)
theorem rightB_bounds {m e : Int} (h : rightB m e = true) : -1000000000000000 ≤ m ∧ m ≤ 1000000000000000 ∧ -9 ≤ e ∧ e ≤ 9 := by
  unfold rightB p15 at h
  simp only [decide_eq_true_eq] at h
  omega

set_option maxHeartbeats 400000 in
theorem int_any (m e : Int) (w : World) :
    Calls Tryd.prog 18 #[.agg #[.int .i64 m, .int .i64 e]] w (Ret (rsV (intS m e)) w) := by
  rcases hr : rightB m e with _ | _
  · have a1 : intS m e = (0, false) := by unfold intS; rw [if_neg]; simp [hr]
    rw [a1]
    clear a1
    go_enter Tryd.func18, Tryd.ntmps18
    go_wp2_with fail
    (with_reducible refine (right_any _ _ _).mono ?_)
    rintro e1 w1 ⟨rfl, hb⟩
    obtain ⟨hc, hf⟩ := bcell hb
    have hbb := below_call hb
    clear hb
    go_wp2
    go_ret2
    exact ⟨rfl, hbb⟩
  · obtain ⟨b1, b2, b3, b4⟩ := rightB_bounds hr
    by_cases he : 0 ≤ e
    · obtain ⟨x, rfl⟩ := Int.eq_ofNat_of_zero_le he
      have a1 : intS m x = raiseS m x 1000000000000000000 := by unfold intS; rw [if_pos ⟨hr, he⟩]; rfl
      rw [a1]
      clear a1
      generalize hg : raiseS m x 1000000000000000000 = r
      have HG := Lib.hid hg
      clear hg
      obtain ⟨r1, r2⟩ := r
      go_enter Tryd.func18, Tryd.ntmps18
      go_wp2_with fail
      (with_reducible refine (right_any _ _ _).mono ?_)
      rintro e1 w1 ⟨rfl, hb⟩
      obtain ⟨hc, hf⟩ := bcell hb
      have hbb := below_call hb
      clear hb
      go_wp2_with fail
      (with_reducible refine (raise_any m x _ _ (by omega) (by omega) (by omega) (by omega) (by omega) (by omega)).mono ?_)
      rintro e2 w2 ⟨rfl, rfl⟩
      rw [HG.out]
      unfold rsV
      go_wp2
      go_ret2
      exact ⟨rfl, hbb⟩
    · have a1 : intS m e = (0, false) := by unfold intS; rw [if_neg]; simp [he]
      rw [a1]
      clear a1
      go_enter Tryd.func18, Tryd.ntmps18
      go_wp2_with fail
      (with_reducible refine (right_any _ _ _).mono ?_)
      rintro e1 w1 ⟨rfl, hb⟩
      obtain ⟨hc, hf⟩ := bcell hb
      have hbb := below_call hb
      clear hb
      go_wp2
      go_ret2
      exact ⟨rfl, hbb⟩

set_option maxHeartbeats 400000 in
theorem rint_any (m e : Int) (w : World) (hm0 : -9223372036854775808 ≤ m) (hm1 : m ≤ 9223372036854775807) (he0 : -9223372036854775808 ≤ e) (he1 : e ≤ 9223372036854775807) :
    Calls Tryd.prog 19 #[.agg #[.int .i64 m, .int .i64 e]] w (Ret (rsV (intS m e)) w) := by
  rcases hr : rightB m e with _ | _
  · have a1 : intS m e = (0, false) := by unfold intS; rw [if_neg]; simp [hr]
    rw [a1]
    clear a1
    go_enter Tryd.func19, Tryd.ntmps19
    go_wp2_with fail
    (with_reducible refine (rright_any _ _ _ hm0 hm1 he0 he1).mono ?_)
    rintro e1 w1 ⟨rfl, hb⟩
    obtain ⟨hc, hf⟩ := bcell hb
    have hbb := below_call hb
    clear hb
    go_wp2
    go_ret2
    exact ⟨rfl, hbb⟩
  · obtain ⟨b1, b2, b3, b4⟩ := rightB_bounds hr
    by_cases he : 0 ≤ e
    · obtain ⟨x, rfl⟩ := Int.eq_ofNat_of_zero_le he
      have a1 : intS m x = raiseS m x 1000000000000000000 := by unfold intS; rw [if_pos ⟨hr, he⟩]; rfl
      rw [a1]
      clear a1
      go_enter Tryd.func19, Tryd.ntmps19
      go_wp2_with fail
      (with_reducible refine (rright_any _ _ _ hm0 hm1 he0 he1).mono ?_)
      rintro e1 w1 ⟨rfl, hb⟩
      obtain ⟨hc, hf⟩ := bcell hb
      have hbb := below_call hb
      clear hb
      go_wp2
      go_loop [5, 6] (fun a i => ∃ (j : Nat) (q : Int), a = .int .i64 q ∧ i = .int .i64 j ∧ j ≤ x ∧ -1000000000000000000 ≤ q ∧ q ≤ 1000000000000000000 ∧ Hid (q = m * 10 ^ j)) (fun _ i => x - (intOf i).toNat)
      case atStart => exact ⟨0, m, rfl, rfl, by omega, by omega, by omega, by show m = m * 10 ^ 0; simp⟩
      case round =>
        obtain ⟨j, q, rfl, rfl, hj, h1, h2, hq⟩ := hrel
        by_cases hlt : j < x
        · by_cases hwb : q ≤ 100000000000000000 ∧ -100000000000000000 ≤ q
          · obtain ⟨g1, g2⟩ := hwb
            go_wp2
            go_round
            case rel => exact ⟨j + 1, 10 * q, rfl, by go_num, by omega, by omega, by omega, by show _ = _; rw [hq.out, Int.pow_succ]; rw [Int.mul_comm 10, Int.mul_assoc]⟩
            case measure => simp [intOf]; omega
          · have a1 : raiseS m x 1000000000000000000 = (0, false) := raise_over (q := q * 10) (j := j + 1) (by rw [hq.out, Int.pow_succ, Int.mul_assoc]) (by omega) (by omega) (by omega)
            have A1 := Lib.hid a1
            clear a1
            have HW := Lib.hid hwb
            clear hwb
            go_wp2
            all_goals first
              | (exfalso; have := HW.out; omega)
              | (go_ret2; exact ⟨by rw [A1.out]; rfl, hbb⟩)
        · have a1 : raiseS m x 1000000000000000000 = (q, true) := by
            have : j = x := by omega
            subst this
            exact raise_done hq.out h1 h2
          have A1 := Lib.hid a1
          clear a1
          go_wp2
          go_ret2
          exact ⟨by rw [A1.out]; rfl, hbb⟩
    · have a1 : intS m e = (0, false) := by unfold intS; rw [if_neg]; simp [he]
      rw [a1]
      clear a1
      go_enter Tryd.func19, Tryd.ntmps19
      go_wp2_with fail
      (with_reducible refine (rright_any _ _ _ hm0 hm1 he0 he1).mono ?_)
      rintro e1 w1 ⟨rfl, hb⟩
      obtain ⟨hc, hf⟩ := bcell hb
      have hbb := below_call hb
      clear hb
      go_wp2
      go_ret2
      exact ⟨rfl, hbb⟩
end Go.Proofs.YtaggeebfdlkbhaaDoor
