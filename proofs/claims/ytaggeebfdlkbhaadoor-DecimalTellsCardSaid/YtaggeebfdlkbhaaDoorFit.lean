/- Contracts of pick and Fit, the verifier's own: a decimal in its form out of raw numbers. -/
import Derived.Test.YtaggeebfdlkbhaaDoorRight
namespace Go.Proofs.YtaggeebfdlkbhaaDoor
open Go.RowKit

def pickS (c n : Int) : Int := (if c < 0 then -(c + 1) else c) % n
theorem pickS_nonneg {c n : Int} (h : 0 < n) : 0 ≤ pickS c n := Int.emod_nonneg _ (by omega)
theorem pickS_lt {c n : Int} (h : 0 < n) : pickS c n < n := Int.emod_lt_of_pos _ h

theorem pick_any (c n : Int) (w : World) (hc0 : -9223372036854775808 ≤ c) (hc1 : c ≤ 9223372036854775807) (hn0 : 0 < n) (hn1 : n ≤ 9223372036854775807) :
    Calls Tryd.prog 26 #[.int .i64 c, .int .i64 n] w (fun e w' => e = .returned (.int .i64 (pickS c n)) ∧ w = w') := by
  by_cases hc : c < 0
  all_goals
    go_enter Tryd.func26, Tryd.ntmps26
    go_wp2
    go_ret
    refine ⟨ret_int ?_, rfl⟩
    unfold pickS
    first
      | (rw [if_pos hc, ← Int.neg_tmod, Int.tmod_eq_emod_of_nonneg (by omega)]; done)
      | rw [if_neg (by omega)]

def fitM (mant : Int) : Int := (strip (pickS mant 2000000000000001 - 1000000000000000)).1
def fitE (mant ex : Int) : Int := if fitM mant = 0 then 0 else pickS ex 19 - 9
theorem strip_abs (m : Int) : (strip m).1.natAbs ≤ m.natAbs := by
  induction hn : m.natAbs using Nat.strongRecOn generalizing m with
  | _ n ih =>
    by_cases h : m ≠ 0 ∧ m % 10 = 0
    · rw [strip_step h.1 h.2]
      have := ih (m / 10).natAbs (by omega) (m / 10) rfl
      show (strip (m / 10)).1.natAbs ≤ n
      omega
    · rw [strip_stop (by omega)]; omega
theorem fit_right (mant ex : Int) : rightB (fitM mant) (fitE mant ex) = true := by
  unfold rightB p15
  simp only [decide_eq_true_eq]
  by_cases h : fitM mant = 0
  · left; exact ⟨h, by unfold fitE; rw [if_pos h]⟩
  · right
    have h1 := pickS_nonneg (c := mant) (n := 2000000000000001) (by decide)
    have h2 := pickS_lt (c := mant) (n := 2000000000000001) (by decide)
    have h3 := pickS_nonneg (c := ex) (n := 19) (by decide)
    have h4 := pickS_lt (c := ex) (n := 19) (by decide)
    have h5 := strip_abs (pickS mant 2000000000000001 - 1000000000000000)
    have h6 : pickS mant 2000000000000001 - 1000000000000000 ≠ 0 := by
      intro h0
      apply h
      unfold fitM
      rw [h0, strip_stop (.inl rfl)]
    have h7 := strip_ne _ h6
    unfold fitE
    rw [if_neg h]
    refine ⟨h7.1, ?_, ?_, ?_, ?_⟩
    · show -1000000000000000 ≤ (strip _).1; omega
    · show (strip _).1 ≤ 1000000000000000; omega
    · omega
    · omega

set_option maxHeartbeats 400000 in
theorem fit_any (mant ex : Int) (w : World) (hm0 : -9223372036854775808 ≤ mant) (hm1 : mant ≤ 9223372036854775807) (he0 : -9223372036854775808 ≤ ex) (he1 : ex ≤ 9223372036854775807) :
    Calls Tryd.prog 15 #[.int .i64 mant, .int .i64 ex] w (Ret (dv (fitM mant) (fitE mant ex)) w) := by
  have hfm : fitM mant = (strip (pickS mant 2000000000000001 - 1000000000000000)).1 := rfl
  have hfe : fitE mant ex = if fitM mant = 0 then 0 else pickS ex 19 - 9 := rfl
  have h1 := pickS_nonneg (c := mant) (n := 2000000000000001) (by decide)
  have h2 := pickS_lt (c := mant) (n := 2000000000000001) (by decide)
  have h3 := pickS_nonneg (c := ex) (n := 19) (by decide)
  have h4 := pickS_lt (c := ex) (n := 19) (by decide)
  generalize hfmm : fitM mant = fm at hfm hfe
  generalize hfee : fitE mant ex = fe at hfe
  clear hfmm hfee
  have p1 := fun w => pick_any mant 2000000000000001 w hm0 hm1 (by decide) (by decide)
  have p2 := fun w => pick_any ex 19 w he0 he1 (by decide) (by decide)
  generalize pickS mant 2000000000000001 = a at *
  generalize pickS ex 19 = b at *
  have HM := Lib.hid hfm
  have HE := Lib.hid hfe
  have P1 := Lib.hid p1
  have P2 := Lib.hid p2
  clear hfm hfe p1 p2
  go_enter Tryd.func15, Tryd.ntmps15
  go_wp2_with fail
  (with_reducible refine (P1.out _).mono ?_)
  rintro e1 w1 ⟨rfl, rfl⟩
  go_wp2_with fail
  (with_reducible refine (P2.out _).mono ?_)
  rintro e1 w1 ⟨rfl, rfl⟩
  go_wp2
  go_loop [5] (fun v => ∃ (q : Int), v = .int .i64 q ∧ q.natAbs ≤ 1000000000000000 ∧ Hid ((strip (a - 1000000000000000)).1 = (strip q).1)) (fun v => (intOf v).natAbs)
  case atStart => exact ⟨a - 1000000000000000, rfl, by omega, by show _ = _; rfl⟩
  case round =>
    obtain ⟨q, rfl, hq, hs⟩ := hrel
    by_cases h0 : q = 0
    · have hb1 : (q != 0) = false := by simp [h0]
      have hb2 : (q == 0) = true := by simp [h0]
      have a1 : fm = 0 ∧ fe = 0 := by
        have e1 : fm = 0 := by rw [HM.out, hs.out, h0, strip_stop (.inl rfl)]
        exact ⟨e1, by rw [HE.out, if_pos e1]⟩
      have A1 := Lib.hid a1
      clear a1
      have H0 := Lib.hid h0
      clear h0
      go_wp2
      rw [A1.out.1, A1.out.2]
      refine bodyPost_ret (v := dv q 0) (by simp [dv, results, Tryd.results15, go_sem]) rfl ⟨by rw [H0.out], (Below.refl _ _).alloc (Nat.le_refl _) _⟩
    · have hb1 : (q != 0) = true := by simp [h0]
      have hb2 : (q == 0) = false := by simp [h0]
      by_cases h10 : q % 10 = 0
      · have ht := tmod10_t h10
        have hd := tdiv10 h10
        have H10 := Lib.hid h10
        have H0 := Lib.hid h0
        clear h10 h0
        go_wp2
        go_round
        case rel => exact ⟨q / 10, rfl, by omega, by show _ = _; rw [hs.out, strip_step H0.out H10.out]⟩
        case measure => simp [intOf]; have := H10.out; have := H0.out; omega
      · have ht := tmod10_f h10
        have a1 : fm = q ∧ fe = b - 9 := by
          have e1 : fm = q := by rw [HM.out, hs.out, strip_stop (.inr h10)]
          exact ⟨e1, by rw [HE.out, if_neg (by rw [e1]; exact h0)]⟩
        have A1 := Lib.hid a1
        clear a1
        clear h10 h0
        go_wp2
        rw [A1.out.1, A1.out.2]
        exact bodyPost_ret (v := dv q (b - 9)) (by simp [dv, results, Tryd.results15, go_sem]) rfl ⟨rfl, (Below.refl _ _).alloc (Nat.le_refl _) _⟩
end Go.Proofs.YtaggeebfdlkbhaaDoor
