/- The walk of the law DecimalMoves: it answers true. -/
import Derived.Test.YtaggeebfdlkbhaaDoorAwake
import Derived.Test.YtaggeebfdlkbhaaDoorFit
set_option linter.unusedSimpArgs false
set_option linter.unusedVariables false
namespace Go.Proofs.YtaggeebfdlkbhaaDoor
open Go.RowKit Go.Sort

theorem moves_bound {m q : Int} {j : Nat} (hm0 : -1000000000000 ≤ m) (hm1 : m ≤ 1000000000000) (hj : j ≤ 3) (hq : q = m * 10 ^ j) : -1000000000000000 ≤ q ∧ q ≤ 1000000000000000 := by
  rcases j with _ | _ | _ | _ | j
  · simp at hq; omega
  · simp at hq; omega
  · simp at hq; omega
  · simp at hq; omega
  · omega

set_option maxHeartbeats 1000000 in
theorem moves_walk (mant ex nou : Int) (w : World) (ht : Tab w) (hm0 : -9223372036854775808 ≤ mant) (hm1 : mant ≤ 9223372036854775807) (he0 : -9223372036854775808 ≤ ex) (he1 : ex ≤ 9223372036854775807) (hn0 : -9223372036854775808 ≤ nou) (hn1 : nou ≤ 9223372036854775807) :
    Calls Tryd.prog 8 #[.int .i64 mant, .int .i64 ex, .int .i64 nou] w (Ret (.bool true) w) := by
  have h1 := pickS_nonneg (c := mant) (n := 2000000000001) (by decide)
  have h2 := pickS_lt (c := mant) (n := 2000000000001) (by decide)
  have h3 := pickS_nonneg (c := ex) (n := 30) (by decide)
  have h4 := pickS_lt (c := ex) (n := 30) (by decide)
  have h5 := pickS_nonneg (c := nou) (n := 4) (by decide)
  have h6 := pickS_lt (c := nou) (n := 4) (by decide)
  have p1 := Lib.hid (fun w => pick_any mant 2000000000001 w hm0 hm1 (by decide) (by decide))
  have p2 := Lib.hid (fun w => pick_any ex 30 w he0 he1 (by decide) (by decide))
  have p3 := Lib.hid (fun w => pick_any nou 4 w hn0 hn1 (by decide) (by decide))
  generalize pickS mant 2000000000001 = a at *
  generalize pickS ex 30 = b at *
  generalize pickS nou 4 = c at *
  obtain ⟨n, rfl⟩ := Int.eq_ofNat_of_zero_le h5
  have HT := Lib.hid ht
  clear ht hm0 hm1 he0 he1 hn0 hn1
  go_enter Tryd.func8, Tryd.ntmps8
  go_wp2_with fail
  (with_reducible refine (awake_any _ HT.out).mono ?_)
  rintro e1 w1 ⟨rfl, hb1⟩
  go_wp2_with fail
  (with_reducible refine (p1.out _).mono ?_)
  rintro e1 w2 ⟨rfl, rfl⟩
  go_wp2_with fail
  (with_reducible refine (p2.out _).mono ?_)
  rintro e1 w2 ⟨rfl, rfl⟩
  go_wp2_with fail
  (with_reducible refine (make_any _ _ _ (by omega) (by omega) (by omega)).mono ?_)
  rintro e1 w2 ⟨rfl, hb2⟩
  have hr : ∀ k : Int, k = (a - 1000000000000) * 10 ^ n → mk k (b - 15 - n) = mk (a - 1000000000000) (b - 15) := fun k hk => by
    rw [hk, mk_pow]; congr 1; omega
  have hr2 : (mk (a - 1000000000000) (b - 15)).2.2 = true → rightB (mk (a - 1000000000000) (b - 15)).1 (mk (a - 1000000000000) (b - 15)).2.1 = true := mk_is_right _ _
  have HR := Lib.hid hr
  have HR2 := Lib.hid hr2
  clear hr hr2
  generalize mk (a - 1000000000000) (b - 15) = res at *
  obtain ⟨x1, x2, x3⟩ := res
  unfold mkV
  have hbb2 : Below w.heap.size w w2 := hb1.trans (hb2.mono hb1.size)
  clear hb1 hb2
  go_wp2_with fail
  go_loop [12, 13] (fun k i => ∃ (j : Nat) (q : Int), k = .int .i64 q ∧ i = .int .i64 j ∧ j ≤ n ∧ Hid (q = (a - 1000000000000) * 10 ^ j)) (fun _ i => n - (intOf i).toNat)
  case atStart => exact ⟨0, a - 1000000000000, rfl, rfl, by omega, by show _ = _; simp⟩
  case round =>
    obtain ⟨j, q, rfl, rfl, hj, hq⟩ := hrel
    obtain ⟨q0, q1⟩ := moves_bound (by omega) (by omega) (by omega) hq.out
    by_cases hlt : j < n
    · go_wp2_with (go_at_call 26; refine (p3.out _).mono ?_; rintro e w' ⟨rfl, rfl⟩)
      go_round
      case rel => exact ⟨j + 1, 10 * q, rfl, by go_num, by omega, by show _ = _; rw [hq.out, Int.pow_succ, Int.mul_comm 10, Int.mul_assoc]⟩
      case measure => simp [intOf]; omega
    · have hje : j = n := by omega
      have hqe := HR.out q (by rw [hq.out, hje])
      have HQ := Lib.hid hqe
      clear hqe hje
      go_wp2_with (go_at_call 26; refine (p3.out _).mono ?_; rintro e w' ⟨rfl, rfl⟩)
      (with_reducible refine (make_any _ _ _ (by omega) (by omega) (by omega)).mono ?_)
      rintro e1 w3 ⟨rfl, hb3⟩
      rw [HQ.out]
      unfold mkV
      have D1 := (DecAt.new w2 x1 x2 _).below hb3
      obtain ⟨d0, d1, df, dl⟩ := D1
      have hbb3 : Below w.heap.size w w3 := (hbb2.alloc hbb2.size _).trans (hb3.mono (by have := hbb2.size; simp; omega))
      clear hb3
      cases x3
      · go_wp2_with fail
        go_ret
        exact ⟨rfl, hbb3.alloc hbb3.size _⟩
      · go_wp2_with fail
        (with_reducible refine (right_any _ _ _).mono ?_)
        rintro e1 w4 ⟨rfl, hb4⟩
        rw [show rightB x1 x2 = true by simpa [Hid] using HR2]
        have hbb4 : Below w.heap.size w w4 := (hbb3.alloc hbb3.size _).trans (hb4.mono (by have := hbb3.size; simp; omega))
        clear hb4
        go_wp2_with fail
        go_ret
        exact ⟨ret_bool (by simp), hbb4⟩
end Go.Proofs.YtaggeebfdlkbhaaDoor
