import Derived.Test.YtkmiemaigalgpaaRb
import Derived.Test.YtkmiemaigalgpaaFd
/- The document's fits. -/
set_option linter.unusedVariables false
set_option linter.unusedSimpArgs false
namespace Go.Proofs.Ytkmiemaigalgpaa.Js
open Go.RowKit Lex

set_option maxHeartbeats 4000000 in
set_option maxRecDepth 100000 in
theorem rfits_any (S : Nat → Prop) (d : Nat) (v : Value) (j : J) (f : Fd) (w : World) (h : JAt S w d v j) : Calls Try.prog 42 #[v, fdV f] w (Ret (.bool (fitB j f)) w) := by
  obtain ⟨k, m, e, t, ns, is⟩ := j
  obtain ⟨d', an, cn, ai, ci, hd', rfl, hk, hm, he, ht, hns, hn1, hn, hi1, hi, hit⟩ := h.open_
  obtain ⟨nm, fk, lo, hi', fr⟩ := f
  have I1 : Hid (∀ (w : World), Calls Try.prog 34 #[.agg #[.int .i64 m, .int .i64 e]] w (Ret (Dec.rsV (Dec.intS m e)) w)) := fun w => Dec.rint_any m e w hm.1 hm.2 he.1 he.2
  clear h hns hit hd' hk hm he ht
  rw [fitB_mk]
  unfold fdV Dec.rsV at *
  have hts : (⟨t.toArray⟩ : ByteArray).size = t.length := Lex.bs_size t
  have HB := Lib.hid (belowTwo w (.cells #[.int .i64 k, .int .i64 m, .int .i64 e, .string ⟨t.toArray⟩, .slice an ns.length cn, .slice ai is.length ci] 27) (.cells #[.string ⟨nm.toArray⟩, .int .i64 fk, .int .i64 lo, .int .i64 hi', .bool fr] 50))
  generalize ns.length = nn at *
  by_cases h8 : fk = 8
  · subst h8
    rw [if_pos rfl]
    rw [show (flagS (.mk k m e t ns is)).2 = (k == 3 || k == 2) from rfl]
    clear I1
    by_cases h3 : k = 3
    · subst h3
      go_enter Try.func42, Try.ntmps42
      go_wp2_with fail
      go_ret
      exact ⟨rfl, HB.out⟩
    · have b3 : (k == 3) = false := by simpa using h3
      rw [b3]
      clear h3
      go_enter Try.func42, Try.ntmps42
      go_wp2_with fail
      go_ret
      exact ⟨Quo.ret_bool (by simp), HB.out⟩
  · rw [if_neg h8]
    have b8 : (fk == 8) = false := by simpa using h8
    by_cases h4 : fk = 4
    · subst h4
      by_cases hk : k = 4
      · subst hk
        rw [if_neg (show ¬ ((4 : Int) ≠ 4) from fun h => h rfl), if_pos rfl, show numS (.mk 4 m e t ns is) = Dec.intS m e from if_pos rfl]
        generalize Dec.intS m e = R at *
        obtain ⟨r1, r2⟩ := R
        simp only at I1 ⊢
        cases r2 with
        | true =>
          go_enter Try.func42, Try.ntmps42
          go_wp2_with (go_at_call 34; (with_reducible refine (I1.out _).mono ?_); rintro e1 w1 ⟨rfl, hb1⟩; obtain ⟨x1, x2, x3, hbw⟩ := two_boxes' hb1; obtain ⟨p0, p1, p2, p3, p4⟩ := fiveOf x2; obtain ⟨q0, q1, q2, q3, q4, q5⟩ := six_of x1)
          all_goals go_ret
          all_goals exact ⟨Quo.ret_bool (by unfold inB; first | (simp [*]; done) | (simp [*]; intro _; omega)), hbw⟩
        | false =>
          go_enter Try.func42, Try.ntmps42
          go_wp2_with (go_at_call 34; (with_reducible refine (I1.out _).mono ?_); rintro e1 w1 ⟨rfl, hb1⟩; obtain ⟨x1, x2, x3, hbw⟩ := two_boxes' hb1; obtain ⟨p0, p1, p2, p3, p4⟩ := fiveOf x2; obtain ⟨q0, q1, q2, q3, q4, q5⟩ := six_of x1)
          go_ret
          exact ⟨rfl, hbw⟩
      · rw [if_pos hk]
        have bk : (k == 4) = false := by simpa using hk
        generalize Dec.intS m e = R at *
        obtain ⟨r1, r2⟩ := R
        simp only at I1 ⊢
        go_enter Try.func42, Try.ntmps42
        go_wp2_with (go_at_call 34; (with_reducible refine (I1.out _).mono ?_); rintro e1 w1 ⟨rfl, hb1⟩; obtain ⟨x1, x2, x3, hbw⟩ := two_boxes' hb1; obtain ⟨p0, p1, p2, p3, p4⟩ := fiveOf x2; obtain ⟨q0, q1, q2, q3, q4, q5⟩ := six_of x1)
        go_ret
        exact ⟨rfl, hbw⟩
    · have b4 : (fk == 4) = false := by simpa using h4
      clear I1
      by_cases hk : k = fk
      · subst hk
        rw [if_neg (show ¬ (k ≠ k) from fun h => h rfl), if_neg h4]
        by_cases h5 : k = 5
        · subst h5
          rw [if_pos rfl]
          go_enter Try.func42, Try.ntmps42
          go_wp2_with fail
          all_goals go_ret
          all_goals exact ⟨Quo.ret_bool (by unfold inB; first | (simp [*]; done) | (simp [*]; intro _; omega)), HB.out⟩
        · have b5 : (k == 5) = false := by simpa using h5
          rw [if_neg h5]
          by_cases h6 : k = 6
          · subst h6
            rw [if_pos rfl]
            go_enter Try.func42, Try.ntmps42
            go_wp2_with fail
            all_goals go_ret
            all_goals exact ⟨Quo.ret_bool (by unfold inB; first | (simp [*]; done) | (simp [*]; intro _; omega)), HB.out⟩
          · have b6 : (k == 6) = false := by simpa using h6
            rw [if_neg h6]
            go_enter Try.func42, Try.ntmps42
            go_wp2_with fail
            go_ret
            exact ⟨rfl, HB.out⟩
      · rw [if_pos hk]
        have bk : (k == fk) = false := by simpa using hk
        by_cases h5 : fk = 5
        · subst h5
          go_enter Try.func42, Try.ntmps42
          go_wp2_with fail
          go_ret
          exact ⟨rfl, HB.out⟩
        · have b5 : (fk == 5) = false := by simpa using h5
          by_cases h6 : fk = 6
          · subst h6
            go_enter Try.func42, Try.ntmps42
            go_wp2_with fail
            go_ret
            exact ⟨rfl, HB.out⟩
          · have b6 : (fk == 6) = false := by simpa using h6
            go_enter Try.func42, Try.ntmps42
            go_wp2_with fail
            go_ret
            exact ⟨rfl, HB.out⟩
end Go.Proofs.Ytkmiemaigalgpaa.Js
