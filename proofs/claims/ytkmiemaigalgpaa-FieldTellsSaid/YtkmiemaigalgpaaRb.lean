import Derived.Test.YtkmiemaigalgpaaRa
import Derived.Test.YtkmiemaigalgpaaMx
/- The document's Num, Text, Flag. -/
set_option linter.unusedVariables false
set_option linter.unusedSimpArgs false
namespace Go.Proofs.Ytkmiemaigalgpaa.Js
open Go.RowKit Lex

/-- What the cells of a value that is read tell. -/
theorem jAt_tell {S : Nat → Prop} {w : World} {d : Nat} {j : J} {k m e : Int} {t : ByteArray} {an : Option Addr} {nn cn : Nat} {ai : Option Addr} {ni ci : Nat} (h : JAt S w d (.agg #[.int .i64 k, .int .i64 m, .int .i64 e, .string t, .slice an nn cn, .slice ai ni ci]) j) :
    j.k = k ∧ j.m = m ∧ j.e = e ∧ (⟨j.t.toArray⟩ : ByteArray) = t ∧ j.is.length = ni ∧ i64B m ∧ i64B e := by
  obtain ⟨k', m', e', t', ns, is⟩ := j
  obtain ⟨d', an', cn', ai', ci', _, hv, h1, h2, h3, _⟩ := h.open_
  simp only [Value.agg.injEq, Array.mk.injEq, List.cons.injEq, Value.int.injEq, Value.string.injEq, Value.slice.injEq, true_and, and_true] at hv
  obtain ⟨rfl, rfl, rfl, rfl, _, _, rfl, _⟩ := hv
  exact ⟨rfl, rfl, rfl, rfl, rfl, h2, h3⟩
/-- With what Get tells. -/
def withG {α : Type} (z : α) (f : J → α) (r : J × Bool) : α := if r.2 = true then f r.1 else z
theorem below_box {w w1 : World} {o : Obj} (hb : Below (w.alloc o).heap.size (w.alloc o) w1) : Below w.heap.size w w1 := ((Below.refl _ _).alloc (Nat.le_refl _) _).trans (hb.mono (by simp))

set_option maxHeartbeats 4000000 in
set_option maxRecDepth 100000 in
theorem rnum_any (S : Nat → Prop) (d : Nat) (v : Value) (j : J) (nm : List UInt8) (w : World) (h : JAt S w d v j) : Calls Try.prog 11 #[v, .string ⟨nm.toArray⟩] w (Ret (.tuple #[.int .i64 (withG (0, false) numS (getS j nm)).1, .bool (withG (0, false) numS (getS j nm)).2]) w) := by
  have G1 := Lib.hid (fun o => rget_any S d v j nm (w.alloc o) (h.below ((Below.refl _ _).alloc (Nat.le_refl _) _) (Nat.le_refl _)))
  unfold RG at G1
  generalize getS j nm = R at *
  obtain ⟨x, b⟩ := R
  obtain ⟨k, m, e, t, an, nn, cn, ai, ni, ci, rfl⟩ := jAt_form h
  clear h
  unfold withG
  cases b with
  | false =>
    rw [if_neg (by simp)]
    go_enter Try.func11, Try.ntmps11
    go_wp2_with (go_at_call 9; (with_reducible refine (G1.out _).mono ?_); rintro e1 w1 ⟨k2, m2, e2', t2, an2, nn2, cn2, ai2, ni2, ci2, rfl, hJ, hb⟩)
    go_ret2
    exact ⟨rfl, (below_box hb).alloc (below_box hb).size _⟩
  | true =>
    rw [if_pos rfl]
    obtain ⟨xk, xm, xe, xt, xns, xis⟩ := x
    by_cases hk : xk = 4
    · subst hk
      have hx : numS (.mk 4 xm xe xt xns xis) = Dec.intS xm xe := by unfold numS; exact if_pos rfl
      rw [hx]
      clear hx
      have I1 : Hid (∀ (m e : Int) (w : World), i64B m → i64B e → Calls Try.prog 34 #[.agg #[.int .i64 m, .int .i64 e]] w (Ret (Dec.rsV (Dec.intS m e)) w)) := fun m e w hm he => Dec.rint_any m e w hm.1 hm.2 he.1 he.2
      go_enter Try.func11, Try.ntmps11
      go_wp2_with (first
        | (go_at_call 9; (with_reducible refine (G1.out _).mono ?_); rintro e1 w1 ⟨k2, m2, e2', t2, an2, nn2, cn2, ai2, ni2, ci2, rfl, hJ, hb⟩; obtain ⟨h1, h2, h3, _, _, hm2, he2⟩ := jAt_tell hJ; obtain rfl : xm = m2 := h2; obtain rfl : xe = e2' := h3; have h1' : (4 : Int) = k2 := h1; subst h1'; have I2 := Lib.hid (fun w => I1.out xm xe w hm2 he2); clear hJ)
        | (go_at_call 34; (with_reducible refine (I2.out _).mono ?_); unfold Dec.rsV; rintro e3 w3 ⟨rfl, hb3⟩))
      go_ret2
      exact ⟨rfl, (below_box hb).trans ((below_box hb3).mono (below_box hb).size)⟩
    · have hx : numS (.mk xk xm xe xt xns xis) = (0, false) := by unfold numS; exact if_neg hk
      rw [hx]
      go_enter Try.func11, Try.ntmps11
      go_wp2_with (go_at_call 9; (with_reducible refine (G1.out _).mono ?_); rintro e1 w1 ⟨k2, m2, e2', t2, an2, nn2, cn2, ai2, ni2, ci2, rfl, hJ, hb⟩; obtain ⟨h1, _⟩ := jAt_tell hJ; obtain rfl : xk = k2 := h1; have hk2 : (xk == 4) = false := by simpa using hk)
      go_ret2
      exact ⟨rfl, (below_box hb).alloc (below_box hb).size _⟩
set_option maxHeartbeats 4000000 in
set_option maxRecDepth 100000 in
theorem rtext_any (S : Nat → Prop) (d : Nat) (v : Value) (j : J) (nm : List UInt8) (w : World) (h : JAt S w d v j) : Calls Try.prog 13 #[v, .string ⟨nm.toArray⟩] w (Ret (.tuple #[.string ⟨(withG ([], false) txtS (getS j nm)).1.toArray⟩, .bool (withG ([], false) txtS (getS j nm)).2]) w) := by
  have G1 := Lib.hid (fun o => rget_any S d v j nm (w.alloc o) (h.below ((Below.refl _ _).alloc (Nat.le_refl _) _) (Nat.le_refl _)))
  unfold RG at G1
  generalize getS j nm = R at *
  obtain ⟨x, b⟩ := R
  obtain ⟨k, m, e, t, an, nn, cn, ai, ni, ci, rfl⟩ := jAt_form h
  clear h
  unfold withG
  cases b with
  | false =>
    rw [if_neg (by simp)]
    go_enter Try.func13, Try.ntmps13
    go_wp2_with (go_at_call 9; (with_reducible refine (G1.out _).mono ?_); rintro e1 w1 ⟨k2, m2, e2', t2, an2, nn2, cn2, ai2, ni2, ci2, rfl, hJ, hb⟩)
    go_ret2
    exact ⟨rfl, (below_box hb).alloc (below_box hb).size _⟩
  | true =>
    rw [if_pos rfl]
    by_cases hk : x.k = 5
    · have hx : txtS x = (x.t, true) := by unfold txtS; rw [if_pos hk]
      rw [hx]
      clear hx
      go_enter Try.func13, Try.ntmps13
      go_wp2_with (go_at_call 9; (with_reducible refine (G1.out _).mono ?_); rintro e1 w1 ⟨k2, m2, e2', t2, an2, nn2, cn2, ai2, ni2, ci2, rfl, hJ, hb⟩; obtain ⟨h1, _, _, h4, _⟩ := jAt_tell hJ; rw [hk] at h1; subst h1; subst h4; clear hJ)
      go_ret2
      exact ⟨rfl, (below_box hb).alloc (below_box hb).size _⟩
    · have hx : txtS x = ([], false) := by unfold txtS; rw [if_neg hk]
      rw [hx]
      go_enter Try.func13, Try.ntmps13
      go_wp2_with (go_at_call 9; (with_reducible refine (G1.out _).mono ?_); rintro e1 w1 ⟨k2, m2, e2', t2, an2, nn2, cn2, ai2, ni2, ci2, rfl, hJ, hb⟩; obtain ⟨h1, _⟩ := jAt_tell hJ; have hk2 : (k2 == 5) = false := by rw [← h1]; simpa using hk)
      go_ret2
      exact ⟨rfl, (below_box hb).alloc (below_box hb).size _⟩

set_option maxHeartbeats 4000000 in
set_option maxRecDepth 100000 in
theorem rflag_any (S : Nat → Prop) (d : Nat) (v : Value) (j : J) (nm : List UInt8) (w : World) (h : JAt S w d v j) : Calls Try.prog 15 #[v, .string ⟨nm.toArray⟩] w (Ret (.tuple #[.bool (withG (false, false) flagS (getS j nm)).1, .bool (withG (false, false) flagS (getS j nm)).2]) w) := by
  have G1 := Lib.hid (fun o => rget_any S d v j nm (w.alloc o) (h.below ((Below.refl _ _).alloc (Nat.le_refl _) _) (Nat.le_refl _)))
  unfold RG at G1
  generalize getS j nm = R at *
  obtain ⟨x, b⟩ := R
  obtain ⟨k, m, e, t, an, nn, cn, ai, ni, ci, rfl⟩ := jAt_form h
  clear h
  unfold withG
  cases b with
  | false =>
    rw [if_neg (by simp)]
    go_enter Try.func15, Try.ntmps15
    go_upto_region 2 with (go_at_call 9; (with_reducible refine (G1.out _).mono ?_); rintro e1 w1 ⟨k2, m2, e2', t2, an2, nn2, cn2, ai2, ni2, ci2, rfl, hJ, hb⟩)
    have hB := Lib.hid ((below_box hb).alloc (below_box hb).size (.cells #[.int .i64 k2, .int .i64 m2, .int .i64 e2', .string t2, .slice an2 nn2 cn2, .slice ai2 ni2 ci2] 27))
    go_quiet (fail)
    go_wp2_with fail
    go_ret2
    exact ⟨rfl, bdrewN hB.out _⟩
  | true =>
    rw [if_pos rfl]
    obtain ⟨xk, xm, xe, xt, xns, xis⟩ := x
    by_cases h3 : xk = 3
    · subst h3
      rw [show flagS (.mk 3 xm xe xt xns xis) = (true, true) from rfl]
      go_enter Try.func15, Try.ntmps15
      go_upto_region 2 with (go_at_call 9; (with_reducible refine (G1.out _).mono ?_); rintro e1 w1 ⟨k2, m2, e2', t2, an2, nn2, cn2, ai2, ni2, ci2, rfl, hJ, hb⟩; obtain ⟨h1, _⟩ := jAt_tell hJ; have h1' : (3 : Int) = k2 := h1; subst h1')
      have hB := Lib.hid ((below_box hb).alloc (below_box hb).size (.cells #[.int .i64 3, .int .i64 m2, .int .i64 e2', .string t2, .slice an2 nn2 cn2, .slice ai2 ni2 ci2] 27))
      clear hJ hb
      go_quiet (fail)
      go_wp2_with fail
      go_ret2
      exact ⟨rfl, bdrewN hB.out _⟩
    · have q3 : (xk == 3) = false := by simpa using h3
      have q4 : decide (xk = 3) = false := by simpa using h3
      by_cases h2 : xk = 2
      · subst h2
        clear q3 q4 h3
        rw [show flagS (.mk 2 xm xe xt xns xis) = (false, true) from rfl]
        go_enter Try.func15, Try.ntmps15
        go_upto_region 2 with (go_at_call 9; (with_reducible refine (G1.out _).mono ?_); rintro e1 w1 ⟨k2, m2, e2', t2, an2, nn2, cn2, ai2, ni2, ci2, rfl, hJ, hb⟩; obtain ⟨h1, _⟩ := jAt_tell hJ; have h1' : (2 : Int) = k2 := h1; subst h1')
        have hB := Lib.hid ((below_box hb).alloc (below_box hb).size (.cells #[.int .i64 2, .int .i64 m2, .int .i64 e2', .string t2, .slice an2 nn2 cn2, .slice ai2 ni2 ci2] 27))
        clear hJ hb
        go_quiet (fail)
        go_wp2_with fail
        go_ret2
        exact ⟨rfl, bdrewN hB.out _⟩
      · have q5 : (xk == 2) = false := by simpa using h2
        have q6 : decide (xk = 2) = false := by simpa using h2
        rw [show flagS (.mk xk xm xe xt xns xis) = (false, false) from by unfold flagS; simp [J.k, h3, h2]]
        go_enter Try.func15, Try.ntmps15
        go_upto_region 2 with (go_at_call 9; (with_reducible refine (G1.out _).mono ?_); rintro e1 w1 ⟨k2, m2, e2', t2, an2, nn2, cn2, ai2, ni2, ci2, rfl, hJ, hb⟩; obtain ⟨h1, _⟩ := jAt_tell hJ; obtain rfl : xk = k2 := h1)
        have hB := Lib.hid ((below_box hb).alloc (below_box hb).size (.cells #[.int .i64 xk, .int .i64 m2, .int .i64 e2', .string t2, .slice an2 nn2 cn2, .slice ai2 ni2 ci2] 27))
        clear hJ hb
        go_quiet (fail)
        go_wp2_with fail
        go_ret2
        exact ⟨rfl, bdrewN hB.out _⟩
end Go.Proofs.Ytkmiemaigalgpaa.Js
