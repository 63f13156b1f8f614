/- The walk of the law DecimalSums: it answers true. -/
import Derived.Test.YtaggeebfdlkbhaaDoorAdd
set_option linter.unusedSimpArgs false
set_option linter.unusedVariables false
namespace Go.Proofs.YtaggeebfdlkbhaaDoor
open Go.RowKit Go.Sort

theorem add_opposite {m e : Int} (h : rightB m e = true) : addS m e (-m) e = (0, 0, true) := by
  unfold addS
  rw [if_pos ⟨h, right_neg h⟩, sv_neg, Int.add_right_neg, mk_zero]
theorem add_false {m e m' e' : Int} (h : (addS m e m' e').2.2 = false) : addS m e m' e' = (0, 0, false) := by
  unfold addS at *
  split
  · rename_i h2
    rw [if_pos h2] at h
    exact mk_not _ _ h
  · rfl
theorem add_true {m e m' e' s1 s2 : Int} (h : addS m e m' e' = (s1, s2, true)) : rightB m e = true ∧ rightB m' e' = true ∧ rightB s1 s2 = true ∧ sv s1 s2 = sv m e + sv m' e' := by
  unfold addS at h
  split at h
  · rename_i h2
    refine ⟨h2.1, h2.2, ?_, sv_mk h⟩
    have := mk_is_right (sv m e + sv m' e') (-9) (by rw [h])
    rw [h] at this
    exact this
  · simp at h
theorem add_back {m e m' e' s1 s2 : Int} (h : addS m e m' e' = (s1, s2, true)) : addS s1 s2 (-m') e' = (m, e, true) ∧ cmpD s1 s2 m e = cmpD m' e' 0 0 := by
  obtain ⟨r1, r2, r3, hv⟩ := add_true h
  constructor
  · unfold addS
    rw [if_pos ⟨r3, right_neg r2⟩, sv_neg, hv, show sv m e + sv m' e' + -sv m' e' = sv m e by omega]
    exact mk_sv_right r1
  · unfold cmpD
    rw [if_pos ⟨r3, r1⟩, if_pos ⟨r2, by decide +kernel⟩, hv, sv_zero]
    generalize sv m e = a
    generalize sv m' e' = b
    rcases Int.lt_trichotomy b 0 with hb | hb | hb
    · rw [cmpI_less hb, cmpI_less (by omega)]
    · rw [cmpI_eq hb, cmpI_eq (by omega)]
    · rw [cmpI_more hb, cmpI_more (by omega)]

set_option maxHeartbeats 4000000 in
set_option maxRecDepth 100000 in
theorem sums_walk (a0 a1 b0 b1 : Int) (w : World) (ht : Tab w) (ha0 : -9223372036854775808 ≤ a0) (ha1 : a0 ≤ 9223372036854775807) (ha2 : -9223372036854775808 ≤ a1) (ha3 : a1 ≤ 9223372036854775807)
    (hb0 : -9223372036854775808 ≤ b0) (hb1 : b0 ≤ 9223372036854775807) (hb2 : -9223372036854775808 ≤ b1) (hb3 : b1 ≤ 9223372036854775807) :
    Calls Tryd.prog 7 #[.agg #[.int .i64 a0, .int .i64 a1], .agg #[.int .i64 b0, .int .i64 b1]] w (Ret (.bool true) w) := by
  have f1 := Lib.hid (fun w => fit_of a0 a1 w ha0 ha1 ha2 ha3)
  have f2 := Lib.hid (fun w => fit_of b0 b1 w hb0 hb1 hb2 hb3)
  have r1 := fit_right a0 a1
  have r2 := fit_right b0 b1
  generalize fitM a0 = m1 at *
  generalize fitE a0 a1 = e1 at *
  generalize fitM b0 = m2 at *
  generalize fitE b0 b1 = e2 at *
  obtain ⟨x1, x2, x3, x4⟩ := rightB_bounds r1
  obtain ⟨y1, y2, y3, y4⟩ := rightB_bounds r2
  have P12 := Lib.hid (fun w => add_any m1 e1 m2 e2 w)
  have P21 := Lib.hid (fun w => add_any m2 e2 m1 e1 w)
  have P1N := Lib.hid (fun w => add_any m1 e1 (-m1) e1 w)
  rw [addS_comm m2 e2 m1 e1] at P21
  rw [add_opposite r1] at P1N
  have KF := Lib.hid (fun h => add_false (m := m1) (e := e1) (m' := m2) (e' := e2) h)
  have KB := Lib.hid (fun s1 s2 h => add_back (m := m1) (e := e1) (m' := m2) (e' := e2) (s1 := s1) (s2 := s2) h)
  have C20 := Lib.hid (fun w h => compare_any m2 e2 0 0 w h)
  have HT := Lib.hid ht
  clear ht r1 r2 ha0 ha1 ha2 ha3 hb0 hb1 hb2 hb3
  generalize addS m1 e1 m2 e2 = res at *
  obtain ⟨s1, s2, s3⟩ := res
  unfold mkV at P12 P21 P1N
  go_enter Tryd.func7, Tryd.ntmps7
  go_wp2_with fail
  (with_reducible refine (awake_any _ ((HT.out.alloc _).alloc _)).mono ?_)
  rintro e1' w1 ⟨rfl, hw1⟩
  have A1 := ((DecAt.new w a0 a1 22).alloc (.cells #[.int .i64 b0, .int .i64 b1] 22)).below hw1
  have A2 := decAt_at (b' := w.heap.size + 1) ((DecAt.new _ b0 b1 22).below hw1) (by simp)
  have hbb1 : Below w.heap.size w w1 := below_call (below_call hw1)
  clear hw1
  obtain ⟨p0, p1, pf, pl⟩ := A1
  go_wp2_with fail
  (with_reducible refine (f1.out _).mono ?_)
  rintro e1' w2 ⟨rfl, hw2⟩
  have A2 := A2.below hw2
  have hbb2 : Below w.heap.size w w2 := hbb1.trans (hw2.mono hbb1.size)
  clear hw2 p0 p1 pf pl hbb1
  obtain ⟨p0, p1, pf, pl⟩ := A2
  go_wp2_with fail
  (with_reducible refine (f2.out _).mono ?_)
  rintro e1' w3 ⟨rfl, hw3⟩
  have X := (DecAt.new w2 m1 e1 _).below hw3
  have hbb3 : Below w.heap.size w w3 := (hbb2.alloc hbb2.size _).trans (hw3.mono (by have := hbb2.size; simp; omega))
  generalize w2.heap.size = bx at *
  clear hw3 p0 p1 pf pl hbb2
  have Xc := X
  obtain ⟨p0, p1, pf, pl⟩ := Xc
  go_wp2_with fail
  (with_reducible refine (P12.out _).mono ?_)
  rintro e1' w4 ⟨rfl, hw4⟩
  have X := (X.alloc _).below hw4
  have Y := (DecAt.new w3 m2 e2 _).below hw4
  have hbb4 : Below w.heap.size w w4 := (hbb3.alloc hbb3.size _).trans (hw4.mono (by have := hbb3.size; simp; omega))
  generalize w3.heap.size = bY at *
  clear hw4 p0 p1 pf pl hbb3
  have Xc := X
  have Yc := Y
  obtain ⟨p0, p1, pf, pl⟩ := Xc
  obtain ⟨q0, q1, qf, ql⟩ := Yc
  go_wp2_with fail
  (with_reducible refine (P21.out _).mono ?_)
  rintro e1' w5 ⟨rfl, hw5⟩
  have X := (X.alloc _).below hw5
  have Y := (Y.alloc _).below hw5
  have S := (DecAt.new w4 s1 s2 _).below hw5
  have hbb5 : Below w.heap.size w w5 := (hbb4.alloc hbb4.size _).trans (hw5.mono (by have := hbb4.size; simp; omega))
  generalize w4.heap.size = bs at *
  clear hw5 p0 p1 pf pl q0 q1 qf ql hbb4
  have Xc := X
  obtain ⟨p0, p1, pf, pl⟩ := Xc
  go_wp2_with fail
  (with_reducible refine (P1N.out _).mono ?_)
  rintro e1' w6 ⟨rfl, hw6⟩
  have X := (X.alloc _).below hw6
  have Y := (Y.alloc _).below hw6
  have S := (S.alloc _).below hw6
  have T := (DecAt.new w5 s1 s2 _).below hw6
  have hbb6 : Below w.heap.size w w6 := (hbb5.alloc hbb5.size _).trans (hw6.mono (by have := hbb5.size; simp; omega))
  generalize w5.heap.size = bt at *
  clear hw6 p0 p1 pf pl hbb5
  have Sc := S
  have Yc := Y
  obtain ⟨p0, p1, pf, pl⟩ := Sc
  obtain ⟨q0, q1, qf, ql⟩ := T
  obtain ⟨r0, r1, rf, rl⟩ := Yc
  cases s3
  · have hz : s1 = 0 ∧ s2 = 0 := by
      have := KF.out rfl
      simp only [Prod.mk.injEq, and_true] at this
      exact this
    obtain ⟨rfl, rfl⟩ := hz
    go_wp2_with fail
    go_ret
    exact ⟨ret_bool (by simp), hbb6.alloc hbb6.size _⟩
  · obtain ⟨kb1, kb2⟩ := KB.out s1 s2 rfl
    have PSN := Lib.hid (fun w => add_any s1 s2 (-m2) e2 w)
    rw [kb1] at PSN
    unfold mkV at PSN
    have CSX := Lib.hid (fun w h => compare_any s1 s2 m1 e1 w h)
    rw [kb2] at CSX
    clear KF KB kb1 kb2
    generalize cmpD m2 e2 0 0 = c at *
    go_wp2_with fail
    (with_reducible refine (PSN.out _).mono ?_)
    rintro e1' w7 ⟨rfl, hw7⟩
    have X := (X.alloc _).below hw7
    have Y := (Y.alloc _).below hw7
    have S := (S.alloc _).below hw7
    have hbb7 : Below w.heap.size w w7 := (hbb6.alloc hbb6.size _).trans (hw7.mono (by have := hbb6.size; simp; omega))
    clear hw7 p0 p1 pf pl q0 q1 qf ql r0 r1 rf rl hbb6 P12 P21 P1N PSN f1 f2
    go_wp2_with fail
    have X := X.alloc (.cells #[.int .i64 m1, .int .i64 e1] 25)
    have Y := Y.alloc (.cells #[.int .i64 m1, .int .i64 e1] 25)
    have S := S.alloc (.cells #[.int .i64 m1, .int .i64 e1] 25)
    have B := DecAt.new w7 m1 e1 25
    have hbb8 := hbb7.alloc hbb7.size (.cells #[.int .i64 m1, .int .i64 e1] 25)
    generalize w7.heap.size = bb at *
    generalize w7.alloc (.cells #[.int .i64 m1, .int .i64 e1] 25) = w8 at *
    have HT8 := Lib.hid (HT.out.below hbb8)
    have k0 := cell_regrown X.c0
    have k1 := cell_regrown X.c1
    have j0 := cell_regrown Y.c0
    have j1 := cell_regrown Y.c1
    have i0 := cell_regrown S.c0
    have i1 := cell_regrown S.c1
    have l0 := cell_regrown B.c0
    have l1 := cell_regrown B.c1
    have cA : Hid (∀ d os, Calls Tryd.prog 24 #[.agg #[.int .i64 s1, .int .i64 s2], .agg #[.int .i64 m1, .int .i64 e1]] (grow (redrawn w8 d) os) fun e w'' => e = .returned (.int .i64 c) ∧ ∃ p : Regrown, w'' = grow (redrawn w8 p.d) p.os) :=
      fun d os => Calls.regrown_of (CSX.out _ (HT8.out.below (below_regrown w8 d os)))
    have cB : Hid (∀ d os, Calls Tryd.prog 24 #[.agg #[.int .i64 m2, .int .i64 e2], .agg #[.int .i64 0, .int .i64 0]] (grow (redrawn w8 d) os) fun e w'' => e = .returned (.int .i64 c) ∧ ∃ p : Regrown, w'' = grow (redrawn w8 p.d) p.os) :=
      fun d os => Calls.regrown_of (C20.out _ (HT8.out.below (below_regrown w8 d os)))
    clear X Y S B C20 CSX HT8 HT
    refine wp_region_quiet_below mixed (by kernel_rfl) ?_
    repeat (quiet_step (first | with_reducible exact cA.out _ _ | with_reducible exact cB.out _ _))
    refine wpQuiet_nil ?_
    intro _ hw'
    obtain ⟨⟨dq, osq⟩, hw''⟩ := hw'
    subst hw''
    have hbb9 : Below w.heap.size w (grow (redrawn w8 dq) osq) := hbb8.trans ((below_regrown w8 dq osq).mono hbb8.size)
    clear k0 k1 j0 j1 i0 i1 l0 l1 cA cB
    generalize grow (redrawn w8 dq) osq = w9 at *
    go_wp2_with fail
    go_ret
    exact ⟨ret_bool (by simp), hbb9⟩
end Go.Proofs.YtaggeebfdlkbhaaDoor
