/- The walk of the law DecimalOrder: it answers true. -/
import Derived.Test.YtaggeebfdlkbhaaDoorCompare
set_option linter.unusedSimpArgs false
set_option linter.unusedVariables false
namespace Go.Proofs.YtaggeebfdlkbhaaDoor
open Go.RowKit Go.Sort

set_option maxHeartbeats 400000 in
theorem minus_any (m e : Int) (w : World) (h0 : -1000000000000000 ≤ m) (h1 : m ≤ 1000000000000000) :
    Calls Tryd.prog 27 #[.agg #[.int .i64 m, .int .i64 e]] w (Ret (.agg #[.int .i64 (-m), .int .i64 e]) w) := by
  go_enter Tryd.func27, Tryd.ntmps27
  go_wp2
  exact bodyPost_ret (v := .agg #[.int .i64 (-m), .int .i64 e]) (by simp [results, Tryd.results27, go_sem]) rfl ⟨rfl, ((Below.refl _ _).alloc (Nat.le_refl _) _).alloc (by simp) _⟩

theorem cmpD_neg {m e m' e' : Int} (h : rightB m e = true) (h' : rightB m' e' = true) : cmpD (-m) e (-m') e' = -cmpD m e m' e' := by
  unfold cmpD
  rw [if_pos ⟨right_neg h, right_neg h'⟩, if_pos ⟨h, h'⟩, sv_neg, sv_neg, cmpI_neg]
theorem cmpD_swap {m e m' e' : Int} (h : rightB m e = true) (h' : rightB m' e' = true) : cmpD m' e' m e = -cmpD m e m' e' := by
  unfold cmpD
  rw [if_pos ⟨h', h⟩, if_pos ⟨h, h'⟩, cmpI_swap]
theorem cmpD_cases {m e m' e' : Int} (h : rightB m e = true) (h' : rightB m' e' = true) :
    (cmpD m e m' e' = 0 ∧ m = m' ∧ e = e') ∨ ((cmpD m e m' e' = -1 ∨ cmpD m e m' e' = 1) ∧ (¬ m = m' ∨ (m = m' ∧ ¬ e = e'))) := by
  have hs := sv_inj h h'
  unfold cmpD
  rw [if_pos ⟨h, h'⟩]
  rcases Int.lt_trichotomy (sv m e) (sv m' e') with hlt | heq | hgt
  · right
    refine ⟨.inl (cmpI_less hlt), ?_⟩
    by_cases hm : m = m'
    · right; refine ⟨hm, ?_⟩; intro he; subst hm he; omega
    · exact .inl hm
  · left; exact ⟨cmpI_eq heq, hs heq⟩
  · right
    refine ⟨.inr (cmpI_more hgt), ?_⟩
    by_cases hm : m = m'
    · right; refine ⟨hm, ?_⟩; intro he; subst hm he; omega
    · exact .inl hm
/-- Of three in a row. -/
def tri (p q r : Int) : Bool := (decide (0 < p) || decide (0 < q) || decide (r ≤ 0)) && (decide (p < 0) || decide (q < 0) || decide (0 ≤ r))
theorem cmpD_tri {m e m' e' m2 e2 : Int} (h : rightB m e = true) (h' : rightB m' e' = true) (h2 : rightB m2 e2 = true) :
    tri (cmpD m e m' e') (cmpD m' e' m2 e2) (cmpD m e m2 e2) = true := by
  unfold cmpD tri
  rw [if_pos ⟨h, h'⟩, if_pos ⟨h', h2⟩, if_pos ⟨h, h2⟩]
  generalize sv m e = a
  generalize sv m' e' = b
  generalize sv m2 e2 = c
  unfold cmpI
  simp
  split <;> split <;> split <;> (try split) <;> (try split) <;> (try split) <;> omega
theorem cmpD_range {m e m' e' : Int} : cmpD m e m' e' = -1 ∨ cmpD m e m' e' = 0 ∨ cmpD m e m' e' = 1 := by
  unfold cmpD
  split
  · have := cmpI_range (sv m e) (sv m' e'); omega
  · omega

set_option maxHeartbeats 4000000 in
set_option maxRecDepth 100000 in
theorem order_walk (a0 a1 b0 b1 c0 c1 : Int) (w : World) (ht : Tab w) (ha0 : -9223372036854775808 ≤ a0) (ha1 : a0 ≤ 9223372036854775807) (ha2 : -9223372036854775808 ≤ a1) (ha3 : a1 ≤ 9223372036854775807)
    (hb0 : -9223372036854775808 ≤ b0) (hb1 : b0 ≤ 9223372036854775807) (hb2 : -9223372036854775808 ≤ b1) (hb3 : b1 ≤ 9223372036854775807)
    (hc0 : -9223372036854775808 ≤ c0) (hc1 : c0 ≤ 9223372036854775807) (hc2 : -9223372036854775808 ≤ c1) (hc3 : c1 ≤ 9223372036854775807) :
    Calls Tryd.prog 6 #[.agg #[.int .i64 a0, .int .i64 a1], .agg #[.int .i64 b0, .int .i64 b1], .agg #[.int .i64 c0, .int .i64 c1]] w (Ret (.bool true) w) := by
  have f1 := Lib.hid (fun w => fit_of a0 a1 w ha0 ha1 ha2 ha3)
  have f2 := Lib.hid (fun w => fit_of b0 b1 w hb0 hb1 hb2 hb3)
  have f3 := Lib.hid (fun w => fit_of c0 c1 w hc0 hc1 hc2 hc3)
  have r1 := fit_right a0 a1
  have r2 := fit_right b0 b1
  have r3 := fit_right c0 c1
  generalize fitM a0 = m1 at *
  generalize fitE a0 a1 = e1 at *
  generalize fitM b0 = m2 at *
  generalize fitE b0 b1 = e2 at *
  generalize fitM c0 = m3 at *
  generalize fitE c0 c1 = e3 at *
  obtain ⟨x1, x2, x3, x4⟩ := rightB_bounds r1
  obtain ⟨y1, y2, y3, y4⟩ := rightB_bounds r2
  have hcases := cmpD_cases r1 r2
  have C12 := Lib.hid (fun w h => compare_any m1 e1 m2 e2 w h)
  have C23 := Lib.hid (fun w h => compare_any m2 e2 m3 e3 w h)
  have C13 := Lib.hid (fun w h => compare_any m1 e1 m3 e3 w h)
  have C21 := Lib.hid (fun w h => compare_any m2 e2 m1 e1 w h)
  have CNN := Lib.hid (fun w h => compare_any (-m1) e1 (-m2) e2 w h)
  rw [cmpD_swap r1 r2] at C21
  rw [cmpD_neg r1 r2] at CNN
  have TRI := Lib.hid (cmpD_tri r1 r2 r3)
  have q3 := cmpD_range (m := m2) (e := e2) (m' := m3) (e' := e3)
  have s3 := cmpD_range (m := m1) (e := e1) (m' := m3) (e' := e3)
  generalize cmpD m1 e1 m2 e2 = p at *
  generalize cmpD m2 e2 m3 e3 = q at *
  generalize cmpD m1 e1 m3 e3 = r at *
  have HT := Lib.hid ht
  have HC := Lib.hid hcases
  have HQ := Lib.hid q3
  have HS := Lib.hid s3
  clear ht hcases r1 r2 r3 ha0 ha1 ha2 ha3 hb0 hb1 hb2 hb3 hc0 hc1 hc2 hc3 q3 s3
  go_enter Tryd.func6, Tryd.ntmps6
  go_wp2_with fail
  (with_reducible refine (awake_any _ (((HT.out.alloc _).alloc _).alloc _)).mono ?_)
  rintro e1' w1 ⟨rfl, hw1⟩
  have A1 := (((DecAt.new w a0 a1 22).alloc (.cells #[.int .i64 b0, .int .i64 b1] 22)).alloc (.cells #[.int .i64 c0, .int .i64 c1] 22)).below hw1
  have A2 := ((DecAt.new (w.alloc (.cells #[.int .i64 a0, .int .i64 a1] 22)) b0 b1 22).alloc (.cells #[.int .i64 c0, .int .i64 c1] 22)).below hw1
  have A3 := (DecAt.new ((w.alloc (.cells #[.int .i64 a0, .int .i64 a1] 22)).alloc (.cells #[.int .i64 b0, .int .i64 b1] 22)) c0 c1 22).below hw1
  rw [show (w.alloc (.cells #[.int .i64 a0, .int .i64 a1] 22)).heap.size = w.heap.size + 1 by simp] at A2
  rw [show ((w.alloc (.cells #[.int .i64 a0, .int .i64 a1] 22)).alloc (.cells #[.int .i64 b0, .int .i64 b1] 22)).heap.size = w.heap.size + 1 + 1 by simp] at A3
  have hbb1 : Below w.heap.size w w1 := below_call (below_call (below_call hw1))
  clear hw1
  have A1c := A1
  obtain ⟨p0, p1, pf, pl⟩ := A1c
  go_wp2_with fail
  (with_reducible refine (f1.out _).mono ?_)
  rintro e1' w2 ⟨rfl, hw2⟩
  have A2 := A2.below hw2
  have A3 := A3.below hw2
  have hbb2 : Below w.heap.size w w2 := hbb1.trans (hw2.mono hbb1.size)
  clear hw2 A1 p0 p1 pf pl hbb1
  have A2c := A2
  obtain ⟨p0, p1, pf, pl⟩ := A2c
  go_wp2_with fail
  (with_reducible refine (f2.out _).mono ?_)
  rintro e1' w3 ⟨rfl, hw3⟩
  have A3 := (A3.alloc _).below hw3
  have X := (DecAt.new w2 m1 e1 _).below hw3
  have hbb3 : Below w.heap.size w w3 := (hbb2.alloc hbb2.size _).trans (hw3.mono (by have := hbb2.size; simp; omega))
  generalize w2.heap.size = bx at *
  clear hw3 A2 p0 p1 pf pl hbb2
  have A3c := A3
  obtain ⟨p0, p1, pf, pl⟩ := A3c
  go_wp2_with fail
  (with_reducible refine (f3.out _).mono ?_)
  rintro e1' w4 ⟨rfl, hw4⟩
  have X := (X.alloc _).below hw4
  have Y := (DecAt.new w3 m2 e2 _).below hw4
  have hbb4 : Below w.heap.size w w4 := (hbb3.alloc hbb3.size _).trans (hw4.mono (by have := hbb3.size; simp; omega))
  generalize w3.heap.size = bY at *
  clear hw4 A3 p0 p1 pf pl hbb3
  have Xc := X
  have Yc := Y
  obtain ⟨p0, p1, pf, pl⟩ := Xc
  obtain ⟨q0, q1, qf, ql⟩ := Yc
  go_wp2_with fail
  (with_reducible refine (C12.out _ ((HT.out.below hbb4).alloc _)).mono ?_)
  rintro e1' w5 ⟨rfl, hw5⟩
  have X := (X.alloc _).below hw5
  have Y := (Y.alloc _).below hw5
  have Z := (DecAt.new w4 m3 e3 _).below hw5
  have hbb5 : Below w.heap.size w w5 := (hbb4.alloc hbb4.size _).trans (hw5.mono (by have := hbb4.size; simp; omega))
  generalize w4.heap.size = bz at *
  clear hw5 p0 p1 pf pl q0 q1 qf ql hbb4
  have Yc := Y
  have Zc := Z
  obtain ⟨p0, p1, pf, pl⟩ := Yc
  obtain ⟨q0, q1, qf, ql⟩ := Zc
  go_wp2_with fail
  (with_reducible refine (C23.out _ (HT.out.below hbb5)).mono ?_)
  rintro e1' w6 ⟨rfl, hw6⟩
  have X := X.below hw6
  have Y := Y.below hw6
  have Z := Z.below hw6
  have hbb6 : Below w.heap.size w w6 := hbb5.trans (hw6.mono hbb5.size)
  clear hw6 p0 p1 pf pl q0 q1 qf ql hbb5
  have Xc := X
  obtain ⟨p0, p1, pf, pl⟩ := Xc
  obtain ⟨q0, q1, qf, ql⟩ := Z
  go_wp2_with fail
  (with_reducible refine (C13.out _ (HT.out.below hbb6)).mono ?_)
  rintro e1' w7 ⟨rfl, hw7⟩
  have X := X.below hw7
  have Y := Y.below hw7
  have hbb7 : Below w.heap.size w w7 := hbb6.trans (hw7.mono hbb6.size)
  clear hw7 p0 p1 pf pl q0 q1 qf ql hbb6
  obtain ⟨p0, p1, pf, pl⟩ := X
  obtain ⟨q0, q1, qf, ql⟩ := Y
  have HT7 := Lib.hid (HT.out.below hbb7)
  go_wp2_with fail
  have k0 := cell_regrown p0
  have k1 := cell_regrown p1
  have j0 := cell_regrown q0
  have j1 := cell_regrown q1
  have cA : Hid (∀ d os, Calls Tryd.prog 24 #[.agg #[.int .i64 m2, .int .i64 e2], .agg #[.int .i64 m1, .int .i64 e1]] (grow (redrawn w7 d) os) fun e w'' => e = .returned (.int .i64 (-p)) ∧ ∃ p : Regrown, w'' = grow (redrawn w7 p.d) p.os) :=
    fun d os => Calls.regrown_of (C21.out _ (HT7.out.below (below_regrown w7 d os)))
  have cB : Hid (∀ d os, Calls Tryd.prog 24 #[.agg #[.int .i64 (-m1), .int .i64 e1], .agg #[.int .i64 (-m2), .int .i64 e2]] (grow (redrawn w7 d) os) fun e w'' => e = .returned (.int .i64 (-p)) ∧ ∃ p : Regrown, w'' = grow (redrawn w7 p.d) p.os) :=
    fun d os => Calls.regrown_of (CNN.out _ (HT7.out.below (below_regrown w7 d os)))
  have cC : Hid (∀ d os, Calls Tryd.prog 27 #[.agg #[.int .i64 m1, .int .i64 e1]] (grow (redrawn w7 d) os) fun e w'' => e = .returned (.agg #[.int .i64 (-m1), .int .i64 e1]) ∧ ∃ p : Regrown, w'' = grow (redrawn w7 p.d) p.os) :=
    fun d os => Calls.regrown_of (minus_any m1 e1 _ x1 x2)
  have cD : Hid (∀ d os, Calls Tryd.prog 27 #[.agg #[.int .i64 m2, .int .i64 e2]] (grow (redrawn w7 d) os) fun e w'' => e = .returned (.agg #[.int .i64 (-m2), .int .i64 e2]) ∧ ∃ p : Regrown, w'' = grow (redrawn w7 p.d) p.os) :=
    fun d os => Calls.regrown_of (minus_any m2 e2 _ y1 y2)
  have hall := HC.out
  clear p0 p1 pf q0 q1 qf f1 f2 f3 C12 C23 C13 C21 CNN HC HT7 x1 x2 x3 x4 y1 y2 y3 y4
  rcases hall with ⟨rfl, rfl, rfl⟩ | ⟨rfl | rfl, h3 | ⟨rfl, h3⟩⟩
  all_goals
    refine wp_region_quiet_below mixed (by kernel_rfl) ?_
    repeat (quiet_step (first | with_reducible exact cA.out _ _ | with_reducible exact cB.out _ _ | with_reducible exact cC.out _ _ | with_reducible exact cD.out _ _))
    refine wpQuiet_nil ?_
    intro _ hw'
    obtain ⟨⟨dq, osq⟩, hw''⟩ := hw'
    subst hw''
    have hbb8 : Below w.heap.size w (grow (redrawn w7 dq) osq) := hbb7.trans ((below_regrown w7 dq osq).mono hbb7.size)
    clear k0 k1 j0 j1 cA cB cC cD hbb7
    generalize grow (redrawn w7 dq) osq = w8 at *
    have hT := TRI.out
    obtain hq | hq | hq := HQ.out
    all_goals
      obtain hr | hr | hr := HS.out
      all_goals
        clear TRI HQ HS
        subst hq
        subst hr
        first
          | (exfalso; revert hT; decide)
          | (clear hT
             go_wp2_with fail
             go_ret
             exact ⟨ret_bool (by simp), hbb8⟩)
end Go.Proofs.YtaggeebfdlkbhaaDoor
