/- Contracts of compare at string, compareSize and Compare of the program. -/
import Derived.Test.YtaggeebfdlkbhaaDoorBack
import Derived.Test.YtaggeebfdlkbhaaDoorValue
set_option linter.unusedSimpArgs false
set_option linter.unusedVariables false
namespace Go.Proofs.YtaggeebfdlkbhaaDoor
open Go.RowKit Go.Sort

theorem compareS_any (a b : List UInt8) (w : World) :
    Calls Tryd.prog 52 #[.string ⟨a.toArray⟩, .string ⟨b.toArray⟩] w fun e w' => e = .returned (.int .i64 (cmpS a b)) ∧ w = w' := by
  unfold cmpS
  rcases h1 : Op.bytesLess a b with _ | _
  · rcases h2 : Op.bytesLess b a with _ | _
    · go_enter Tryd.func52, Tryd.ntmps52
      go_wp2
      go_ret
      exact ⟨rfl, rfl⟩
    · go_enter Tryd.func52, Tryd.ntmps52
      go_wp2
      go_ret
      exact ⟨rfl, rfl⟩
  · go_enter Tryd.func52, Tryd.ntmps52
    go_wp2
    go_ret
    exact ⟨rfl, rfl⟩

set_option maxHeartbeats 1000000 in
theorem size_any (m e m' e' : Int) (w : World) (ht : Tab w) (h : rightB m e = true) (h' : rightB m' e' = true) :
    Calls Tryd.prog 38 #[.agg #[.int .i64 m, .int .i64 e], .agg #[.int .i64 m', .int .i64 e']] w (Ret (.int .i64 (sizeS m e m' e')) w) := by
  obtain ⟨b1, b2, b3, b4⟩ := rightB_bounds h
  obtain ⟨c1, c2, c3, c4⟩ := rightB_bounds h'
  have hl := decDigits_le b1 b2
  have hl' := decDigits_le c1 c2
  have HS : Hid (sizeS m e m' e' = if cmpI ((Lib.decDigits m.natAbs).length + e) ((Lib.decDigits m'.natAbs).length + e') ≠ 0 then cmpI ((Lib.decDigits m.natAbs).length + e) ((Lib.decDigits m'.natAbs).length + e') else cmpS (Lib.decDigits m.natAbs) (Lib.decDigits m'.natAbs)) := rfl
  have DA := Lib.hid (fun w h => digits_any m e w h b1 b2)
  have DB := Lib.hid (fun w h => digits_any m' e' w h c1 c2)
  have HT := Lib.hid ht
  clear ht h h'
  generalize Lib.decDigits m.natAbs = A at *
  generalize Lib.decDigits m'.natAbs = B at *
  generalize sizeS m e m' e' = res at *
  go_enter Tryd.func38, Tryd.ntmps38
  go_wp2_with fail
  have hbb : Below w.heap.size w ((w.alloc (.cells #[.int .i64 m, .int .i64 e] 25)).alloc (.cells #[.int .i64 m', .int .i64 e'] 25)) := ((Below.refl _ _).alloc (Nat.le_refl _) _).alloc (by simp) _
  have E1 := (DecAt.new w m e 25).alloc (.cells #[.int .i64 m', .int .i64 e'] 25)
  have E2 := DecAt.new (w.alloc (.cells #[.int .i64 m, .int .i64 e] 25)) m' e' 25
  rw [show (w.alloc (.cells #[.int .i64 m, .int .i64 e] 25)).heap.size = w.heap.size + 1 by simp] at E2
  generalize (w.alloc (.cells #[.int .i64 m, .int .i64 e] 25)).alloc (.cells #[.int .i64 m', .int .i64 e'] 25) = w1 at *
  have HT1 := Lib.hid (HT.out.below hbb)
  obtain ⟨p0, p1, pf, pl⟩ := E1
  obtain ⟨q0, q1, qf, ql⟩ := E2
  have cA : Hid (∀ d os, Calls Tryd.prog 36 #[.agg #[.int .i64 m, .int .i64 e]] (grow (redrawn w1 d) os) fun e w'' => e = .returned (.string ⟨A.toArray⟩) ∧ ∃ p : Regrown, w'' = grow (redrawn w1 p.d) p.os) :=
    fun d os => Calls.regrown_of (DA.out _ (HT1.out.below (below_regrown w1 d os)))
  have cB : Hid (∀ d os, Calls Tryd.prog 36 #[.agg #[.int .i64 m', .int .i64 e']] (grow (redrawn w1 d) os) fun e w'' => e = .returned (.string ⟨B.toArray⟩) ∧ ∃ p : Regrown, w'' = grow (redrawn w1 p.d) p.os) :=
    fun d os => Calls.regrown_of (DB.out _ (HT1.out.below (below_regrown w1 d os)))
  have k0 := cell_regrown p0
  have k1 := cell_regrown p1
  have j0 := cell_regrown q0
  have j1 := cell_regrown q1
  refine wp_region_quiet_below mixed (by kernel_rfl) ?_
  repeat (quiet_step (first | with_reducible exact cA.out _ _ | with_reducible exact cB.out _ _))
  refine wpQuiet_nil ?_
  intro _ hw'
  obtain ⟨⟨dq, osq⟩, hw''⟩ := hw'
  subst hw''
  have r1 := k1 dq osq
  have s1 := j1 dq osq
  have hbb2 : Below w.heap.size w (grow (redrawn w1 dq) osq) := hbb.trans ((below_regrown w1 dq osq).mono hbb.size)
  clear k0 k1 j0 j1 p0 p1 pf q0 q1 qf cA cB DA DB
  generalize grow (redrawn w1 dq) osq = w2 at *
  rcases hc : (cmpI (A.length + e) (B.length + e') != 0) with _ | _
  · have hr : res = cmpS A B := by rw [HS.out, if_neg (by simpa using hc)]
    clear HS
    subst hr
    go_wp2_with (go_at_call 28; refine (compareI_any _ _ _).mono ?_; rintro e1 w' ⟨rfl, rfl⟩)
    (with_reducible refine (compareS_any _ _ _).mono ?_)
    rintro e1 w' ⟨rfl, rfl⟩
    go_wp2_with fail
    go_ret
    exact ⟨rfl, hbb2⟩
  · have hr : res = cmpI (A.length + e) (B.length + e') := by rw [HS.out, if_pos (by simpa using hc)]
    clear HS
    subst hr
    go_wp2_with (go_at_call 28; refine (compareI_any _ _ _).mono ?_; rintro e1 w' ⟨rfl, rfl⟩)
    go_ret
    exact ⟨rfl, hbb2⟩

set_option maxHeartbeats 1000000 in
theorem compare_any (m e m' e' : Int) (w : World) (ht : Tab w) :
    Calls Tryd.prog 24 #[.agg #[.int .i64 m, .int .i64 e], .agg #[.int .i64 m', .int .i64 e']] w (Ret (.int .i64 (cmpD m e m' e')) w) := by
  have HT := Lib.hid ht
  clear ht
  rcases h : rightB m e with _ | _
  · have a1 : cmpD m e m' e' = 0 := by unfold cmpD; rw [if_neg (by simp [h])]
    rw [a1]
    clear a1
    go_enter Tryd.func24, Tryd.ntmps24
    go_wp2_with fail
    (with_reducible refine (right_any _ _ _).mono ?_)
    rintro e1 w1 ⟨rfl, hb1⟩
    rw [h]
    have hbb := below_call (below_call hb1)
    clear hb1
    go_wp2_with fail
    go_ret
    exact ⟨rfl, hbb⟩
  · rcases h' : rightB m' e' with _ | _
    · have a1 : cmpD m e m' e' = 0 := by unfold cmpD; rw [if_neg (by simp [h'])]
      rw [a1]
      clear a1
      go_enter Tryd.func24, Tryd.ntmps24
      go_wp2_with fail
      (with_reducible refine (right_any _ _ _).mono ?_)
      rintro e1 w1 ⟨rfl, hb1⟩
      rw [h]
      have E2 := (DecAt.new (w.alloc (.cells #[.int .i64 m, .int .i64 e] 25)) m' e' 25).below hb1
      rw [show (w.alloc (.cells #[.int .i64 m, .int .i64 e] 25)).heap.size = w.heap.size + 1 by simp] at E2
      obtain ⟨q0, q1, qf, ql⟩ := E2
      have hbb := below_call (below_call hb1)
      clear hb1
      go_wp2_with fail
      (with_reducible refine (right_any _ _ _).mono ?_)
      rintro e1 w2 ⟨rfl, hb2⟩
      rw [h']
      have hbb2 : Below w.heap.size w w2 := hbb.trans (hb2.mono hbb.size)
      clear hb2
      go_wp2_with fail
      go_ret
      exact ⟨rfl, hbb2⟩
    · have a1 : cmpD m e m' e' = if cmpI (cmpI m 0) (cmpI m' 0) ≠ 0 then cmpI (cmpI m 0) (cmpI m' 0) else cmpI m 0 * sizeS m e m' e' := by
        rw [compare_val h h']; unfold cmpD; rw [if_pos ⟨h, h'⟩]
      have A1 := Lib.hid a1
      clear a1
      have SZ := Lib.hid (fun w ht => size_any m e m' e' w ht h h')
      obtain ⟨g1, g2⟩ := sizeS_range m e m' e'
      obtain ⟨g3, g4⟩ := cmpI_range m 0
      generalize cmpD m e m' e' = res at *
      generalize sizeS m e m' e' = sz at *
      have HH := Lib.hid h
      have HH' := Lib.hid h'
      clear h h'
      go_enter Tryd.func24, Tryd.ntmps24
      go_wp2_with fail
      (with_reducible refine (right_any _ _ _).mono ?_)
      rintro e1 w1 ⟨rfl, hb1⟩
      rw [HH.out]
      have E1 := ((DecAt.new w m e 25).alloc (.cells #[.int .i64 m', .int .i64 e'] 25)).below hb1
      have E2 := (DecAt.new (w.alloc (.cells #[.int .i64 m, .int .i64 e] 25)) m' e' 25).below hb1
      rw [show (w.alloc (.cells #[.int .i64 m, .int .i64 e] 25)).heap.size = w.heap.size + 1 by simp] at E2
      obtain ⟨q0, q1, qf, ql⟩ := E2
      have hbb := below_call (below_call hb1)
      clear hb1
      go_wp2_with fail
      (with_reducible refine (right_any _ _ _).mono ?_)
      rintro e1 w2 ⟨rfl, hb2⟩
      rw [HH'.out]
      have E2 := (⟨q0, q1, qf, ql⟩ : DecAt w1 (w.heap.size + 1) m' e').below hb2
      have E1 := E1.below hb2
      have hbb2 : Below w.heap.size w w2 := hbb.trans (hb2.mono hbb.size)
      clear hb2 q0 q1 qf ql hbb
      obtain ⟨q0, q1, qf, ql⟩ := E2
      obtain ⟨p0, p1, pf, pl⟩ := E1
      rcases hc : (cmpI (cmpI m 0) (cmpI m' 0) != 0) with _ | _
      · have hr : res = cmpI m 0 * sz := by rw [A1.out, if_neg (by simpa using hc)]
        clear A1
        subst hr
        have hmul : -1 ≤ cmpI m 0 * sz ∧ cmpI m 0 * sz ≤ 1 := by
          generalize cmpI m 0 = c at *
          have hc3 : c = -1 ∨ c = 0 ∨ c = 1 := by omega
          rcases hc3 with rfl | rfl | rfl <;> simp <;> omega
        obtain ⟨g5, g6⟩ := hmul
        go_wp2_with (go_at_call 28; refine (compareI_any _ _ _).mono ?_; rintro e1 w' ⟨rfl, rfl⟩)
        (with_reducible refine (SZ.out _ (HT.out.below hbb2)).mono ?_)
        rintro e1 w3 ⟨rfl, hb3⟩
        have hbb3 : Below w.heap.size w w3 := hbb2.trans (hb3.mono hbb2.size)
        clear hb3
        go_wp2_with fail
        go_ret
        exact ⟨rfl, hbb3⟩
      · have hr : res = cmpI (cmpI m 0) (cmpI m' 0) := by rw [A1.out, if_pos (by simpa using hc)]
        clear A1
        subst hr
        go_wp2_with (go_at_call 28; refine (compareI_any _ _ _).mono ?_; rintro e1 w' ⟨rfl, rfl⟩)
        go_ret
        exact ⟨rfl, hbb2⟩
end Go.Proofs.YtaggeebfdlkbhaaDoor
