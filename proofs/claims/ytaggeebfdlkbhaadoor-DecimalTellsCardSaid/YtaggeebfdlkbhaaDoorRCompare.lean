/- The contract of Compare of the document's answer. -/
import Derived.Test.YtaggeebfdlkbhaaDoorRText
set_option linter.unusedSimpArgs false
set_option linter.unusedVariables false
namespace Go.Proofs.YtaggeebfdlkbhaaDoor
open Go.RowKit Go.Sort

/-- The block, its number written otherwise. -/
theorem decAt_of {w : World} {b b' : Nat} {m e : Int} (h : DecAt w b m e) (hb : b = b') : DecAt w b' m e := hb ▸ h
theorem partsL_len {m e : Int} (h : rightB m e = true) : (partsL m e).length = 40 := by
  obtain ⟨b1, b2, b3, b4⟩ := rightB_bounds h
  have hl := decDigits_le b1 b2
  unfold partsL
  rw [List.length_append, List.length_append, zeros_length, zeros_length]
  omega
theorem partsL_digs (m e : Int) : Digs (partsL m e) := digs_append (digs_zeros _) (digs_append (decDigits_digs _) (digs_zeros _))
theorem partsL_val {m e : Int} : (valD (partsL m e) : Int) = sv m.natAbs e := by
  unfold partsL sv
  rw [valD_zeros_append, valD_append_zeros, decDigits_val]
  simp
theorem parts_less {m e m' e' : Int} (h : rightB m e = true) (h' : rightB m' e' = true) : Op.bytesLess (partsL m e) (partsL m' e') = decide (sv m.natAbs e < sv m'.natAbs e') := by
  have l1 := partsL_len h
  have l2 := partsL_len h'
  have d1 := partsL_digs m e
  have d2 := partsL_digs m' e'
  rw [← partsL_val (m := m) (e := e), ← partsL_val (m := m') (e := e')]
  generalize partsL m e = A at *
  generalize partsL m' e' = B at *
  have fA : fv 40 A = valD A := by unfold fv; rw [l1]; simp
  have fB : fv 40 B = valD B := by unfold fv; rw [l2]; simp
  rcases hAB : Op.bytesLess A B with _ | _
  · symm
    rw [decide_eq_false_iff_not]
    intro hlt
    rcases hBA : Op.bytesLess B A with _ | _
    · have := less_total A B hAB hBA
      rw [this] at hlt; omega
    · have := less_fv d2 d1 (N := 40) (by omega) (by omega) (.inr (by omega)) hBA
      omega
  · symm
    rw [decide_eq_true_eq]
    have := less_fv d1 d2 (N := 40) (by omega) (by omega) (.inr (by omega)) hAB
    omega

set_option maxHeartbeats 1000000 in
theorem rcompare_no (m e m' e' : Int) (w : World) (hm0 : -9223372036854775808 ≤ m) (hm1 : m ≤ 9223372036854775807) (he0 : -9223372036854775808 ≤ e) (he1 : e ≤ 9223372036854775807)
    (hn0 : -9223372036854775808 ≤ m') (hn1 : m' ≤ 9223372036854775807) (hf0 : -9223372036854775808 ≤ e') (hf1 : e' ≤ 9223372036854775807) (r1 r2 : Bool) (H : Hid (rightB m e = r1)) (H' : Hid (rightB m' e' = r2)) (hr : r1 = false ∨ (r1 = true ∧ r2 = false)) :
    Calls Tryd.prog 25 #[.agg #[.int .i64 m, .int .i64 e], .agg #[.int .i64 m', .int .i64 e']] w (Ret (.int .i64 0) w) := by
  go_enter Tryd.func25, Tryd.ntmps25
  go_wp2_with fail
  (with_reducible refine (rright_any _ _ _ hm0 hm1 he0 he1).mono ?_)
  rintro e1 w1 ⟨rfl, hb1⟩
  rw [H.out]
  have E2 := decAt_of (b' := w.heap.size + 1) ((DecAt.new _ m' e' _).below hb1) (by simp)
  obtain ⟨q0, q1, qf, ql⟩ := E2
  have hbb := below_call (below_call hb1)
  clear hb1
  go_wp2_with fail
  (with_reducible refine (rright_any _ _ _ hn0 hn1 hf0 hf1).mono ?_)
  rintro e1 w2 ⟨rfl, hb2⟩
  rw [H'.out]
  have hbb2 : Below w.heap.size w w2 := hbb.trans (hb2.mono hbb.size)
  clear hb2 q0 q1 qf ql hbb
  rcases hr with rfl | ⟨rfl, rfl⟩
  · go_wp2_with fail
    go_ret
    exact ⟨rfl, hbb2⟩
  · go_wp2_with fail
    go_ret
    exact ⟨rfl, hbb2⟩

/-- What the document's Compare reckons of unlike decimals. -/
def rcmp (m m' : Int) (L : Bool) : Int :=
  if m < 0 ∧ 0 ≤ m' then -1 else if 0 ≤ m ∧ m' < 0 then 1 else if (if m < 0 then !L else L) = true then -1 else 1
theorem rcmp_val {m e m' e' : Int} (h : rightB m e = true) (h' : rightB m' e' = true) (hne : ¬ (m = m' ∧ e = e')) : rcmp m m' (decide (sv m.natAbs e < sv m'.natAbs e')) = cmpD m e m' e' := by
  have hv : sv m e ≠ sv m' e' := fun hh => hne (sv_inj h h' hh)
  have hcd : cmpD m e m' e' = cmpI (sv m e) (sv m' e') := by unfold cmpD; rw [if_pos ⟨h, h'⟩]
  rw [hcd]
  unfold rcmp
  have key : ∀ x y : Int, (x < y → cmpI x y = -1) ∧ (y < x → cmpI x y = 1) := fun x y => ⟨cmpI_less, cmpI_more⟩
  have k := key (sv m e) (sv m' e')
  by_cases hm : m < 0
  · have s1 := sv_lt (e := e) hm
    have n1 : sv m e = -sv m.natAbs e := by rw [← sv_neg]; congr 1; omega
    by_cases hm' : m' < 0
    · have n2 : sv m' e' = -sv m'.natAbs e' := by rw [← sv_neg]; congr 1; omega
      rw [if_neg (by omega), if_neg (by omega), if_pos hm]
      by_cases hl : sv m.natAbs e < sv m'.natAbs e'
      · rw [if_neg (by simp [hl]), k.2 (by omega)]
      · rw [if_pos (by simp [hl]), k.1 (by omega)]
    · have s2 : 0 ≤ sv m' e' := by
        rcases Int.lt_or_eq_of_le (Int.not_lt.1 hm') with h0 | h0
        · exact Int.le_of_lt (sv_pos h0)
        · rw [← h0, sv_zero]; exact Int.le_refl 0
      rw [if_pos ⟨hm, by omega⟩, k.1 (by omega)]
  · have s1 : 0 ≤ sv m e := by
      rcases Int.lt_or_eq_of_le (Int.not_lt.1 hm) with h0 | h0
      · exact Int.le_of_lt (sv_pos h0)
      · rw [← h0, sv_zero]; exact Int.le_refl 0
    by_cases hm' : m' < 0
    · have s2 := sv_lt (e := e') hm'
      rw [if_neg (by omega), if_pos ⟨by omega, hm'⟩, k.2 (by omega)]
    · rw [if_neg (by omega), if_neg (by omega), if_neg hm]
      have n1 : (m.natAbs : Int) = m := by omega
      have n2 : (m'.natAbs : Int) = m' := by omega
      rw [n1, n2]
      by_cases hl : sv m e < sv m' e'
      · rw [if_pos (by simp [hl]), k.1 hl]
      · rw [if_neg (by simp [hl]), k.2 (by omega)]

set_option maxHeartbeats 2000000 in
theorem rcompare_yes (m e m' e' : Int) (w : World) (h : rightB m e = true) (h' : rightB m' e' = true) :
    Calls Tryd.prog 25 #[.agg #[.int .i64 m, .int .i64 e], .agg #[.int .i64 m', .int .i64 e']] w (Ret (.int .i64 (cmpD m e m' e')) w) := by
  obtain ⟨b1, b2, b3, b4⟩ := rightB_bounds h
  obtain ⟨c1, c2, c3, c4⟩ := rightB_bounds h'
  have PA := Lib.hid (fun w => parts_any m e w h)
  have PB := Lib.hid (fun w => parts_any m' e' w h')
  have hP := parts_less h h'
  have HEQ : Hid (m = m' → e = e' → cmpD m e m' e' = 0) := fun hm he => by subst hm he; unfold cmpD; rw [if_pos ⟨h, h'⟩, cmpI_eq rfl]
  have HNE : Hid (¬ (m = m' ∧ e = e') → rcmp m m' (Op.bytesLess (partsL m e) (partsL m' e')) = cmpD m e m' e') := fun hn => by rw [hP]; exact rcmp_val h h' hn
  have H := Lib.hid h
  have H' := Lib.hid h'
  clear h h' hP
  generalize partsL m e = A at *
  generalize partsL m' e' = B at *
  generalize cmpD m e m' e' = res at *
  go_enter Tryd.func25, Tryd.ntmps25
  go_wp2_with fail
  (with_reducible refine (rright_any _ _ _ (by omega) (by omega) (by omega) (by omega)).mono ?_)
  rintro e1 w1 ⟨rfl, hb1⟩
  rw [H.out]
  have E1 := ((DecAt.new w m e _).alloc _).below hb1
  have E2 := decAt_of (b' := w.heap.size + 1) ((DecAt.new _ m' e' _).below hb1) (by simp)
  have E2c := E2
  obtain ⟨q0, q1, qf, ql⟩ := E2c
  have hbb := below_call (below_call hb1)
  clear hb1
  go_wp2_with fail
  (with_reducible refine (rright_any _ _ _ (by omega) (by omega) (by omega) (by omega)).mono ?_)
  rintro e1 w2 ⟨rfl, hb2⟩
  rw [H'.out]
  have E1 := E1.below hb2
  have E2 := E2.below hb2
  have hbb2 : Below w.heap.size w w2 := hbb.trans (hb2.mono hbb.size)
  clear hb2 q0 q1 qf ql hbb
  obtain ⟨q0, q1, qf, ql⟩ := E2
  obtain ⟨p0, p1, pf, pl⟩ := E1
  by_cases hm : m = m' ∧ e = e'
  · obtain ⟨rfl, rfl⟩ := hm
    have hr := HEQ.out rfl rfl
    subst hr
    clear HEQ HNE
    go_wp2_with fail
    go_ret
    exact ⟨rfl, hbb2⟩
  · have hr := HNE.out hm
    have hm2 : ¬ m = m' ∨ (m = m' ∧ ¬ e = e') := by
      by_cases hmm : m = m'
      · exact .inr ⟨hmm, fun he => hm ⟨hmm, he⟩⟩
      · exact .inl hmm
    clear HEQ HNE hm
    have cA : Hid (∀ d os, Calls Tryd.prog 39 #[.agg #[.int .i64 m, .int .i64 e]] (grow (redrawn w2 d) os) fun e w'' => e = .returned (.string ⟨A.toArray⟩) ∧ ∃ p : Regrown, w'' = grow (redrawn w2 p.d) p.os) :=
      fun d os => Calls.regrown_of (PA.out _)
    have cB : Hid (∀ d os, Calls Tryd.prog 39 #[.agg #[.int .i64 m', .int .i64 e']] (grow (redrawn w2 d) os) fun e w'' => e = .returned (.string ⟨B.toArray⟩) ∧ ∃ p : Regrown, w'' = grow (redrawn w2 p.d) p.os) :=
      fun d os => Calls.regrown_of (PB.out _)
    have k0 := cell_regrown p0
    have k1 := cell_regrown p1
    have j0 := cell_regrown q0
    have j1 := cell_regrown q1
    clear PA PB
    have HR := Lib.hid hr
    clear hr
    by_cases hs1 : m < 0 ∧ 0 ≤ m'
    · have hres : res = -1 := by rw [← HR.out]; unfold rcmp; rw [if_pos hs1]
      clear HR
      subst hres
      obtain ⟨s1, s2⟩ := hs1
      rcases hm2 with hm2 | ⟨rfl, hm2⟩
      · go_wp2_with fail
        go_ret
        exact ⟨rfl, hbb2⟩
      · omega
    · by_cases hs2 : 0 ≤ m ∧ m' < 0
      · have hres : res = 1 := by rw [← HR.out]; unfold rcmp; rw [if_neg hs1, if_pos hs2]
        clear HR hs1
        subst hres
        obtain ⟨s1, s2⟩ := hs2
        rcases hm2 with hm2 | ⟨rfl, hm2⟩
        · go_wp2_with fail
          go_ret
          exact ⟨rfl, hbb2⟩
        · omega
      · have hres : res = if (if m < 0 then !(Op.bytesLess A B) else Op.bytesLess A B) = true then -1 else 1 := by rw [← HR.out]; unfold rcmp; rw [if_neg hs1, if_neg hs2]
        have HRES := Lib.hid hres
        clear HR hres
        have hsg : (m < 0 ∧ m' < 0) ∨ (0 ≤ m ∧ 0 ≤ m') := by omega
        clear hs1 hs2
        rcases hL : Op.bytesLess A B with _ | _
        all_goals
          rcases hsg with ⟨s1, s2⟩ | ⟨s1, s2⟩
          all_goals
            rcases hm2 with hm2 | ⟨rfl, hm2⟩
            all_goals
              go_wp2_with fail
              refine wp_region_quiet_below mixed (by kernel_rfl) ?_
              repeat (quiet_step (first | with_reducible exact cA.out _ _ | with_reducible exact cB.out _ _))
              refine wpQuiet_nil ?_
              intro _ hw'
              obtain ⟨⟨dq, osq⟩, hw''⟩ := hw'
              subst hw''
              have r0 := k0 dq osq
              have hbb3 : Below w.heap.size w (grow (redrawn w2 dq) osq) := hbb2.trans ((below_regrown w2 dq osq).mono hbb2.size)
              generalize grow (redrawn w2 dq) osq = w3 at *
              clear k0 k1 j0 j1
              go_wp2_with fail
              go_ret
              refine ⟨ret_int ?_, hbb3⟩
              rw [HRES.out, hL]
              first
                | (rw [if_pos s1]; rfl)
                | (rw [if_neg (show ¬ m < 0 by omega)]; rfl)

theorem rcompare_any (m e m' e' : Int) (w : World) (hm0 : -9223372036854775808 ≤ m) (hm1 : m ≤ 9223372036854775807) (he0 : -9223372036854775808 ≤ e) (he1 : e ≤ 9223372036854775807)
    (hn0 : -9223372036854775808 ≤ m') (hn1 : m' ≤ 9223372036854775807) (hf0 : -9223372036854775808 ≤ e') (hf1 : e' ≤ 9223372036854775807) :
    Calls Tryd.prog 25 #[.agg #[.int .i64 m, .int .i64 e], .agg #[.int .i64 m', .int .i64 e']] w (Ret (.int .i64 (cmpD m e m' e')) w) := by
  rcases h : rightB m e with _ | _
  · have : cmpD m e m' e' = 0 := by unfold cmpD; rw [if_neg (by simp [h])]
    rw [this]
    exact rcompare_no m e m' e' w hm0 hm1 he0 he1 hn0 hn1 hf0 hf1 _ _ h rfl (.inl rfl)
  · rcases h' : rightB m' e' with _ | _
    · have : cmpD m e m' e' = 0 := by unfold cmpD; rw [if_neg (by simp [h'])]
      rw [this]
      exact rcompare_no m e m' e' w hm0 hm1 he0 he1 hn0 hn1 hf0 hf1 _ _ h h' (.inr ⟨rfl, rfl⟩)
    · exact rcompare_yes m e m' e' w h h'
end Go.Proofs.YtaggeebfdlkbhaaDoor
