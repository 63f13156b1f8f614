/- The contract of Add of the program. -/
import Derived.Test.YtaggeebfdlkbhaaDoorCompare
import Derived.Test.YtaggeebfdlkbhaaDoorAddMath
set_option linter.unusedSimpArgs false
set_option linter.unusedVariables false
namespace Go.Proofs.YtaggeebfdlkbhaaDoor
open Go.RowKit Go.Sort

theorem raise_int (n y b : Int) (w : World) (hy0 : 0 ≤ y) (hy : y ≤ 100) (hb0 : 0 ≤ b) (hb1 : b ≤ 1000000000000000000) (hb : b % 10 = 0) (hn0 : -b ≤ n) (hn1 : n ≤ b) :
    Calls Tryd.prog 33 #[.int .i64 n, .int .i64 y, .int .i64 b] w (fun e w' => e = .returned (rsV (raiseS n y.toNat b)) ∧ w = w') := by
  obtain ⟨x, rfl⟩ := Int.eq_ofNat_of_zero_le hy0
  exact raise_any n x b w (by omega) hb0 hb1 hb hn0 hn1

/-- Two cells of a block, behind a call; the block's address written out. -/
theorem decAt_at {w : World} {b b' : Nat} {m e : Int} (h : DecAt w b m e) (hb : b = b') : DecAt w b' m e := hb ▸ h

theorem DecAt.far {w : World} {b : Nat} {m e : Int} (h : DecAt w b m e) {a : Addr} (ha : a.block ≠ b) (u : Value) : DecAt (w.setCell a u) b m e :=
  ⟨by rw [World.cell?_setCell_other _ _ _ _ (by intro e; subst e; exact ha rfl)]; exact h.c0, by rw [World.cell?_setCell_other _ _ _ _ (by intro e; subst e; exact ha rfl)]; exact h.c1,
    fun o => by rw [World.frozen?_setCell]; exact h.fz o, by simpa [World.setCell] using h.lt⟩
theorem raise_of {n b : Int} {x : Nat} (h : -b ≤ n * 10 ^ x ∧ n * 10 ^ x ≤ b) : raiseS n x b = (n * 10 ^ x, true) := by unfold raiseS; rw [if_pos h]
theorem raise_not {n b : Int} {x : Nat} (h : ¬ (-b ≤ n * 10 ^ x ∧ n * 10 ^ x ≤ b)) : raiseS n x b = (0, false) := by unfold raiseS; rw [if_neg h]

set_option maxHeartbeats 2000000 in
theorem add_no (m e m' e' : Int) (w : World) (h : ¬ (rightB m e = true ∧ rightB m' e' = true)) :
    Calls Tryd.prog 16 #[.agg #[.int .i64 m, .int .i64 e], .agg #[.int .i64 m', .int .i64 e']] w (Ret (mkV (0, 0, false)) w) := by
  rcases h1 : rightB m e with _ | _
  · clear h
    go_enter Tryd.func16, Tryd.ntmps16
    go_wp2_with fail
    (with_reducible refine (right_any _ _ _).mono ?_)
    rintro e1 w1 ⟨rfl, hb1⟩
    rw [h1]
    have R := decAt_at (b' := w.heap.size + 1 + 1) ((DecAt.new _ 0 0 _).below hb1) (by simp)
    obtain ⟨r0, r1, rf, rl⟩ := R
    have hbb := below_call (below_call (below_call hb1))
    clear hb1
    go_wp2_with fail
    exact bodyPost_ret (v := mkV (0, 0, false)) (by simp [mkV, results, Tryd.results16, go_sem, r0, r1]) rfl ⟨rfl, by repeat (first | exact hbb | refine Below.setCell ?_ (by simp; omega) _)⟩
  · have h2 : rightB m' e' = false := by
      rcases hh : rightB m' e' with _ | _
      · rfl
      · exact absurd ⟨h1, hh⟩ h
    clear h
    go_enter Tryd.func16, Tryd.ntmps16
    go_wp2_with fail
    (with_reducible refine (right_any _ _ _).mono ?_)
    rintro e1 w1 ⟨rfl, hb1⟩
    rw [h1]
    have R := decAt_at (b' := w.heap.size + 1 + 1) ((DecAt.new _ 0 0 _).below hb1) (by simp)
    have Q := decAt_at (b' := w.heap.size + 1) (((DecAt.new _ m' e' _).alloc _).below hb1) (by simp)
    obtain ⟨q0, q1, qf, ql⟩ := Q
    have hbb := below_call (below_call (below_call hb1))
    clear hb1
    go_wp2_with fail
    (with_reducible refine (right_any _ _ _).mono ?_)
    rintro e1 w2 ⟨rfl, hb2⟩
    rw [h2]
    have R := R.below hb2
    obtain ⟨r0, r1, rf, rl⟩ := R
    have hbb2 : Below w.heap.size w w2 := hbb.trans (hb2.mono hbb.size)
    clear hb2
    go_wp2_with fail
    exact bodyPost_ret (v := mkV (0, 0, false)) (by simp [mkV, results, Tryd.results16, go_sem, r0, r1]) rfl ⟨rfl, by repeat (first | exact hbb2 | refine Below.setCell ?_ (by simp; omega) _)⟩

set_option maxHeartbeats 4000000 in
theorem add_yes (m e m' e' : Int) (w : World) (h : rightB m e = true) (h' : rightB m' e' = true) :
    Calls Tryd.prog 16 #[.agg #[.int .i64 m, .int .i64 e], .agg #[.int .i64 m', .int .i64 e']] w (Ret (mkV (addS m e m' e')) w) := by
  obtain ⟨x1, x2, x3, x4⟩ := rightB_bounds h
  obtain ⟨y1, y2, y3, y4⟩ := rightB_bounds h'
  have H := Lib.hid h
  have H' := Lib.hid h'
  clear h h'
  go_enter Tryd.func16, Tryd.ntmps16
  go_wp2_with fail
  (with_reducible refine (right_any _ _ _).mono ?_)
  rintro e1 w1 ⟨rfl, hb1⟩
  rw [H.out]
  have R := decAt_at (b' := w.heap.size + 1 + 1) ((DecAt.new _ 0 0 _).below hb1) (by simp)
  have Q := decAt_at (b' := w.heap.size + 1) (((DecAt.new _ m' e' _).alloc _).below hb1) (by simp)
  have P := (((DecAt.new w m e _).alloc _).alloc _).below hb1
  have Qc := Q
  obtain ⟨q0, q1, qf, ql⟩ := Qc
  have hbb := below_call (below_call (below_call hb1))
  clear hb1
  go_wp2_with fail
  (with_reducible refine (right_any _ _ _).mono ?_)
  rintro e1 w2 ⟨rfl, hb2⟩
  rw [H'.out]
  have R := R.below hb2
  have Q := Q.below hb2
  have P := P.below hb2
  have hbb2 : Below w.heap.size w w2 := hbb.trans (hb2.mono hbb.size)
  clear hb2 q0 q1 qf ql hbb
  obtain ⟨r0, r1, rf, rl⟩ := R
  obtain ⟨q0, q1, qf, ql⟩ := Q
  obtain ⟨p0, p1, pf, pl⟩ := P
  by_cases hm : m = 0
  · have t1 : (m == 0) = true := by simp [hm]
    have a1 : addS m e m' e' = (m', e', true) := by
      have := H.out
      rw [hm] at this
      rw [hm]; exact addS_zero this H'.out
    have A1 := Lib.hid a1
    clear a1 hm
    go_wp2_with fail
    rw [A1.out]
    exact bodyPost_ret (v := mkV (m', e', true)) (by simp [mkV, results, Tryd.results16, go_sem, r0, r1]) rfl ⟨rfl, by repeat (first | exact hbb2 | refine Below.setCell ?_ (by simp; omega) _)⟩
  · have t1 : (m == 0) = false := by simp [hm]
    by_cases hm' : m' = 0
    · have t2 : (m' == 0) = true := by simp [hm']
      have a1 : addS m e m' e' = (m, e, true) := by
        have := H'.out
        rw [hm'] at this
        rw [addS_comm, hm']; exact addS_zero this H.out
      have A1 := Lib.hid a1
      clear a1 hm hm'
      go_wp2_with fail
      rw [A1.out]
      exact bodyPost_ret (v := mkV (m, e, true)) (by simp [mkV, results, Tryd.results16, go_sem, r0, r1]) rfl ⟨rfl, by repeat (first | exact hbb2 | refine Below.setCell ?_ (by simp; omega) _)⟩
    · have t2 : (m' == 0) = false := by simp [hm']
      have HM := Lib.hid hm
      have HM' := Lib.hid hm'
      clear hm hm'
      by_cases hle : e' ≤ e
      · have hcc : 0 ≤ cmpI e e' := cmpI_ge hle
        go_wp2_with (go_at_call 28; refine (compareI_any _ _ _).mono ?_; rintro e1 w' ⟨rfl, rfl⟩)
        (with_reducible refine (raise_int _ _ _ _ (by omega) (by omega) (by omega) (by omega) (by omega) (by omega) (by omega)).mono ?_)
        rintro e1 w3 ⟨rfl, rfl⟩
        by_cases hf : -2000000000000000 ≤ m * 10 ^ (e - e').toNat ∧ m * 10 ^ (e - e').toNat ≤ 2000000000000000
        · have HA := Lib.hid (addS_val H.out H'.out hle)
          rw [raise_of hf]
          unfold rsV
          obtain ⟨v1, v2⟩ := hf
          generalize m * 10 ^ (e - e').toNat = V at *
          go_wp2_with fail
          (with_reducible refine (make_any _ _ _ (by omega) (by omega) (by omega)).mono ?_)
          rintro e1 w4 ⟨rfl, hb4⟩
          rw [← HA.out]
          have R := (⟨r0, r1, rf, rl⟩ : DecAt w2 (w.heap.size + 1 + 1) 0 0).below hb4
          have hbb4 : Below w.heap.size w w4 := hbb2.trans (hb4.mono hbb2.size)
          clear hb4 r0 r1 rf rl HA
          obtain ⟨r0, r1, rf, rl⟩ := R
          generalize addS m e m' e' = res at *
          obtain ⟨z1, z2, z3⟩ := res
          unfold mkV at *
          go_wp2_with fail
          exact bodyPost_ret (v := mkV (z1, z2, z3)) (by simp [mkV, results, Tryd.results16, go_sem, r0, r1]) rfl ⟨rfl, by repeat (first | exact hbb4 | refine Below.setCell ?_ (by simp; omega) _)⟩
        · have HA := Lib.hid (addS_far H.out H'.out HM'.out hle (by omega))
          rw [raise_not hf]
          unfold rsV
          clear hf
          go_wp2_with fail
          rw [HA.out]
          exact bodyPost_ret (v := mkV (0, 0, false)) (by simp [mkV, results, Tryd.results16, go_sem, r0, r1]) rfl ⟨rfl, by repeat (first | exact hbb2 | refine Below.setCell ?_ (by simp; omega) _)⟩
      · have hcc : cmpI e e' < 0 := cmpI_lt (by omega)
        have hle' : e ≤ e' := by omega
        go_wp2_with (go_at_call 28; refine (compareI_any _ _ _).mono ?_; rintro e1 w' ⟨rfl, rfl⟩)
        (with_reducible refine (raise_int _ _ _ _ (by omega) (by omega) (by omega) (by omega) (by omega) (by omega) (by omega)).mono ?_)
        rintro e1 w3 ⟨rfl, rfl⟩
        by_cases hf : -2000000000000000 ≤ m' * 10 ^ (e' - e).toNat ∧ m' * 10 ^ (e' - e).toNat ≤ 2000000000000000
        · have HA := Lib.hid (addS_val H'.out H.out hle')
          rw [addS_comm] at HA
          rw [raise_of hf]
          unfold rsV
          obtain ⟨v1, v2⟩ := hf
          generalize m' * 10 ^ (e' - e).toNat = V at *
          go_wp2_with fail
          (with_reducible refine (make_any _ _ _ (by omega) (by omega) (by omega)).mono ?_)
          rintro e1 w4 ⟨rfl, hb4⟩
          rw [← HA.out]
          have R := (((((⟨r0, r1, rf, rl⟩ : DecAt w2 (w.heap.size + 1 + 1) 0 0).far (by simp; omega) _).far (by simp; omega) _).far (by simp) _).far (by simp) _).below hb4
          have hbb3 := (((hbb2.setCell (p := ⟨w.heap.size, 0, none⟩) (by simp) (.int .i64 m')).setCell (p := ⟨w.heap.size, 1, none⟩) (by simp) (.int .i64 e')).setCell (p := ⟨w.heap.size + 1, 0, none⟩) (by simp) (.int .i64 m)).setCell (p := ⟨w.heap.size + 1, 1, none⟩) (by simp) (.int .i64 e)
          have hbb4 : Below w.heap.size w w4 := hbb3.trans (hb4.mono hbb3.size)
          clear hb4 r0 r1 rf rl HA hbb3
          obtain ⟨r0, r1, rf, rl⟩ := R
          generalize addS m e m' e' = res at *
          obtain ⟨z1, z2, z3⟩ := res
          unfold mkV at *
          go_wp2_with fail
          exact bodyPost_ret (v := mkV (z1, z2, z3)) (by simp [mkV, results, Tryd.results16, go_sem, r0, r1]) rfl ⟨rfl, by repeat (first | exact hbb4 | refine Below.setCell ?_ (by simp; omega) _)⟩
        · have HA := Lib.hid (addS_far H'.out H.out HM.out hle' (by omega))
          rw [addS_comm] at HA
          rw [raise_not hf]
          unfold rsV
          clear hf
          go_wp2_with fail
          rw [HA.out]
          exact bodyPost_ret (v := mkV (0, 0, false)) (by simp [mkV, results, Tryd.results16, go_sem, r0, r1]) rfl ⟨rfl, by repeat (first | exact hbb2 | refine Below.setCell ?_ (by simp; omega) _ | refine Below.setCell ?_ (by simp) _)⟩

theorem add_any (m e m' e' : Int) (w : World) :
    Calls Tryd.prog 16 #[.agg #[.int .i64 m, .int .i64 e], .agg #[.int .i64 m', .int .i64 e']] w (Ret (mkV (addS m e m' e')) w) := by
  by_cases h : rightB m e = true ∧ rightB m' e' = true
  · exact add_yes m e m' e' w h.1 h.2
  · rw [addS_no h]; exact add_no m e m' e' w h
end Go.Proofs.YtaggeebfdlkbhaaDoor
