/- The contract of Add of the document's answer. -/
import Derived.Test.YtaggeebfdlkbhaaDoorAdd
set_option linter.unusedSimpArgs false
set_option linter.unusedVariables false
namespace Go.Proofs.YtaggeebfdlkbhaaDoor
open Go.RowKit Go.Sort

set_option maxHeartbeats 2000000 in
theorem radd_no (m e m' e' : Int) (w : World) (hm0 : -9223372036854775808 ≤ m) (hm1 : m ≤ 9223372036854775807) (he0 : -9223372036854775808 ≤ e) (he1 : e ≤ 9223372036854775807)
    (hn0 : -9223372036854775808 ≤ m') (hn1 : m' ≤ 9223372036854775807) (hf0 : -9223372036854775808 ≤ e') (hf1 : e' ≤ 9223372036854775807) (r1 r2 : Bool) (H : Hid (rightB m e = r1)) (H' : Hid (rightB m' e' = r2)) (hr : r1 = false ∨ (r1 = true ∧ r2 = false)) :
    Calls Tryd.prog 17 #[.agg #[.int .i64 m, .int .i64 e], .agg #[.int .i64 m', .int .i64 e']] w (Ret (mkV (0, 0, false)) w) := by
  go_enter Tryd.func17, Tryd.ntmps17
  go_wp2_with fail
  (with_reducible refine (rright_any _ _ _ hm0 hm1 he0 he1).mono ?_)
  rintro e1 w1 ⟨rfl, hb1⟩
  rw [H.out]
  have R := decAt_at (b' := w.heap.size + 1 + 1) ((DecAt.new _ 0 0 _).below hb1) (by simp)
  have Q := decAt_at (b' := w.heap.size + 1) (((DecAt.new _ m' e' _).alloc _).below hb1) (by simp)
  obtain ⟨q0, q1, qf, ql⟩ := Q
  have hbb := below_call (below_call (below_call hb1))
  clear hb1
  go_wp2_with fail
  (with_reducible refine (rright_any _ _ _ hn0 hn1 hf0 hf1).mono ?_)
  rintro e1 w2 ⟨rfl, hb2⟩
  rw [H'.out]
  have R := R.below hb2
  obtain ⟨u0, u1, uf, ul⟩ := R
  have hbb2 : Below w.heap.size w w2 := hbb.trans (hb2.mono hbb.size)
  clear hb2 q0 q1 qf ql hbb
  rcases hr with rfl | ⟨rfl, rfl⟩
  all_goals
    go_wp2_with fail
    exact bodyPost_ret (v := mkV (0, 0, false)) (by simp [mkV, results, Tryd.results17, go_sem, u0, u1]) rfl ⟨rfl, by repeat (first | exact hbb2 | refine Below.setCell ?_ (by simp; omega) _)⟩

theorem far_pow {m : Int} {j k : Nat} {q : Int} (hq : q = m * 10 ^ j) (hj : j ≤ k) (h : q < -288230376151711744 ∨ 288230376151711744 < q) : m * 10 ^ k < -2000000000000000 ∨ 2000000000000000 < m * 10 ^ k := by
  rw [pow_split hj, ← hq]
  rcases h with h | h
  · left
    have := le_mul_pow (q := -q) (b := 2000000000000000) (k - j) (by omega) (by omega)
    rw [Int.neg_mul] at this
    omega
  · right
    exact le_mul_pow (q := q) (b := 2000000000000000) (k - j) (by omega) (by omega)

set_option maxHeartbeats 4000000 in
theorem radd_yes (m e m' e' : Int) (w : World) (h : rightB m e = true) (h' : rightB m' e' = true) :
    Calls Tryd.prog 17 #[.agg #[.int .i64 m, .int .i64 e], .agg #[.int .i64 m', .int .i64 e']] w (Ret (mkV (addS m e m' e')) w) := by
  obtain ⟨x1, x2, x3, x4⟩ := rightB_bounds h
  obtain ⟨y1, y2, y3, y4⟩ := rightB_bounds h'
  have H := Lib.hid h
  have H' := Lib.hid h'
  clear h h'
  go_enter Tryd.func17, Tryd.ntmps17
  go_wp2_with fail
  (with_reducible refine (rright_any _ _ _ (by omega) (by omega) (by omega) (by omega)).mono ?_)
  rintro e1 w1 ⟨rfl, hb1⟩
  rw [H.out]
  have R := decAt_at (b' := w.heap.size + 1 + 1) ((DecAt.new _ 0 0 _).below hb1) (by simp)
  have Q := decAt_at (b' := w.heap.size + 1) (((DecAt.new _ m' e' _).alloc _).below hb1) (by simp)
  have P := (((DecAt.new w m e _).alloc _).alloc _).below hb1
  have Qc := Q
  obtain ⟨q0, q1, qf, ql⟩ := Qc
  have hbb := below_call (below_call (below_call hb1))
  clear hb1
  go_wp2_with fail
  (with_reducible refine (rright_any _ _ _ (by omega) (by omega) (by omega) (by omega)).mono ?_)
  rintro e1 w2 ⟨rfl, hb2⟩
  rw [H'.out]
  have R := R.below hb2
  have Q := Q.below hb2
  have P := P.below hb2
  have hbb2 : Below w.heap.size w w2 := hbb.trans (hb2.mono hbb.size)
  clear hb2 q0 q1 qf ql hbb
  obtain ⟨r0, r1, rf, rl⟩ := R
  obtain ⟨q0, q1, qf, ql⟩ := Q
  obtain ⟨p0, p1, pf, pl⟩ := P
  by_cases hm : m = 0
  · have t1 : (m == 0) = true := by simp [hm]
    have a1 : addS m e m' e' = (m', e', true) := by
      have := H.out
      rw [hm] at this
      rw [hm]; exact addS_zero this H'.out
    have A1 := Lib.hid a1
    clear a1 hm
    go_wp2_with fail
    rw [A1.out]
    exact bodyPost_ret (v := mkV (m', e', true)) (by simp [mkV, results, Tryd.results17, go_sem, r0, r1]) rfl ⟨rfl, by repeat (first | exact hbb2 | refine Below.setCell ?_ (by simp; omega) _)⟩
  · have t1 : (m == 0) = false := by simp [hm]
    by_cases hm' : m' = 0
    · have t2 : (m' == 0) = true := by simp [hm']
      have a1 : addS m e m' e' = (m, e, true) := by
        have := H'.out
        rw [hm'] at this
        rw [addS_comm, hm']; exact addS_zero this H.out
      have A1 := Lib.hid a1
      clear a1 hm hm'
      go_wp2_with fail
      rw [A1.out]
      exact bodyPost_ret (v := mkV (m, e, true)) (by simp [mkV, results, Tryd.results17, go_sem, r0, r1]) rfl ⟨rfl, by repeat (first | exact hbb2 | refine Below.setCell ?_ (by simp; omega) _)⟩
    · have t2 : (m' == 0) = false := by simp [hm']
      have HM := Lib.hid hm
      have HM' := Lib.hid hm'
      clear hm hm'
      by_cases hle : e' ≤ e
      · go_wp2_with fail
        rw [show min e e' = e' by omega]
        obtain ⟨k, hk⟩ := Int.eq_ofNat_of_zero_le (a := e - e') (by omega)
        have hk18 : k ≤ 18 := by omega
        have hke : e' + k ≤ e := by omega
        have hke2 : e ≤ e' + k := by omega
        have FAR : Hid (m * 10 ^ k < -2000000000000000 ∨ 2000000000000000 < m * 10 ^ k → addS m e m' e' = (0, 0, false)) := fun hf => addS_far H.out H'.out HM'.out hle (by rw [hk]; exact hf)
        have VAL : Hid (addS m e m' e' = mk (m * 10 ^ k + m') e') := by show _ = _; rw [addS_val H.out H'.out hle, hk]; rfl
        clear hk
        go_loop [9, 11] (fun a i => ∃ (j : Nat) (q : Int), a = .int .i64 q ∧ i = .int .i64 (e' + j) ∧ j ≤ k ∧ -2882303761517117440 ≤ q ∧ q ≤ 2882303761517117440 ∧ Hid (q = m * 10 ^ j)) (fun _ i => (e - intOf i).toNat)
        case atStart => exact ⟨0, m, rfl, by simp, by omega, by omega, by omega, by show _ = _; simp⟩
        case round =>
          obtain ⟨j, q, rfl, rfl, hj, hq0, hq1, hq⟩ := hrel
          by_cases hlt : j < k
          · by_cases hw : q ≤ 288230376151711744 ∧ -288230376151711744 ≤ q
            · obtain ⟨g1, g2⟩ := hw
              go_wp2_with fail
              go_round
              case rel => exact ⟨j + 1, 10 * q, rfl, by simp; omega, by omega, by omega, by omega, by show _ = _; rw [hq.out, Int.pow_succ, Int.mul_comm 10, Int.mul_assoc]⟩
              case measure => simp [intOf]; omega
            · have a1 := FAR.out (far_pow hq.out hj (by omega))
              have A1 := Lib.hid a1
              have HW := Lib.hid hw
              clear a1 hw
              go_wp2_with fail
              all_goals first
                | (exfalso; have := HW.out; omega)
                | (rw [A1.out]
                   exact bodyPost_ret (v := mkV (0, 0, false)) (by simp [mkV, results, Tryd.results17, go_sem, r0, r1]) rfl ⟨rfl, by repeat (first | exact hbb2 | refine Below.setCell ?_ (by simp; omega) _)⟩)
          · have hjk : j = k := by omega
            have VL : Hid (addS m e m' e' = mk (q + m') e') := by show _ = _; rw [VAL.out, hq.out, hjk]
            clear hjk VAL FAR hq
            go_wp2_with fail
            go_loop [10, 12] (fun a i => a = .int .i64 m' ∧ i = .int .i64 e') (fun _ i => 0)
            case atStart => exact ⟨rfl, rfl⟩
            case round =>
              obtain ⟨rfl, rfl⟩ := hrel
              go_wp2_with fail
              (with_reducible refine (rmake_any _ _ _ (by omega) (by omega) (by omega) (by omega)).mono ?_)
              rintro e1 w4 ⟨rfl, hb4⟩
              rw [← VL.out]
              have R := (⟨r0, r1, rf, rl⟩ : DecAt w2 (w.heap.size + 1 + 1) 0 0).below hb4
              have hbb4 : Below w.heap.size w w4 := hbb2.trans (hb4.mono hbb2.size)
              clear hb4 r0 r1 rf rl VL
              obtain ⟨r0, r1, rf, rl⟩ := R
              generalize addS m e m' e' = res at *
              obtain ⟨z1, z2, z3⟩ := res
              unfold mkV at *
              go_wp2_with fail
              exact bodyPost_ret (v := mkV (z1, z2, z3)) (by simp [mkV, results, Tryd.results17, go_sem, r0, r1]) rfl ⟨rfl, by repeat (first | exact hbb4 | refine Below.setCell ?_ (by simp; omega) _)⟩
      · have hle' : e ≤ e' := by omega
        go_wp2_with fail
        rw [show min e e' = e by omega]
        obtain ⟨k, hk⟩ := Int.eq_ofNat_of_zero_le (a := e' - e) (by omega)
        have hk18 : k ≤ 18 := by omega
        have hke : e + k ≤ e' := by omega
        have hke2 : e' ≤ e + k := by omega
        have FAR : Hid (m' * 10 ^ k < -2000000000000000 ∨ 2000000000000000 < m' * 10 ^ k → addS m e m' e' = (0, 0, false)) := fun hf => by rw [addS_comm]; exact addS_far H'.out H.out HM.out hle' (by rw [hk]; exact hf)
        have VAL : Hid (addS m e m' e' = mk (m + m' * 10 ^ k) e) := by show _ = _; rw [addS_comm, addS_val H'.out H.out hle', hk, Int.add_comm]; rfl
        clear hk
        go_loop [9, 11] (fun a i => a = .int .i64 m ∧ i = .int .i64 e) (fun _ i => 0)
        case atStart => exact ⟨rfl, rfl⟩
        case round =>
          obtain ⟨rfl, rfl⟩ := hrel
          go_wp2_with fail
          go_loop [10, 12] (fun a i => ∃ (j : Nat) (q : Int), a = .int .i64 q ∧ i = .int .i64 (e + j) ∧ j ≤ k ∧ -2882303761517117440 ≤ q ∧ q ≤ 2882303761517117440 ∧ Hid (q = m' * 10 ^ j)) (fun _ i => (e' - intOf i).toNat)
          case atStart => exact ⟨0, m', rfl, by simp, by omega, by omega, by omega, by show _ = _; simp⟩
          case round =>
            obtain ⟨j, q, rfl, rfl, hj, hq0, hq1, hq⟩ := hrel
            by_cases hlt : j < k
            · by_cases hw : q ≤ 288230376151711744 ∧ -288230376151711744 ≤ q
              · obtain ⟨g1, g2⟩ := hw
                go_wp2_with fail
                go_round
                case rel => exact ⟨j + 1, 10 * q, rfl, by simp; omega, by omega, by omega, by omega, by show _ = _; rw [hq.out, Int.pow_succ, Int.mul_comm 10, Int.mul_assoc]⟩
                case measure => simp [intOf]; omega
              · have a1 := FAR.out (far_pow hq.out hj (by omega))
                have A1 := Lib.hid a1
                have HW := Lib.hid hw
                clear a1 hw
                go_wp2_with fail
                all_goals first
                  | (exfalso; have := HW.out; omega)
                  | (rw [A1.out]
                     exact bodyPost_ret (v := mkV (0, 0, false)) (by simp [mkV, results, Tryd.results17, go_sem, r0, r1]) rfl ⟨rfl, by repeat (first | exact hbb2 | refine Below.setCell ?_ (by simp; omega) _)⟩)
            · have hjk : j = k := by omega
              have VL : Hid (addS m e m' e' = mk (m + q) e) := by show _ = _; rw [VAL.out, hq.out, hjk]
              clear hjk VAL FAR hq
              go_wp2_with fail
              (with_reducible refine (rmake_any _ _ _ (by omega) (by omega) (by omega) (by omega)).mono ?_)
              rintro e1 w4 ⟨rfl, hb4⟩
              rw [← VL.out]
              have R := (⟨r0, r1, rf, rl⟩ : DecAt w2 (w.heap.size + 1 + 1) 0 0).below hb4
              have hbb4 : Below w.heap.size w w4 := hbb2.trans (hb4.mono hbb2.size)
              clear hb4 r0 r1 rf rl VL
              obtain ⟨r0, r1, rf, rl⟩ := R
              generalize addS m e m' e' = res at *
              obtain ⟨z1, z2, z3⟩ := res
              unfold mkV at *
              go_wp2_with fail
              exact bodyPost_ret (v := mkV (z1, z2, z3)) (by simp [mkV, results, Tryd.results17, go_sem, r0, r1]) rfl ⟨rfl, by repeat (first | exact hbb4 | refine Below.setCell ?_ (by simp; omega) _)⟩

theorem radd_any (m e m' e' : Int) (w : World) (hm0 : -9223372036854775808 ≤ m) (hm1 : m ≤ 9223372036854775807) (he0 : -9223372036854775808 ≤ e) (he1 : e ≤ 9223372036854775807)
    (hn0 : -9223372036854775808 ≤ m') (hn1 : m' ≤ 9223372036854775807) (hf0 : -9223372036854775808 ≤ e') (hf1 : e' ≤ 9223372036854775807) :
    Calls Tryd.prog 17 #[.agg #[.int .i64 m, .int .i64 e], .agg #[.int .i64 m', .int .i64 e']] w (Ret (mkV (addS m e m' e')) w) := by
  rcases h : rightB m e with _ | _
  · rw [addS_no (by simp [h])]
    exact radd_no m e m' e' w hm0 hm1 he0 he1 hn0 hn1 hf0 hf1 _ _ h rfl (.inl rfl)
  · rcases h' : rightB m' e' with _ | _
    · rw [addS_no (by simp [h'])]
      exact radd_no m e m' e' w hm0 hm1 he0 he1 hn0 hn1 hf0 hf1 _ _ h h' (.inr ⟨rfl, rfl⟩)
    · exact radd_yes m e m' e' w h h'
end Go.Proofs.YtaggeebfdlkbhaaDoor
