import Derived.Test.YtnpbkjmlmdpggaaWj
import Derived.Test.YtnpbkjmlmdpggaaWd
import Derived.Test.YtnpbkjmlmdpggaaWf
/- Fits. -/
set_option linter.unusedVariables false
set_option linter.unusedSimpArgs false
namespace Go.Proofs.Ytnpbkjmlmdpggaa.Wk
open Go.RowKit Ly Od

/-- What the program asks of an order over a layout. -/
def fitsP (n : Int) (es : List Ed) (x : O) : Bool := decide ((x.ns.getD 0 st0).id < n) && (List.range x.es.length).all fun i => leadsB es (x.es.getD i st0).id (x.ns.getD i st0).id (x.ns.getD (i + 1) st0).id
theorem fits_prog {nm : List UInt8 → Bool} {n : Int} {es : List Ed} {x : O} (hr : RightL n es) (hx : rightO nm x = true) : fitsS nm n es x = fitsP n es x := by
  obtain ⟨h1, h2, h3, h4⟩ := right_lens hx
  unfold fitsS fitsP
  rw [rightB_true hr, hx, Bool.true_and, Bool.true_and]
  rw [Bool.eq_iff_iff, Bool.and_eq_true, Bool.and_eq_true, List.all_eq_true, decide_eq_true_iff]
  constructor
  · rintro ⟨a, b⟩
    refine ⟨?_, b⟩
    have := a (x.ns.getD 0 st0) (by rw [List.getD_eq_getElem?_getD, List.getElem?_eq_getElem (by omega)]; exact List.getElem_mem _)
    simpa using this
  · rintro ⟨a, b⟩
    refine ⟨fun s hs => ?_, b⟩
    obtain ⟨i, hi, rfl⟩ := List.mem_iff_getElem.1 hs
    rw [decide_eq_true_iff]
    have e : ∀ j (hj : j < x.ns.length), x.ns.getD j st0 = x.ns[j] := fun j hj => by rw [List.getD_eq_getElem?_getD, List.getElem?_eq_getElem hj]; rfl
    cases i with
    | zero => rw [← e 0 hi]; exact a
    | succ i =>
      have h5 := List.all_eq_true.1 b i (List.mem_range.2 (by omega))
      rw [leadsB, Bool.and_eq_true, Bool.and_eq_true, decide_eq_true_iff, decide_eq_true_iff, decide_eq_true_iff] at h5
      rw [← e _ hi, ← h5.2.2]
      have h6 := h3 (x.es.getD i st0) (by rw [List.getD_eq_getElem?_getD, List.getElem?_eq_getElem (by omega)]; exact List.getElem_mem _)
      have := (hr.at (i := (x.es.getD i st0).id.toNat) (by omega)).2.1
      exact this.2
theorem fits_bad {nm : List UInt8 → Bool} {n : Int} {es : List Ed} {x : O} (h : (rightB n es && rightO nm x) = false) : fitsS nm n es x = false := by
  unfold fitsS
  rw [h]; rfl
set_option maxHeartbeats 8000000 in
set_option maxRecDepth 100000 in
theorem fits_any {S : Nat → Prop} {n : Int} {es : List Ed} {x : O} {w : World} (lv ov : Value) (hl : EdgesAt w lv es) (ho : OAt S w ov x) :
    Calls Try.prog 22 #[.agg #[.int .i64 n, lv], ov] w (Ret (.bool (fitsS Tp.nameB n es x)) w) := by
  have mixed : Try.prog.follows .mixedOrders = true := by kernel_rfl
  obtain ⟨Q, HQ⟩ : ∃ Q, Hid (Ret (.bool (fitsS Tp.nameB n es x)) w = Q) := ⟨_, rfl⟩
  rw [HQ.out]
  have HO := Lib.hid ho.any
  have HE := Lib.hid hl
  obtain ⟨an, cn, ae, ce, rfl, -, -, -, -, hN, hEs⟩ := ho.open_
  obtain ⟨la, lc, rfl, hll, -⟩ := hl
  obtain ⟨w2, hw2⟩ : ∃ w2, (w.alloc (.cells #[.int .i64 n, .slice la es.length lc] 32)).alloc (.cells #[.int .i64 x.h, .string ⟨x.v.toArray⟩, .int .i64 x.o, .int .i64 x.u, .slice an x.ns.length cn, .slice ae x.es.length ce] 25) = w2 := ⟨_, rfl⟩
  obtain ⟨b2, hs2, k1, k2⟩ := two_cells w _ _ _ _ hw2
  have HB2 := Lib.hid b2
  obtain ⟨l0, -⟩ := k1 0 (.int .i64 n) rfl
  obtain ⟨l1, -⟩ := k1 1 (.slice la es.length lc) rfl
  obtain ⟨o0', -⟩ := k2 0 (.int .i64 x.h) rfl
  obtain ⟨o1, -⟩ := k2 1 (.string ⟨x.v.toArray⟩) rfl
  obtain ⟨o2, -⟩ := k2 2 (.int .i64 x.o) rfl
  obtain ⟨o3, -⟩ := k2 3 (.int .i64 x.u) rfl
  obtain ⟨o4, -⟩ := k2 4 (.slice an x.ns.length cn) rfl
  obtain ⟨o5, -⟩ := k2 5 (.slice ae x.es.length ce) rfl
  have HE2 := Lib.hid (HE.out.below b2 (Nat.le_refl _))
  have HO2 := Lib.hid (HO.out.below b2 (Nat.le_refl _))
  have HN2 := Lib.hid (hN.any.below b2 (Nat.le_refl _))
  have HS2 := Lib.hid (hEs.any.below b2 (Nat.le_refl _))
  have C1 := Lib.hid (fun (t : Bool) (ht : rightB n es = t) (dd : Nat) (os : Array Obj) => Calls.regrown_of (w := w2) (d := dd) (os := os) (Ly.right_any (n := n) (es := es) _ (HE2.out.below (below_regrown w2 dd os) (Nat.le_refl _)) t ht))
  have C2 := Lib.hid (fun (dd : Nat) (os : Array Obj) => Calls.regrown_of (w := w2) (d := dd) (os := os) (Od.right_any Js.Any _ x _ (HO2.out.below (below_regrown w2 dd os) (Nat.le_refl _))))
  clear ho hN hEs b2 k1 k2
  have HW2 : Hid ((w.alloc (.cells #[.int .i64 n, .slice la es.length lc] 32)).alloc (.cells #[.int .i64 x.h, .string ⟨x.v.toArray⟩, .int .i64 x.o, .int .i64 x.u, .slice an x.ns.length cn, .slice ae x.es.length ce] 25) = w2) := hw2
  clear hw2
  cases hr : rightB n es with
  | false =>
    have C1f := Lib.hid (C1.out false hr)
    have HF := Lib.hid (fits_bad (nm := Tp.nameB) (n := n) (es := es) (x := x) (by rw [hr]; rfl))
    go_enter Try.func22, Try.ntmps22
    go_upto_region 1 with fail
    rw [HW2.out]
    have y0 := cell_regrown l0
    have y1 := cell_regrown l1
    have y2 := cell_regrown o0'
    have y3 := cell_regrown o1
    have y4 := cell_regrown o2
    have y5 := cell_regrown o3
    have y6 := cell_regrown o4
    have y7 := cell_regrown o5
    clear l0 l1 o0' o1 o2 o3 o4 o5 C1 C2 HW2
    refine wp_region_quiet_below mixed (by kernel_rfl) ?_
    repeat (quiet_step (with_reducible exact C1f.out _ _))
    refine wpQuiet_nil ?_
    intro _ hw'
    obtain ⟨⟨dq, osq⟩, hw''⟩ := hw'
    subst hw''
    have HBN := Lib.hid (HB2.out.trans ((below_regrown w2 dq osq).mono HB2.out.size))
    go_wp2_with fail
    rw [← HQ.out]
    exact ⟨ret_bool HF.out.symm, HBN.out⟩
  | true =>
    have hrl := rightB_iff.1 hr
    have C1t := Lib.hid (C1.out true hr)
    clear C1
    cases hx : rightO Tp.nameB x with
    | false =>
      rw [hx] at C2
      have HF := Lib.hid (fits_bad (nm := Tp.nameB) (n := n) (es := es) (x := x) (by rw [hr, hx]; rfl))
      go_enter Try.func22, Try.ntmps22
      go_upto_region 1 with fail
      rw [HW2.out]
      have y0 := cell_regrown l0
      have y1 := cell_regrown l1
      have y2 := cell_regrown o0'
      have y3 := cell_regrown o1
      have y4 := cell_regrown o2
      have y5 := cell_regrown o3
      have y6 := cell_regrown o4
      have y7 := cell_regrown o5
      clear l0 l1 o0' o1 o2 o3 o4 o5 HW2
      refine wp_region_quiet_below mixed (by kernel_rfl) ?_
      repeat (quiet_step (with_reducible first | exact C1t.out _ _ | exact C2.out _ _))
      refine wpQuiet_nil ?_
      intro _ hw'
      obtain ⟨⟨dq, osq⟩, hw''⟩ := hw'
      subst hw''
      have HBN := Lib.hid (HB2.out.trans ((below_regrown w2 dq osq).mono HB2.out.size))
      go_wp2_with fail
      rw [← HQ.out]
      exact ⟨ret_bool HF.out.symm, HBN.out⟩
    | true =>
      rw [hx] at C2
      have HF := Lib.hid (fits_prog (nm := Tp.nameB) hrl hx)
      obtain ⟨g1, g2, g3, g4⟩ := right_lens hx
      obtain ⟨b0, f0, e0, -, hb0, -, n0, -, -⟩ := HN2.out.at_ (k := 0) (by omega)
      rw [HF.out] at HQ
      unfold fitsP at HQ
      subst e0
      have hid0 := g4 (x.ns.getD 0 st0) (by rw [List.getD_eq_getElem?_getD, List.getElem?_eq_getElem (by omega)]; exact List.getElem_mem _)
      obtain ⟨i0, hi0⟩ : ∃ i0, (x.ns.getD 0 st0).id = i0 := ⟨_, rfl⟩
      rw [hi0] at n0 hid0 HQ
      rw [Nat.zero_mul, Nat.add_zero] at n0
      have hnz : (0 : Int) < (x.ns.length : Int) := by omega
      have hnz2 : 0 < x.ns.length := by omega
      clear hx hr
      by_cases hn : i0 < n
      · have hn1 : decide (n ≤ i0) = false := by simp; omega
        rw [show decide (i0 < n) = true by simp; omega, Bool.true_and] at HQ
        have L0 := Lib.hid l0
        have L1 := Lib.hid l1
        have O4 := Lib.hid o4
        have O5 := Lib.hid o5
        have hsw := Lib.hid hs2
        go_enter Try.func22, Try.ntmps22
        go_upto_region 1 with fail
        rw [HW2.out]
        have y0 := cell_regrown l0
        have y1 := cell_regrown l1
        have y2 := cell_regrown o0'
        have y3 := cell_regrown o1
        have y4 := cell_regrown o2
        have y5 := cell_regrown o3
        have y6 := cell_regrown o4
        have y7 := cell_regrown o5
        have y8 := cell_regrown n0
        clear l0 l1 o0' o1 o2 o3 o4 o5 HW2 n0
        refine wp_region_quiet_below mixed (by kernel_rfl) ?_
        repeat (quiet_step (with_reducible first | exact C1t.out _ _ | exact C2.out _ _))
        refine wpQuiet_nil ?_
        intro _ hw'
        obtain ⟨⟨dq, osq⟩, hw''⟩ := hw'
        subst hw''
        have HBN := Lib.hid (below_regrown w2 dq osq)
        have c5 := y7 dq osq
        generalize Sort.grow (redrawn w2 dq) osq = wq at *
        clear y0 y1 y2 y3 y4 y5 y6 y7 y8 C1t C2
        obtain ⟨M, HM⟩ : ∃ M, Hid (x.es.length = M) := ⟨_, rfl⟩
        obtain ⟨N, HNl⟩ : ∃ N, Hid (x.ns.length = N) := ⟨_, rfl⟩
        rw [HM.out] at HQ c5 O5 HS2 g1
        rw [HNl.out] at O4 HN2 g1 g2 hnz hnz2
        rw [HM.out]
        rw [HNl.out]
        go_wp2_with fail
        go_loopw [28] (fun i wr => ∃ k : Nat, k ≤ M ∧ i = .int .i64 k ∧ Hid (Below w2.heap.size w2 wr) ∧ Hid (∀ j, j < k → leadsB es (x.es.getD j st0).id (x.ns.getD j st0).id (x.ns.getD (j + 1) st0).id = true)) (fun i _ => M - (intOf i).toNat)
        case atStart => exact ⟨0, Nat.zero_le _, rfl, HBN, fun j hj => by omega⟩
        case round =>
          obtain ⟨k, hk, rfl, HBR, HAL⟩ := hrel
          clear c5 HBN hnz hnz2
          by_cases hlt : k < M
          · obtain ⟨be, fe, rfl, -, hbe, -, e0, e1, e2⟩ := HS2.out.at_ (k := k) (by rw [HM.out]; exact hlt)
            obtain ⟨b1, f1, q1, -, hb1, -, m0, -, -⟩ := HN2.out.at_ (k := k) (by rw [HNl.out]; omega)
            cases q1
            obtain ⟨b1', f1', q1, -, -, -, m1, -, -⟩ := HN2.out.at_ (k := k + 1) (by rw [HNl.out]; omega)
            cases q1
            have hid := (g3 (x.es.getD k st0) (by rw [List.getD_eq_getElem?_getD, List.getElem?_eq_getElem (by rw [HM.out]; exact hlt)]; exact List.getElem_mem _)).1
            obtain ⟨R, hR⟩ : ∃ R, leadsB es (x.es.getD k st0).id (x.ns.getD k st0).id (x.ns.getD (k + 1) st0).id = R := ⟨_, rfl⟩
            have HRJ : Hid (∀ j, j = k → leadsB es (x.es.getD j st0).id (x.ns.getD j st0).id (x.ns.getD (j + 1) st0).id = R) := fun j hj => by subst hj; exact hR
            have C3 := Lib.hid (fun w' (hb : Below w2.heap.size w2 w') => leads_any n (x.es.getD k st0).id (x.ns.getD k st0).id (x.ns.getD (k + 1) st0).id _ (HE2.out.below hb (Nat.le_refl _)) hid)
            rw [hR] at C3
            clear hR
            have x0 := (HBR.out.cell (p := ⟨be, _, none⟩) hbe).trans e0
            have x1 := (HBR.out.cell (p := ⟨be, _, none⟩) hbe).trans e1
            have x2 := (HBR.out.cell (p := ⟨be, _, none⟩) hbe).trans e2
            have M0 := Lib.hid m0
            have M1 := Lib.hid m1
            clear e0 e1 e2 m0 m1 hid
            generalize (x.es.getD k st0).id = ei at *
            generalize (x.es.getD k st0).seq = eq at *
            generalize (x.es.getD k st0).rel = er at *
            generalize (x.ns.getD k st0).id = na at *
            generalize (x.ns.getD (k + 1) st0).id = nb at *
            go_upto_region 6 with fail
            have HB3 := Lib.hid (HBR.out.alloc HBR.out.size (.cells #[.int .i64 ei, .int .i64 eq, .bool er] 60))
            have z0 := cell_of_row _ _ 0 _ _ _ (heap_alloc_new wr (.cells #[.int .i64 ei, .int .i64 eq, .bool er] 60))
            simp only [List.getElem?_toArray, List.getElem?_cons_zero] at z0
            have hbe3 : Below w2.heap.size w2 (wr.alloc (.cells #[.int .i64 ei, .int .i64 eq, .bool er] 60)) := HB3.out
            have v0 := cell_regrown ((hbe3.cell (p := ⟨w.heap.size, 0, none⟩) (by have := hsw.out; show w.heap.size < _; omega)).trans L0.out)
            have v1 := cell_regrown ((hbe3.cell (p := ⟨w.heap.size, 1, none⟩) (by have := hsw.out; show w.heap.size < _; omega)).trans L1.out)
            have v2 := cell_regrown ((hbe3.cell (p := ⟨w.heap.size + 1, 4, none⟩) (by have := hsw.out; show w.heap.size + 1 < _; omega)).trans O4.out)
            have v3 := cell_regrown z0
            have v4 := cell_regrown ((hbe3.cell (p := ⟨b0, _, none⟩) hb1).trans M0.out)
            have v5 := cell_regrown ((hbe3.cell (p := ⟨b0, _, none⟩) hb1).trans M1.out)
            have hkn : (k : Int) < (N : Int) := by omega
            have hkn1 : (k : Int) + 1 < (N : Int) := by omega
            have hk0 : (0 : Int) ≤ (k : Int) + 1 := by omega
            have hwk : IntKind.i64.wrap ((k : Int) + 1) = (k : Int) + 1 := IntWalk.i64_in _ (by omega)
            generalize wr.alloc (.cells #[.int .i64 ei, .int .i64 eq, .bool er] 60) = w5 at *
            have C4 := Lib.hid (fun (dd : Nat) (os : Array Obj) => Calls.regrown_of (w := w5) (d := dd) (os := os) (C3.out _ (HB3.out.trans ((below_regrown w5 dd os).mono HB3.out.size))))
            clear z0 hbe3 x0 x1 x2
            refine wp_region_quiet_below mixed (by kernel_rfl) ?_
            repeat (quiet_step (with_reducible exact C4.out _ _))
            refine wpQuiet_nil ?_
            intro _ hw'
            obtain ⟨⟨dq, osq⟩, hw''⟩ := hw'
            subst hw''
            have HB6 := Lib.hid (HB3.out.trans ((below_regrown w5 dq osq).mono HB3.out.size))
            clear v0 v1 v2 v3 v4 v5
            generalize Sort.grow (redrawn w5 dq) osq = w6 at *
            cases R with
            | true =>
              have HAL2 : Hid (∀ j, j < k + 1 → leadsB es (x.es.getD j st0).id (x.ns.getD j st0).id (x.ns.getD (j + 1) st0).id = true) := fun j hj => by
                by_cases e : j = k
                · exact HRJ.out j e
                · exact HAL.out j (by omega)
              clear HAL HRJ
              go_wp2_with fail
              go_roundw
              case rel => exact ⟨k + 1, by omega, by go_num, HB6, HAL2⟩
              case measure => simp [intOf]; omega
            | false =>
              have HF2 : Hid (((List.range M).all fun i => leadsB es (x.es.getD i st0).id (x.ns.getD i st0).id (x.ns.getD (i + 1) st0).id) = false) := by
                show _ = _
                rw [← Bool.not_eq_true, List.all_eq_true]
                intro h
                have := h k (List.mem_range.2 hlt)
                rw [HRJ.out k rfl] at this
                cases this
              rw [HF2.out] at HQ
              have HB7 := Lib.hid (HB2.out.trans (HB6.out.mono HB2.out.size))
              clear HF2 HAL HRJ
              go_wp2_with fail
              rw [← HQ.out]
              exact ⟨rfl, HB7.out⟩
          · have HF2 : Hid (((List.range M).all fun i => leadsB es (x.es.getD i st0).id (x.ns.getD i st0).id (x.ns.getD (i + 1) st0).id) = true) := by
              show _ = _
              rw [List.all_eq_true]
              exact fun i hi => HAL.out i (by have := List.mem_range.1 hi; omega)
            rw [HF2.out] at HQ
            have HB3 := Lib.hid (HB2.out.trans (HBR.out.mono HB2.out.size))
            clear HBR
            go_wp2_with fail
            rw [← HQ.out]
            exact ⟨rfl, HB3.out⟩
      · have hn1 : decide (n ≤ i0) = true := by simp; omega
        rw [show decide (i0 < n) = false by simp; omega, Bool.false_and] at HQ
        go_enter Try.func22, Try.ntmps22
        go_upto_region 1 with fail
        rw [HW2.out]
        have y0 := cell_regrown l0
        have y1 := cell_regrown l1
        have y2 := cell_regrown o0'
        have y3 := cell_regrown o1
        have y4 := cell_regrown o2
        have y5 := cell_regrown o3
        have y6 := cell_regrown o4
        have y7 := cell_regrown o5
        have y8 := cell_regrown n0
        clear l0 l1 o0' o1 o2 o3 o4 o5 HW2 n0
        refine wp_region_quiet_below mixed (by kernel_rfl) ?_
        repeat (quiet_step (with_reducible first | exact C1t.out _ _ | exact C2.out _ _))
        refine wpQuiet_nil ?_
        intro _ hw'
        obtain ⟨⟨dq, osq⟩, hw''⟩ := hw'
        subst hw''
        have HBN := Lib.hid (HB2.out.trans ((below_regrown w2 dq osq).mono HB2.out.size))
        go_wp2_with fail
        rw [← HQ.out]
        exact ⟨rfl, HBN.out⟩
end Go.Proofs.Ytnpbkjmlmdpggaa.Wk
