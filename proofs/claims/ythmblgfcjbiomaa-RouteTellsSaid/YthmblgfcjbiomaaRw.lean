import Derived.Test.YthmblgfcjbiomaaRv
import Derived.Test.YthmblgfcjbiomaaRs
/- The document's Route. -/
set_option linter.unusedVariables false
set_option linter.unusedSimpArgs false
namespace Go.Proofs.Ythmblgfcjbiomaa.Rt
open Go.RowKit Go.Shelf Ly
attribute [local go_sem] Oper.semAt_some

theorem rroute_no {n : Int} {es : List Ed} {w : World} (v bv : Value) (hv : EdgesAt w v es) (bl : List Int) (hb : IntsAt w bv bl) (a b : Int) (h : (rightB n es && (nodeB n a && nodeB n b)) = false) :
    Calls Try.prog 13 #[.agg #[.int .i64 n, v], bv, .int .i64 a, .int .i64 b] w (RetTwo ([], 1) w) := by
  have HB0 : Hid (Below w.heap.size w (w.alloc (.cells #[.int .i64 n, v] 24))) := (Below.refl _ w).alloc (Nat.le_refl _) _
  have HX0 := Lib.hid (BoxAt.new n v w)
  have HV := Lib.hid (hv.below HB0.out (Nat.le_refl _))
  have HI := Lib.hid (hb.below HB0.out (Nat.le_refl _))
  obtain ⟨Q, HQ⟩ : ∃ Q, Hid (RetTwo ([], 1) w = Q) := ⟨_, rfl⟩
  rw [HQ.out]
  cases hx : rightB n es && nodeB n b with
  | false =>
    have C := Lib.hid (fun w' (he : EdgesAt w' v es) (hi : IntsAt w' bv bl) => show Calls Try.prog 18 #[.agg #[.int .i64 n, v], bv, .int .i64 b] w' (RetInts [] w') by have := rfar_any (n := n) v bv he bl hi b; rw [farS_no hx] at this; exact this)
    clear hx hv hb h
    go_enter Try.func13, Try.ntmps13
    go_wp2_with (go_at_call 18; (with_reducible refine (C.out _ HV.out HI.out).mono ?_); rintro e w1 ⟨v1, rfl, hv1, hb1⟩; obtain ⟨fo, fc, rfl⟩ := slN hv1 rfl; have HB1 := Lib.hid (HB0.out.trans (hb1.mono HB0.out.size)); clear hb1 hv1)
    rw [← HQ.out]
    exact ⟨_, rfl, World.ownsRow_nil _ _ _ _, HB1.out⟩
  | true =>
    rw [Bool.and_eq_true] at hx
    rw [hx.1, hx.2, Bool.true_and, Bool.and_true] at h
    have hr := rightB_iff.1 hx.1
    have hnb := hx.2
    obtain ⟨b0, b1⟩ := nodeB_iff.1 hnb
    have C := Lib.hid (fun w' (he : EdgesAt w' v es) (hi : IntsAt w' bv bl) => show Calls Try.prog 18 #[.agg #[.int .i64 n, v], bv, .int .i64 b] w' (RetInts (farL n es bl b) w') by have := rfar_any (n := n) v bv he bl hi b; rw [farS_yes hr b0 b1] at this; exact this)
    have lF := ints_far (bl := bl) hr hnb
    have n1 := hr.1
    have hbn : a < 0 ∨ (0 ≤ a ∧ n ≤ a) := by
      simp only [nodeB, Bool.and_eq_false_iff, decide_eq_false_iff_not] at h
      omega
    clear hx hv hb h hr hnb
    generalize farL n es bl b = F at *
    obtain ⟨N, hN⟩ : ∃ N : Nat, n = (N : Int) := ⟨n.toNat, by omega⟩
    subst hN
    have lF' : F.length = N := by omega
    have hz0 : ((N : Int) == 0) = false := by simp; omega
    have hz1 : decide (N = 0) = false := by simp; omega
    have hz2 : (N == 0) = false := by simp; omega
    go_enter Try.func13, Try.ntmps13
    go_upto_region 2 with (go_at_call 18; (with_reducible refine (C.out _ HV.out HI.out).mono ?_); rintro e w1 ⟨v1, rfl, hv1, hb1⟩; obtain ⟨fo, fc, rfl⟩ := slN hv1 lF'; have HB1 := Lib.hid (HB0.out.trans (hb1.mono HB0.out.size)); have HX1 := Lib.hid (HX0.out.below hb1); clear hb1 hv1)
    have c0 := HX1.out.c0
    rcases hbn with d | ⟨d1, d2⟩
    · have d' : decide (a < 0) = true := by simpa using d
      clear d
      go_wp2_with fail
      rw [← HQ.out]
      exact ⟨_, rfl, World.ownsRow_nil _ _ _ _, HB1.out⟩
    · have d' : decide (a < 0) = false := by simpa using d1
      have d'' : decide (N ≤ a) = true := by simpa using d2
      clear d1 d2
      go_wp2_with fail
      rw [← HQ.out]
      exact ⟨_, rfl, World.ownsRow_nil _ _ _ _, HB1.out⟩
theorem first_here {p : Nat → Bool} {k q : Nat} (hq : q < k) (h : p q = true) (hn : ∀ j, j < q → p j = false) : firstB p 0 k = some q := by
  obtain ⟨m, h2, _, h3, h4, h5⟩ := first_found (p := p) (k := k) (i := 0) ⟨q, Nat.zero_le _, by omega, h⟩
  rcases Nat.lt_trichotomy m q with e | e | e
  · rw [hn m e] at h4; cases h4
  · rw [← e]; exact h2
  · have := h5 q (Nat.zero_le _) e
    rw [h] at this
    cases this

set_option maxHeartbeats 16000000 in
set_option maxRecDepth 100000 in
theorem rroute_yes {n : Int} {es : List Ed} {w : World} (v bv : Value) (hv : EdgesAt w v es) (bl : List Int) (hb : IntsAt w bv bl) (a b : Int) (hr : RightL n es) (hna : nodeB n a = true) (hnb : nodeB n b = true) :
    Calls Try.prog 13 #[.agg #[.int .i64 n, v], bv, .int .i64 a, .int .i64 b] w (RetTwo (routeS n es bl a b) w) := by
  have HB0 : Hid (Below w.heap.size w (w.alloc (.cells #[.int .i64 n, v] 24))) := (Below.refl _ w).alloc (Nat.le_refl _) _
  have HX0 := Lib.hid (BoxAt.new n v w)
  have HV := Lib.hid (hv.below HB0.out (Nat.le_refl _))
  have HI0 := Lib.hid (hb.below HB0.out (Nat.le_refl _))
  obtain ⟨Q, HQ⟩ : ∃ Q, Hid (RetTwo (routeS n es bl a b) w = Q) := ⟨_, rfl⟩
  rw [HQ.out]
  obtain ⟨a0, a1⟩ := nodeB_iff.1 hna
  obtain ⟨b0, b1⟩ := nodeB_iff.1 hnb
  have C := Lib.hid (fun w' (he : EdgesAt w' v es) (hi : IntsAt w' bv bl) => show Calls Try.prog 18 #[.agg #[.int .i64 n, v], bv, .int .i64 b] w' (RetInts (farL n es bl b) w') by have := rfar_any (n := n) v bv he bl hi b; rw [farS_yes hr b0 b1] at this; exact this)
  have lF := ints_far (bl := bl) hr hnb
  have n1 := hr.1
  have HFAR := Lib.hid (farL_spec (bl := bl) hr b0 b1).2.1
  have HLE := Lib.hid (farL_le (bl := bl) hr b0 b1)
  have HOK : (rightB n es && (nodeB n a && nodeB n b)) = true := by rw [rightB_true hr, hna, hnb]; rfl
  have HRN := Lib.hid (routeS_none (n := n) (es := es) (bl := bl) HOK)
  have HRW := Lib.hid (routeS_way (n := n) (es := es) (bl := bl) HOK)
  have HRL : Hid ((routeF es bl b (gi (farL n es bl b)) a).length ≤ 39000) := routeF_len hr b0 b1 a0 a1
  generalize farL n es bl b = F at *
  have h120 : es.length ≤ 120 := hr.2.2.1
  have HRR := Lib.hid hr
  obtain ⟨N, hN⟩ : ∃ N : Nat, n = (N : Int) := ⟨n.toNat, by omega⟩
  subst hN
  have lF' : F.length = N := by omega
  have hz0 : ((N : Int) == 0) = false := by simp; omega
  have hz1 : decide (N = 0) = false := by simp; omega
  have hz2 : (N == 0) = false := by simp; omega
  obtain ⟨an, rfl⟩ : ∃ q : Nat, a = (q : Int) := ⟨a.toNat, by omega⟩
  obtain ⟨bn, rfl⟩ : ∃ q : Nat, b = (q : Int) := ⟨b.toNat, by omega⟩
  have d1 : decide ((an : Int) < 0) = false := by simp
  have d2 : decide (N ≤ an) = false := by simp; omega
  obtain ⟨eo, ce, rfl⟩ := slE hv
  have HE := Lib.hid hv
  have HI := Lib.hid hb
  clear hv hb hr hna hnb HOK lF
  go_enter Try.func13, Try.ntmps13
  go_upto_region 2 with (go_at_call 18; (with_reducible refine (C.out _ HV.out HI0.out).mono ?_); rintro e w1 ⟨v1, rfl, hv1, hb1⟩; obtain ⟨fo, fc, rfl⟩ := slN hv1 lF'; have HB1 := Lib.hid (HB0.out.trans (hb1.mono HB0.out.size)); have HX1 := Lib.hid (HX0.out.below hb1); have HF1 := Lib.hid hv1; clear hb1 hv1)
  have c0 := HX1.out.c0
  clear C HV HI0
  obtain ⟨_, _, hf1, hf2, hf3⟩ := HF1.out
  simp only [Value.slice.injEq] at hf1
  obtain ⟨rfl, -, -⟩ := hf1
  obtain ⟨fb, fof, rfl, lf, hfs⟩ := hf3 (by omega)
  have HFC : Hid (∀ W, Below w1.heap.size w1 W → ∀ q : Nat, q < N → W.cell? ⟨fb, fof + q, none⟩ = some (.int .i64 (gi F (q : Int)))) := fun W h q hq => by
    have := (h.cell (p := ⟨fb, fof + q, none⟩) lf).trans (hfs q (by omega))
    rwa [ati_gi (by omega)] at this
  have ua := HFC.out w1 (Below.refl _ _) an (by omega)
  clear hf2 hf3 hfs
  by_cases hng : gi F (an : Int) < 0
  · have HRS := Lib.hid (HRN.out hng)
    generalize gi F (an : Int) = da at *
    have q0 : decide (da < 0) = true := by simpa using hng
    clear hng
    go_wp2_with fail
    rw [← HQ.out, HRS.out]
    exact ⟨_, rfl, World.ownsRow_nil _ _ _ _, HB1.out⟩
  · have HRS := Lib.hid (HRW.out (by omega))
    have HA0 : Hid (0 ≤ gi F (an : Int)) := by show 0 ≤ _; omega
    have q0 : decide (gi F (an : Int) < 0) = false := by simpa using hng
    clear hng
    go_upto_region 7 with fail
    clear ua c0 q0 hz0 hz1 hz2 d1 d2
    go_wp2_with fail
    go_loopw [11, 12] (fun vo nd wr => ∃ (ws : List Nat) (m : Nat) (x : Nat) (vo' : Value), vo' = vo ∧ nd = .int .i64 x ∧ x < N ∧ m ≤ 39000 ∧ Hid (m = ws.length) ∧ Hid (wr.ownsRow w1.heap.size 3 1 vo' m (intC (toI ws))) ∧ Hid (routeF es bl bn (gi F) an = ws ++ routeF es bl bn (gi F) x) ∧ Hid (0 ≤ gi F x) ∧ Hid (Below w1.heap.size w1 wr)) (fun _ nd _ => (gi F (intOf nd)).toNat)
    case atStart => exact ⟨[], 0, an, _, rfl, rfl, by omega, by omega, rfl, World.ownsRow_nil _ _ _ _, rfl, HA0, Below.refl _ _⟩
    case round =>
      obtain ⟨ws, m, x, vo, rfl, rfl, hxN, hm, HM, HO, HR, HX, HBW⟩ := hrel
      obtain ⟨ao2, cap2, rfl⟩ := row_form HO.out
      by_cases hx : x = bn
      · subst hx
        have HFIN : Hid (Q (.returned (.tuple #[.slice ao2 m cap2, .int .i64 0])) wr) := by
          show Q _ _
          rw [← HQ.out]
          have e : routeF es bl x (gi F) an = ws := by rw [HR.out, routeF_at, List.append_nil]
          rw [HRS.out, e]
          refine ⟨_, rfl, ?_, HB1.out.trans (HBW.out.mono HB1.out.size)⟩
          have h1 := own_below HO.out (Below.refl _ _) HB1.out.size
          rw [HM.out] at h1 ⊢
          simpa [toI] using h1
        go_wp2_with fail
        exact HFIN.out
      · have hx2 : ((x : Int) == (bn : Int)) = false := by simp; omega
        have hx3 : ((x : Int) != (bn : Int)) = true := by simp; omega
        have HXB : Hid ((x : Int) ≠ (bn : Int)) := by show _ ≠ _; omega
        go_upto_region 9 with fail
        go_wp2_with fail
        clear hx2 hx3 hx
        go_loopw [11, 12, 13] (fun vo nd i wx => ∃ q : Nat, q ≤ es.length ∧ vo = .slice ao2 m cap2 ∧ nd = .int .i64 x ∧ i = .int .i64 q ∧ Hid (∀ j, j < q → onB es bl (gi F) x j = false) ∧ Hid (wx.ownsRow w1.heap.size 3 1 (.slice ao2 m cap2) m (intC (toI ws))) ∧ Hid (Below w1.heap.size w1 wx)) (fun _ _ i _ => es.length - (intOf i).toNat)
        case atStart => exact ⟨0, Nat.zero_le _, rfl, rfl, rfl, fun j hj => by omega, HO, HBW⟩
        case round =>
          clear HO HBW
          obtain ⟨q, hq, rfl, rfl, rfl, HNB, HO, HBW⟩ := hrel
          have c1 := (HX1.out.below HBW.out).c1
          by_cases hqe : q < es.length
          · obtain ⟨ea, ec', he1, he2, he3⟩ := HE.out
            cases he1
            obtain ⟨eb, eof, rfl, le, hes⟩ := he3 (by omega)
            have hbw : Below w.heap.size w wr := HB1.out.trans (HBW.out.mono HB1.out.size)
            have g0 := (hbw.cell (p := ⟨eb, eof + q * 3, none⟩) le).trans (hes q hqe).1
            have g1 := (hbw.cell (p := ⟨eb, eof + q * 3 + 1, none⟩) le).trans (hes q hqe).2.1
            have g2 := (hbw.cell (p := ⟨eb, eof + q * 3 + 2, none⟩) le).trans (hes q hqe).2.2
            obtain ⟨⟨s0, s1⟩, ⟨t0, t1⟩, _, cc0, cc1⟩ := HRR.out.at hqe
            have hlt1 := HLE.out _ t0 t1
            have HNX : Hid (onB es bl (gi F) x q = false → ∀ j, j < q + 1 → onB es bl (gi F) x j = false) := fun h j hj => by
              by_cases e : j = q
              · subst e; exact h
              · exact HNB.out j (by omega)
            have HHIT : Hid (onB es bl (gi F) x q = true → routeF es bl bn (gi F) x = q :: routeF es bl bn (gi F) (ate es q).2.1 ∧ 0 ≤ gi F (ate es q).2.1 ∧ gi F (ate es q).2.1 < gi F x) := fun h => by
              have h1 := HFAR.out.step HRR.out (v := (x : Int)) (by omega) (by omega) HX.out HXB.out (first_here hqe h HNB.out) hqe h
              exact ⟨h1.1, h1.2.1, h1.2.2.1⟩
            have hmn : ∀ m, mayB bl (ate es q) = m → decide ((ate es q).2.1 ∈ bl) = !m := fun m h => mayB_not h
            unfold onB at HNX HHIT
            generalize hmb : mayB bl (ate es q) = mm at *
            have hmt := hmn mm rfl
            clear hmn hmb
            generalize (ate es q).1 = f at *
            generalize (ate es q).2.1 = t at *
            generalize (ate es q).2.2 = cst at *
            obtain ⟨tn, rfl⟩ : ∃ q : Nat, t = (q : Int) := ⟨t.toNat, by omega⟩
            clear he2 he3 hes
            go_upto_region 13 with fail
            clear g0 g1 g2 c1
            have hba : Below wr.heap.size wr (wr.alloc (.cells #[.int .i64 f, .int .i64 tn, .int .i64 cst] 41)) := (Below.refl _ wr).alloc (Nat.le_refl _) _
            have hbA := HBW.out.trans (hba.mono HBW.out.size)
            have ky : (wr.alloc (.cells #[.int .i64 f, .int .i64 tn, .int .i64 cst] 41)).heap[wr.heap.size]? = some (.cells #[.int .i64 f, .int .i64 tn, .int .i64 cst] 41 (0, 0)) := heap_alloc_new wr _
            have CM := Lib.hid (rmay_any f tn cst bl bv _ (HI.out.below (HB1.out.trans (hbA.mono HB1.out.size)) (Nat.le_refl _)) mm hmt)
            go_upto_region 14 with (go_at_call 28; (with_reducible refine (CM.out).mono ?_); rintro e wy ⟨rfl, hby⟩)
            have HBY := Lib.hid (hbA.trans (hby.mono hbA.size))
            have HOY := Lib.hid (own_below (own_below HO.out hba (Nat.le_refl _)) hby (Nat.le_refl _))
            have hol : ∀ g, (Value.slice ao2 m cap2).ownBlock = some g → g < wr.heap.size := fun g hg => (HO.out.lt g hg).2
            have hwbs := HBW.out.size
            have kz := (hby.block wr.heap.size (by simp)).trans ky
            have e0 := cell_of_row _ _ 0 _ _ _ kz
            have e1 := cell_of_row _ _ 1 _ _ _ kz
            have e2 := cell_of_row _ _ 2 _ _ _ kz
            have hxe : wr.heap.size < wy.heap.size := (Array.getElem?_eq_some_iff.1 kz).1
            have KZ := Lib.hid kz
            clear hba hbA ky kz CM hby hmt HO HBW HNB
            generalize wr.heap.size = xe at *
            have p0 := HFC.out _ HBY.out x hxN
            have p1 := HFC.out _ HBY.out tn (by omega)
            by_cases x1 : f = x
            · rw [decide_eq_true x1, Bool.true_and] at HNX HHIT
              subst x1
              cases mm with
              | false =>
                have HN1 := Lib.hid (HNX.out (by simp))
                clear HNX HHIT
                go_quiet (fail)
                have HZ : Below wy.heap.size wy (wy.drewN nq) := ⟨rfl, rfl, rfl, Nat.le_refl _, fun _ _ => rfl⟩
                have HBZ := Lib.hid (HBY.out.trans (HZ.mono HBY.out.size))
                go_wp2_with fail
                go_roundw
                case rel => exact ⟨q + 1, by omega, rfl, rfl, by go_num, HN1, own_below HOY.out HZ (Nat.le_refl _), ⟨HBZ.out.os, HBZ.out.tape, HBZ.out.output, HBZ.out.size, HBZ.out.block⟩⟩
                case measure => simp [intOf]; omega
              | true =>
                rw [Bool.true_and] at HNX HHIT
                by_cases x2 : 0 ≤ gi F (tn : Int)
                · rw [decide_eq_true x2, Bool.true_and] at HNX HHIT
                  by_cases x3 : gi F (tn : Int) + cst = gi F (x : Int)
                  · obtain ⟨HS1, HS2, HS3⟩ := HHIT.out (decide_eq_true x3)
                    have q2 : decide (0 ≤ gi F (tn : Int)) = true := by simpa using x2
                    have hwr : IntKind.i64.wrap (gi F (tn : Int) + cst) = gi F (x : Int) := by rw [IntKind.wrap_i64]; omega
                    have H1 := Lib.hid HS1
                    have H2 := Lib.hid HS2
                    have H3 := Lib.hid HS3
                    clear HNX HHIT HS1 HS2 HS3 x2 x3
                    go_quiet (fail)
                    have HZ : Below wy.heap.size wy (wy.drewN nq) := ⟨rfl, rfl, rfl, Nat.le_refl _, fun _ _ => rfl⟩
                    have HBZ := Lib.hid (HBY.out.trans (HZ.mono HBY.out.size))
                    have HOZ := Lib.hid (own_below HOY.out HZ (Nat.le_refl _))
                    have KX := Lib.hid ((HZ.block xe hxe).trans KZ.out)
                    have hxz := Nat.lt_of_lt_of_le hxe HZ.size
                    have hws := HBZ.out.size
                    clear HZ HBY HOY KZ p0 p1 e0 e1 e2 q2 hwr hxe
                    generalize wy.drewN nq = wz at *
                    have S3 : Hid (routeF es bl bn (gi F) an = (ws ++ [q]) ++ routeF es bl bn (gi F) tn) := by
                      show _ = _
                      rw [HR.out, H1.out, List.append_assoc]
                      rfl
                    have hm2 : m + 1 ≤ 39000 := by
                      have h1 := HRL.out
                      rw [S3.out, List.length_append, List.length_append, ← HM.out] at h1
                      simp at h1
                      omega
                    obtain ⟨i0, hi0, hz0, hz1, hz2⟩ := info_parts int_info
                    go_upto_region 16 with (at_builtin; (refine wpList_append_lies _ rfl _ _ 26 rfl w1.heap.size 3 i0 _ 1 8 Try.underlying26 hi0 hz0 hz1 hz2 rfl (by omega) _ m (intC (toI ws)) rfl (HOZ.out.alloc _) ⟨wz.heap.size, 0, none⟩ 1 1 [.int .i64 q] rfl rfl (World.news_of_block (cs := #[.int .i64 q]) (t := 3) (fr := (0, 0)) (heap_alloc_new wz _)) (by simp [Value.oneCell']) (by omega) (by unfold maxLen; omega) (by omega) (by simp; omega) (wz.heap.size + 1) (by simp) ?_); intro g' cp w6 hown hgrow hat hlt4)
                    have HB6 := Lib.hid (row_below HOZ.out hgrow HBZ.out hws)
                    have HO6 : Hid (w6.ownsRow w1.heap.size 3 1 (.slice (some ⟨g', 0, none⟩) (m + 1) cp) (m + 1) (intC (toI (ws ++ [q])))) := by
                      show World.ownsRow _ _ _ _ _ _ _
                      rw [show intC (toI (ws ++ [q])) = intC (toI ws) ++ [.int .i64 q] by simp [intC, toI]]
                      exact hown
                    have HM6 : Hid (m + 1 = (ws ++ [q]).length) := by
                      show _ = _
                      rw [List.length_append, ← HM.out]
                      rfl
                    have hbz : Below wz.heap.size wz (wz.alloc (.cells #[.int .i64 q] 3)) := (Below.refl _ _).alloc (Nat.le_refl _) _
                    have k6 := (hgrow.block xe (by simp; omega) (fun e => by have := hol xe (by first | exact e | exact e.symm); omega)).trans ((hbz.block xe hxz).trans KX.out)
                    have e1 := cell_of_row _ _ 1 _ _ _ k6
                    clear hown hgrow hat hlt4 hbz k6
                    go_wp2_with fail
                    go_roundw
                    case rel => exact ⟨ws ++ [q], m + 1, tn, _, rfl, rfl, by omega, hm2, HM6, HO6, S3, H2, ⟨HB6.out.os, HB6.out.tape, HB6.out.output, HB6.out.size, HB6.out.block⟩⟩
                    case measure =>
                      have h1 := H2.out
                      have h2 := H3.out
                      simp only [intOf]
                      omega
                  · have HN1 := Lib.hid (HNX.out (decide_eq_false x3))
                    have q2 : decide (0 ≤ gi F (tn : Int)) = true := by simpa using x2
                    have q3 : (gi F (tn : Int) + cst == gi F (x : Int)) = false := by simpa using x3
                    have hwr : IntKind.i64.wrap (gi F (tn : Int) + cst) = gi F (tn : Int) + cst := by rw [IntKind.wrap_i64]; omega
                    clear HNX HHIT x2 x3
                    go_quiet (fail)
                    have HZ : Below wy.heap.size wy (wy.drewN nq) := ⟨rfl, rfl, rfl, Nat.le_refl _, fun _ _ => rfl⟩
                    have HBZ := Lib.hid (HBY.out.trans (HZ.mono HBY.out.size))
                    go_wp2_with fail
                    go_roundw
                    case rel => exact ⟨q + 1, by omega, rfl, rfl, by go_num, HN1, own_below HOY.out HZ (Nat.le_refl _), ⟨HBZ.out.os, HBZ.out.tape, HBZ.out.output, HBZ.out.size, HBZ.out.block⟩⟩
                    case measure => simp [intOf]; omega
                · have HN1 := Lib.hid (HNX.out (by rw [decide_eq_false x2]; rfl))
                  have q2 : decide (0 ≤ gi F (tn : Int)) = false := by simpa using x2
                  clear HNX HHIT x2
                  go_quiet (fail)
                  have HZ : Below wy.heap.size wy (wy.drewN nq) := ⟨rfl, rfl, rfl, Nat.le_refl _, fun _ _ => rfl⟩
                  have HBZ := Lib.hid (HBY.out.trans (HZ.mono HBY.out.size))
                  go_wp2_with fail
                  go_roundw
                  case rel => exact ⟨q + 1, by omega, rfl, rfl, by go_num, HN1, own_below HOY.out HZ (Nat.le_refl _), ⟨HBZ.out.os, HBZ.out.tape, HBZ.out.output, HBZ.out.size, HBZ.out.block⟩⟩
                  case measure => simp [intOf]; omega
            · have HN1 := Lib.hid (HNX.out (by rw [decide_eq_false x1]; rfl))
              have q1 : (f == (x : Int)) = false := by simpa using x1
              clear HNX HHIT x1
              go_quiet (fail)
              have HZ : Below wy.heap.size wy (wy.drewN nq) := ⟨rfl, rfl, rfl, Nat.le_refl _, fun _ _ => rfl⟩
              have HBZ := Lib.hid (HBY.out.trans (HZ.mono HBY.out.size))
              go_wp2_with fail
              go_roundw
              case rel => exact ⟨q + 1, by omega, rfl, rfl, by go_num, HN1, own_below HOY.out HZ (Nat.le_refl _), ⟨HBZ.out.os, HBZ.out.tape, HBZ.out.output, HBZ.out.size, HBZ.out.block⟩⟩
              case measure => simp [intOf]; omega
          · exfalso
            obtain ⟨k, hk, h1⟩ := HFAR.out.on (v := (x : Int)) (by omega) (by omega) HX.out HXB.out
            rw [HNB.out k (by omega)] at h1
            cases h1
theorem rroute_any {n : Int} {es : List Ed} {w : World} (v bv : Value) (hv : EdgesAt w v es) (bl : List Int) (hb : IntsAt w bv bl) (a b : Int) :
    Calls Try.prog 13 #[.agg #[.int .i64 n, v], bv, .int .i64 a, .int .i64 b] w (RetTwo (routeS n es bl a b) w) := by
  cases h : rightB n es && (nodeB n a && nodeB n b) with
  | false => rw [routeS_arg h]; exact rroute_no v bv hv bl hb a b h
  | true =>
    rw [Bool.and_eq_true, Bool.and_eq_true] at h
    exact rroute_yes v bv hv bl hb a b (rightB_iff.1 h.1) h.2.1 h.2.2
end Go.Proofs.Ythmblgfcjbiomaa.Rt
