import Derived.Test.YthmblgfcjbiomaaRr
/- The law RouteFirst. -/
set_option linter.unusedVariables false
set_option linter.unusedSimpArgs false
namespace Go.Proofs.Ythmblgfcjbiomaa.Rt
open Go.RowKit Ly

/-- Each edge of the way is the first one that leads on as cheaply. -/
theorem routeL_first {n : Int} {es : List Ed} {bl : List Int} {b : Int} {d : Int → Int} (h : IsFar n es bl b d) (hr : RightL n es) : ∀ {f : Nat} {v : Int}, 0 ≤ v → v < n → 0 ≤ d v → d v ≤ f →
    ∀ i, i < (routeL es bl b d f v).length → firstB (onB es bl d (nodeAt es v (routeL es bl b d f v) i)) 0 es.length = some ((routeL es bl b d f v).getD i 0)
  | 0, v, v0, v1, hd, hf, i, hi => by simp [routeL] at hi
  | f + 1, v, v0, v1, hd, hf, i, hi => by
    by_cases hv : v = b
    · subst hv; rw [routeL_at] at hi; simp at hi
    · obtain ⟨k, hk, h1⟩ := h.on v0 v1 hd hv
      obtain ⟨m, h2, _, h3, h4, _⟩ := first_found (p := onB es bl d v) (k := es.length) (i := 0) ⟨k, Nat.zero_le _, by omega, h1⟩
      rw [routeL_on hv h2] at hi ⊢
      obtain ⟨g1, g2, g3, g4⟩ := onB_iff.1 h4
      obtain ⟨_, ⟨t0, t1⟩, _, c1, _⟩ := hr.at (show m < es.length by omega)
      cases i with
      | zero => simpa [nodeAt] using h2
      | succ i =>
        rw [nodeAt_cons]
        simpa using routeL_first h hr t0 t1 g3 (by omega) i (by simpa using hi)
theorem routeF_first {n : Int} {es : List Ed} {bl : List Int} {b : Int} {d : Int → Int} (h : IsFar n es bl b d) (hr : RightL n es) {v : Int} (v0 : 0 ≤ v) (v1 : v < n) (hd : 0 ≤ d v) : ∀ i, i < (routeF es bl b d v).length → firstB (onB es bl d (nodeAt es v (routeF es bl b d v) i)) 0 es.length = some ((routeF es bl b d v).getD i 0) :=
  routeL_first h hr v0 v1 hd (by omega)
/-- What the law asks of Route's way. -/
structure FstI (n : Int) (es : List Ed) (bl : List Int) (F : List Int) (a b : Int) (ks : List Nat) : Prop where
  len : ks.length ≤ 39000
  lt : ∀ i, i < ks.length → ks.getD i 0 < es.length
  node : ∀ i, i ≤ ks.length → 0 ≤ nodeAt es a ks i ∧ nodeAt es a ks i < n
  no : ∀ i, i < ks.length → ∀ k, k < ks.getD i 0 → onB es bl (gi F) (nodeAt es a ks i) k = false
  fin : nodeAt es a ks ks.length = b
  le : ∀ v, 0 ≤ v → v < n → gi F v ≤ 39000
theorem fst_of {n : Int} {es : List Ed} {bl : List Int} {a b : Int} {ks : List Nat} (hr : RightL n es) (ha : nodeB n a = true) (hb : nodeB n b = true) (hd : 0 ≤ gi (farL n es bl b) a) (hk : ks = routeF es bl b (gi (farL n es bl b)) a) : FstI n es bl (farL n es bl b) a b ks := by
  obtain ⟨a0, a1⟩ := nodeB_iff.1 ha
  obtain ⟨b0, b1⟩ := nodeB_iff.1 hb
  have hf := (farL_spec (bl := bl) hr b0 b1).2.1
  have hw := (hf.route hr a0 a1 hd).1
  rw [← hk] at hw
  have hat := hw.at
  refine ⟨by rw [hk]; exact routeF_len hr b0 b1 a0 a1, fun i hi => (hat.2 i hi).1, fun i hi => ?_, fun i hi k hkl => ?_, hat.1, farL_le hr b0 b1⟩
  · cases i with
    | zero => exact ⟨a0, a1⟩
    | succ i =>
      obtain ⟨_, ⟨t0, t1⟩, _⟩ := hr.at (hat.2 i (by omega)).1
      exact ⟨t0, t1⟩
  · have h1 := routeF_first hf hr a0 a1 hd i (by rw [← hk]; exact hi)
    rw [← hk] at h1
    exact (firstB_of h1).2.2.2 k (Nat.zero_le _) hkl

set_option maxRecDepth 100000 in
set_option maxHeartbeats 16000000 in
theorem lfirst_walk {w : World} (a : Int) (ha : i64B a) (rv : Value) (L : List Ed) (hL : EdgesAt w rv L) (hB : RawB L) (bv : Value) (bl : List Int) (hb : IntsAt w bv bl) (z1 z2 : Int) (hz1 : i64B z1) (hz2 : i64B z2) :
    Calls Try.prog 5 #[.int .i64 a, rv, bv, .int .i64 z1, .int .i64 z2] w (Ret (.bool true) w) := by
  have CF := Lib.hid (fun w' (h : EdgesAt w' rv L) => fit_ex a ha rv L h hB)
  obtain ⟨Q, HQ⟩ : ∃ Q, Hid (Ret (.bool true) w = Q) := ⟨_, rfl⟩
  rw [HQ.out]
  have HL0 := Lib.hid hL
  have HI0 := Lib.hid hb
  clear hL hb
  go_enter Try.func5, Try.ntmps5
  go_upto_region 2 with (go_at_call 9; (with_reducible refine (awake12_any w).mono ?_); rintro e w1 ⟨rfl, hb1⟩)
  have HB1 := Lib.hid hb1
  have HL1 := Lib.hid (HL0.out.below hb1 (Nat.le_refl _))
  have HI1 := Lib.hid (HI0.out.below hb1 (Nat.le_refl _))
  clear hb1
  go_upto_region 3 with (go_at_call 10; (with_reducible refine (CF.out _ HL1.out).mono ?_); rintro e w2 ⟨n, v, es, rfl, n1, n8, hr, hel, he, hb2⟩; obtain ⟨eo, ec, rfl⟩ := slE he)
  have HK2 := Lib.hid (KX.start (w0 := w) (n := n) (HB1.out.trans (hb2.mono HB1.out.size)) he)
  have hb3 : Below w1.heap.size w1 (w2.alloc (.cells #[.int .i64 n, .slice eo es.length ec] 24)) := hb2.alloc hb2.size _
  have HI2 := Lib.hid (HI1.out.below hb3 (Nat.le_refl _))
  clear hb2 hb3 he
  generalize w2.heap.size = xb at *
  generalize w2.alloc (.cells #[.int .i64 n, .slice eo es.length ec] 24) = w3 at *
  have c0 := HK2.out.box.c0
  have c1 := HK2.out.box.c1
  have P1 := Lib.hid (pick12_any z1 n w3 hz1.1 hz1.2 (by omega) (by omega))
  have P2 := Lib.hid (pick12_any z2 n w3 hz2.1 hz2.2 (by omega) (by omega))
  have na := pick_node (c := z1) (n := n) (by omega)
  have nb := pick_node (c := z2) (n := n) (by omega)
  generalize pickS z1 n = ra at *
  generalize pickS z2 n = b at *
  have C1 := Lib.hid (fun w' (he : EdgesAt w' (.slice eo es.length ec) es) (hi : IntsAt w' bv bl) => far_read (n := n) _ bv he bl hi b hr nb)
  have C2 := Lib.hid (fun w' (he : EdgesAt w' (.slice eo es.length ec) es) (hi : IntsAt w' bv bl) => route_read (n := n) _ bv he bl hi ra b)
  have R1 : Hid (routeS n es bl ra b = ([], 120) ∨ ∃ ks, routeS n es bl ra b = (toI ks, 0) ∧ FstI n es bl (farL n es bl b) ra b ks) := by
    rcases route_in (bl := bl) hr na nb with ⟨_, h⟩ | ⟨h1, ks, h2, _, _, _, h3⟩
    · exact .inl h
    · exact .inr ⟨ks, h2, fst_of hr na nb h1 h3⟩
  have lF := ints_far (bl := bl) hr nb
  generalize farL n es bl b = F at *
  generalize routeS n es bl ra b = r1 at *
  obtain ⟨l1, er1⟩ := r1
  obtain ⟨N, hN⟩ : ∃ N : Nat, n = (N : Int) := ⟨n.toNat, by omega⟩
  subst hN
  have lF' : F.length = N := by omega
  clear lF
  go_upto_region 5 with (first
    | (go_at_call 11; (with_reducible refine (P1.out).mono ?_); rintro e w4 ⟨rfl, rfl⟩)
    | (go_at_call 11; (with_reducible refine (P2.out).mono ?_); rintro e w4 ⟨rfl, rfl⟩))
  clear P1 P2 CF
  go_upto_region 6 with (go_at_call 17; (with_reducible refine (C1.out _ HK2.out.ed HI2.out).mono ?_); rintro e w4 ⟨v4, rfl, hv4, hb⟩; have HK4 := Lib.hid (HK2.out.grow hb); have HI4 := Lib.hid (HI2.out.below hb (Nat.le_refl _)); have HF4 := Lib.hid hv4; have d0 := HK4.out.box.c0; have d1 := HK4.out.box.c1; clear hb hv4)
  clear c0 c1
  go_upto_region 7 with (go_at_call 12; (with_reducible refine (C2.out _ HK4.out.ed HI4.out).mono ?_); rintro e w5 ⟨v5, rfl, hv5, hb⟩; have HK5 := Lib.hid (HK4.out.grow hb); have HI5 := Lib.hid (HI4.out.below hb (Nat.le_refl _)); have HF5 := Lib.hid (HF4.out.below hb (Nat.le_refl _)); have HV5 := Lib.hid hv5; clear hb hv5)
  clear d0 d1 C1 C2
  have c0 := HK5.out.box.c0
  have c1 := HK5.out.box.c1
  obtain ⟨fo, fc, rfl⟩ := slN HF5.out lF'
  have HFIN : Hid (∀ wq, Below w5.heap.size w5 wq → Q (.returned (.bool true)) wq) := fun wq hq => by
    rw [← HQ.out]
    exact ⟨rfl, HK5.out.below.trans (hq.mono HK5.out.below.size)⟩
  rcases R1.out with h1 | ⟨ks, h1, hfs⟩
  · cases h1
    clear R1
    have hf := HFIN.out w5 (Below.refl _ _)
    have HF := Lib.hid hf
    clear hf
    go_wp2_with fail
    exact HF.out
  · cases h1
    have HRR := Lib.hid hr
    have HFS := Lib.hid hfs
    obtain ⟨ro, rc, rfl⟩ := slN HV5.out (toI_len ks)
    have hkl := hfs.len
    clear R1 hfs hr
    go_upto_region 9 with fail
    go_wp2_with fail
    go_loopw [18, 19] (fun nd i wr => ∃ k : Nat, k ≤ ks.length ∧ i = .int .i64 k ∧ nd = .int .i64 (nodeAt es ra ks k) ∧ Hid (Below w5.heap.size w5 wr)) (fun _ i _ => ks.length - (intOf i).toNat)
    case atStart => exact ⟨0, Nat.zero_le _, rfl, rfl, Below.refl _ _⟩
    case round =>
      obtain ⟨i, hi, rfl, rfl, HBW⟩ := hrel
      clear c0 c1
      by_cases hlt : i < ks.length
      · have hke := HFS.out.lt i hlt
        obtain ⟨nd0, nd1⟩ := HFS.out.node i (by omega)
        have HNO := Lib.hid (HFS.out.no i hlt)
        have HNN : Hid (nodeAt es ra ks (i + 1) = (ate es (ks.getD i 0)).2.1) := rfl
        obtain ⟨_, _, hv1, hv2, hv3⟩ := HV5.out
        rw [toI_len] at hv1 hv3
        simp only [Value.slice.injEq] at hv1
        obtain ⟨rfl, -, -⟩ := hv1
        obtain ⟨rb', rof, rfl, lr, hrs⟩ := hv3 (by omega)
        have r0 := hrs i hlt
        rw [ati_toI hlt] at r0
        have HR0 := Lib.hid r0
        generalize ks.getD i 0 = kk at *
        generalize nodeAt es ra ks i = nd at *
        obtain ⟨ndn, rfl⟩ : ∃ q : Nat, nd = (q : Int) := ⟨nd.toNat, by omega⟩
        clear hv2 hv3 hrs r0
        have y0 := (HBW.out.cell (p := ⟨rb', rof + i, none⟩) lr).trans HR0.out
        have c1 := (HK5.out.grow HBW.out).box.c1
        go_upto_region 13 with fail
        go_wp2_with fail
        clear y0 c1
        go_loopw [20] (fun q wx => ∃ k : Nat, k ≤ kk ∧ q = .int .i64 k ∧ Hid (Below w5.heap.size w5 wx)) (fun q _ => kk - (intOf q).toNat)
        case atStart => exact ⟨0, Nat.zero_le _, rfl, HBW⟩
        case round =>
          obtain ⟨k, hk, rfl, HBX⟩ := hrel
          have c1 := (HK5.out.grow HBX.out).box.c1
          have y0 := (HBX.out.cell (p := ⟨rb', rof + i, none⟩) lr).trans HR0.out
          obtain ⟨ea, ec', he1, he2, he3⟩ := HK5.out.ed
          cases he1
          obtain ⟨eb, eof, rfl, le, hes⟩ := he3 (by omega)
          by_cases hlk : k < kk
          · have hkE : k < es.length := by omega
            have g0 := (HBX.out.cell (p := ⟨eb, eof + k * 3, none⟩) le).trans (hes k hkE).1
            have g1 := (HBX.out.cell (p := ⟨eb, eof + k * 3 + 1, none⟩) le).trans (hes k hkE).2.1
            have g2 := (HBX.out.cell (p := ⟨eb, eof + k * 3 + 2, none⟩) le).trans (hes k hkE).2.2
            obtain ⟨_, ⟨t0, t1⟩, cc0, cc1⟩ := HRR.out.at hkE
            have hno := HNO.out k hlk
            have hle := HFS.out.le _ t0 t1
            unfold onB mayB at hno
            obtain ⟨_, _, hf1, hf2, hf3⟩ := HF5.out
            simp only [Value.slice.injEq] at hf1
            obtain ⟨rfl, -, -⟩ := hf1
            obtain ⟨fb, fof, rfl, lf, hfs⟩ := hf3 (by omega)
            generalize (ate es k).1 = f at *
            generalize (ate es k).2.1 = t at *
            generalize (ate es k).2.2 = c at *
            obtain ⟨tn, rfl⟩ : ∃ q : Nat, t = (q : Int) := ⟨t.toNat, by omega⟩
            have u0 := hfs ndn (by omega)
            have u1 := hfs tn (by omega)
            rw [ati_gi (by omega)] at u0 u1
            clear he2 he3 hes hf2 hf3 hfs
            generalize gi F ndn = dv at *
            generalize gi F tn = dt at *
            go_upto_region 17 with fail
            clear g0 g1 g2 c1 y0
            have HBY := Lib.hid (HBX.out.alloc HBX.out.size (.cells #[.int .i64 f, .int .i64 tn, .int .i64 c] 41))
            have ky : (wr.alloc (.cells #[.int .i64 f, .int .i64 tn, .int .i64 c] 41)).heap[wr.heap.size]? = some (.cells #[.int .i64 f, .int .i64 tn, .int .i64 c] 41 (0, 0)) := heap_alloc_new wr _
            generalize wr.heap.size = xe at *
            generalize wr.alloc (.cells #[.int .i64 f, .int .i64 tn, .int .i64 c] 41) = wy at *
            have e0 := cell_of_row _ _ 0 _ _ _ ky
            have e1 := cell_of_row _ _ 1 _ _ _ ky
            have e2 := cell_of_row _ _ 2 _ _ _ ky
            clear ky
            have p0 := (HBY.out.cell (p := ⟨fb, fof + ndn, none⟩) lf).trans u0
            have p1 := (HBY.out.cell (p := ⟨fb, fof + tn, none⟩) lf).trans u1
            by_cases x1 : f = ndn
            · subst x1
              cases hm : decide ((tn : Int) ∈ bl) with
              | true =>
                have HC := Lib.hid (fun u => (has12_any bl tn _ (wy.drewN u) (HI5.out.below (HBY.out.trans ⟨rfl, rfl, rfl, Nat.le_refl _, fun _ _ => rfl⟩) (Nat.le_refl _)) true hm).mono fun e w' ⟨h1, h2⟩ => (⟨h1, h2.symm⟩ : e = _ ∧ w' = wy.drewN u))
                clear hno hm
                go_quiet ((go_at_call 21; (with_reducible refine Calls.quiet_of_same (HC.out _))))
                have HBn : Hid (Below w5.heap.size w5 (wy.drewN nq)) := HBY.out.trans ⟨rfl, rfl, rfl, Nat.le_refl _, fun _ _ => rfl⟩
                go_wp2_with fail
                go_roundw
                case rel => exact ⟨k + 1, by omega, by go_num, ⟨HBn.out.os, HBn.out.tape, HBn.out.output, HBn.out.size, HBn.out.block⟩⟩
                case measure => simp [intOf]; omega
              | false =>
                have HC := Lib.hid (fun u => (has12_any bl tn _ (wy.drewN u) (HI5.out.below (HBY.out.trans ⟨rfl, rfl, rfl, Nat.le_refl _, fun _ _ => rfl⟩) (Nat.le_refl _)) false hm).mono fun e w' ⟨h1, h2⟩ => (⟨h1, h2.symm⟩ : e = _ ∧ w' = wy.drewN u))
                rw [hm] at hno
                clear hm
                by_cases x3 : 0 ≤ dt
                · have q3 : decide (0 ≤ dt) = true := by simpa using x3
                  have q4' : decide (dt + c = dv) = false := by simpa [x3] using hno
                  have q4 : (dt + c == dv) = false := by simpa using q4'
                  clear q4'
                  have hwr : IntKind.i64.wrap (dt + c) = dt + c := by rw [IntKind.wrap_i64]; omega
                  clear hno x3
                  go_quiet ((go_at_call 21; (with_reducible refine Calls.quiet_of_same (HC.out _))))
                  have HBn : Hid (Below w5.heap.size w5 (wy.drewN nq)) := HBY.out.trans ⟨rfl, rfl, rfl, Nat.le_refl _, fun _ _ => rfl⟩
                  go_wp2_with fail
                  go_roundw
                  case rel => exact ⟨k + 1, by omega, by go_num, ⟨HBn.out.os, HBn.out.tape, HBn.out.output, HBn.out.size, HBn.out.block⟩⟩
                  case measure => simp [intOf]; omega
                · have q3 : decide (0 ≤ dt) = false := by simpa using x3
                  clear hno x3
                  go_quiet ((go_at_call 21; (with_reducible refine Calls.quiet_of_same (HC.out _))))
                  have HBn : Hid (Below w5.heap.size w5 (wy.drewN nq)) := HBY.out.trans ⟨rfl, rfl, rfl, Nat.le_refl _, fun _ _ => rfl⟩
                  go_wp2_with fail
                  go_roundw
                  case rel => exact ⟨k + 1, by omega, by go_num, ⟨HBn.out.os, HBn.out.tape, HBn.out.output, HBn.out.size, HBn.out.block⟩⟩
                  case measure => simp [intOf]; omega
            · have q1 : (f == (ndn : Int)) = false := by simpa using x1
              clear hno x1
              go_quiet (fail)
              have HBn : Hid (Below w5.heap.size w5 (wy.drewN nq)) := HBY.out.trans ⟨rfl, rfl, rfl, Nat.le_refl _, fun _ _ => rfl⟩
              go_wp2_with fail
              go_roundw
              case rel => exact ⟨k + 1, by omega, by go_num, ⟨HBn.out.os, HBn.out.tape, HBn.out.output, HBn.out.size, HBn.out.block⟩⟩
              case measure => simp [intOf]; omega
          · obtain rfl : k = kk := by omega
            have G1 := Lib.hid (hes k hke).2.1
            have dk0 : decide ((k : Int) < 0) = false := by simp
            have dk1 : decide (es.length ≤ k) = false := by simp; omega
            clear he2 he3 hes HNO
            go_upto_region 19 with fail
            go_quiet (fail)
            have HBY : Hid (Below w5.heap.size w5 (wr.drewN nq)) := HBX.out.trans ⟨rfl, rfl, rfl, Nat.le_refl _, fun _ _ => rfl⟩
            go_upto_region 21 with fail
            have y1 := (HBY.out.cell (p := ⟨rb', rof + i, none⟩) lr).trans HR0.out
            have g1 := (HBY.out.cell (p := ⟨eb, eof + k * 3 + 1, none⟩) le).trans G1.out
            have c3 := (HK5.out.grow HBY.out).box.c1
            clear y0 c1
            generalize wr.drewN nq = w7 at *
            go_quiet (fail)
            go_wp2_with fail
            go_roundw
            case rel => exact ⟨i + 1, by omega, by go_num, by rw [HNN.out], ⟨HBY.out.os, HBY.out.tape, HBY.out.output, HBY.out.size, HBY.out.block⟩⟩
            case measure => simp [intOf]; omega
      · obtain rfl : i = ks.length := by omega
        rw [HFS.out.fin]
        have hf := HFIN.out wr HBW.out
        have HF := Lib.hid hf
        clear hf
        go_wp2_with fail
        exact HF.out
theorem lfirst_row (x0 : Int) (v1 : Value) (z1 : List Ed) (v2 : Value) (z2 : List Int) (x3 x4 : Int) (W : World) (b0 : -9223372036854775808 ≤ x0) (c0 : x0 ≤ 9223372036854775807) (h1 : EdgesAt W v1 z1 ∧ RawB z1) (h2 : IntsAt W v2 z2 ∧ z2.length * 8 ≤ 140737488351232)
    (b3 : -9223372036854775808 ≤ x3) (c3 : x3 ≤ 9223372036854775807) (b4 : -9223372036854775808 ≤ x4) (c4 : x4 ≤ 9223372036854775807) :
    Calls Try.prog 5 #[.int .i64 x0, v1, v2, .int .i64 x3, .int .i64 x4] W (Ret (.bool true) W) :=
  lfirst_walk x0 ⟨b0, c0⟩ v1 z1 h1.1 h1.2 v2 z2 h2.1 x3 x4 ⟨b3, c3⟩ ⟨b4, c4⟩
end Go.Proofs.Ythmblgfcjbiomaa.Rt
