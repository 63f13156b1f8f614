import Derived.Test.YthmblgfcjbiomaaRs
/- The law RouteLeast. -/
set_option linter.unusedVariables false
set_option linter.unusedSimpArgs false
namespace Go.Proofs.Ythmblgfcjbiomaa.Rt
open Go.RowKit Ly

/-- A node leads to b where Far tells a cost. -/
theorem node_least {n : Int} {es : List Ed} {bl : List Int} {b : Int} (hr : RightL n es) (nb : nodeB n b = true) {k : Nat} (hk : (k : Int) < n) :
    (0 ≤ gi (farL n es bl b) (k : Int) ∧ b ∈ reachL n es bl (k : Int) ∧ ((k : Int) = b ∨ ((k : Int) ≠ b ∧ b ∉ bl))) ∨ (gi (farL n es bl b) (k : Int) < 0 ∧ b ∉ reachL n es bl (k : Int)) := by
  obtain ⟨b0, b1⟩ := nodeB_iff.1 nb
  have hf := (farL_spec (bl := bl) hr b0 b1).2.1
  have h1 := hf.reach (v := (k : Int)) (by omega) hk
  have h2 := mem_reach (bl := bl) hr (nodeB_iff.2 ⟨by omega, hk⟩ : nodeB n (k : Int) = true) (v := b)
  by_cases e : 0 ≤ gi (farL n es bl b) (k : Int)
  · refine .inl ⟨e, h2.2 ⟨nb, h1.1 e⟩, ?_⟩
    by_cases e2 : (k : Int) = b
    · exact .inl e2
    · refine .inr ⟨e2, ?_⟩
      rcases (h1.1 e).unblocked with x | x
      · exact absurd x.symm e2
      · exact x
  · exact .inr ⟨by omega, fun x => e (h1.2 (h2.1 x).2)⟩
/-- Far, as the law looks at it. -/
structure LstI (n : Int) (es : List Ed) (bl : List Int) (F : List Int) (b : Int) : Prop where
  here : gi F b = 0
  shut : ∀ k, k < es.length → (ate es k).2.1 ∉ bl → 0 ≤ gi F (ate es k).2.1 → 0 ≤ gi F (ate es k).1 ∧ gi F (ate es k).1 ≤ gi F (ate es k).2.1 + (ate es k).2.2
  le : ∀ v, 0 ≤ v → v < n → gi F v ≤ 39000
  node : ∀ k : Nat, (k : Int) < n → (0 ≤ gi F (k : Int) ∧ b ∈ reachL n es bl (k : Int) ∧ ((k : Int) = b ∨ ((k : Int) ≠ b ∧ b ∉ bl))) ∨ (gi F (k : Int) < 0 ∧ b ∉ reachL n es bl (k : Int))
theorem lst_of {n : Int} {es : List Ed} {bl : List Int} {b : Int} (hr : RightL n es) (nb : nodeB n b = true) : LstI n es bl (farL n es bl b) b := by
  obtain ⟨b0, b1⟩ := nodeB_iff.1 nb
  have hf := (farL_spec (bl := bl) hr b0 b1).2.1
  exact ⟨hf.here, fun k hk hb h => hf.shut k hk (mayB_iff.2 hb) h, farL_le hr b0 b1, fun k hk => node_least hr nb hk⟩

set_option maxRecDepth 100000 in
set_option maxHeartbeats 16000000 in
theorem lleast_walk {w : World} (a : Int) (ha : i64B a) (rv : Value) (L : List Ed) (hL : EdgesAt w rv L) (hB : RawB L) (bv : Value) (bl : List Int) (hb : IntsAt w bv bl) (z1 z2 : Int) (hz1 : i64B z1) (hz2 : i64B z2) :
    Calls Try.prog 4 #[.int .i64 a, rv, bv, .int .i64 z1, .int .i64 z2] w (Ret (.bool true) w) := by
  have CF := Lib.hid (fun w' (h : EdgesAt w' rv L) => fit_ex a ha rv L h hB)
  obtain ⟨Q, HQ⟩ : ∃ Q, Hid (Ret (.bool true) w = Q) := ⟨_, rfl⟩
  rw [HQ.out]
  have HL0 := Lib.hid hL
  have HI0 := Lib.hid hb
  clear hL hb
  go_enter Try.func4, Try.ntmps4
  go_upto_region 2 with (go_at_call 9; (with_reducible refine (awake12_any w).mono ?_); rintro e w1 ⟨rfl, hb1⟩)
  have HB1 := Lib.hid hb1
  have HL1 := Lib.hid (HL0.out.below hb1 (Nat.le_refl _))
  have HI1 := Lib.hid (HI0.out.below hb1 (Nat.le_refl _))
  clear hb1
  go_upto_region 3 with (go_at_call 10; (with_reducible refine (CF.out _ HL1.out).mono ?_); rintro e w2 ⟨n, v, es, rfl, n1, n8, hr, hel, he, hb2⟩; obtain ⟨eo, ec, rfl⟩ := slE he)
  have HK2 := Lib.hid (KX.start (w0 := w) (n := n) (HB1.out.trans (hb2.mono HB1.out.size)) he)
  have hb3 : Below w1.heap.size w1 (w2.alloc (.cells #[.int .i64 n, .slice eo es.length ec] 24)) := hb2.alloc hb2.size _
  have HI2 := Lib.hid (HI1.out.below hb3 (Nat.le_refl _))
  clear hb2 hb3 he
  generalize w2.heap.size = xb at *
  generalize w2.alloc (.cells #[.int .i64 n, .slice eo es.length ec] 24) = w3 at *
  have c0 := HK2.out.box.c0
  have c1 := HK2.out.box.c1
  have P1 := Lib.hid (pick12_any z1 n w3 hz1.1 hz1.2 (by omega) (by omega))
  have P2 := Lib.hid (pick12_any z2 n w3 hz2.1 hz2.2 (by omega) (by omega))
  have na := pick_node (c := z1) (n := n) (by omega)
  have nb := pick_node (c := z2) (n := n) (by omega)
  generalize pickS z1 n = ra at *
  generalize pickS z2 n = b at *
  have C1 := Lib.hid (fun w' (he : EdgesAt w' (.slice eo es.length ec) es) (hi : IntsAt w' bv bl) => far_read (n := n) _ bv he bl hi b hr nb)
  have C2 := Lib.hid (fun w' (he : EdgesAt w' (.slice eo es.length ec) es) (hi : IntsAt w' bv bl) => route_read (n := n) _ bv he bl hi ra b)
  have C3 := Lib.hid (fun w' (k : Int) (he : EdgesAt w' (.slice eo es.length ec) es) (hi : IntsAt w' bv bl) => reach_any (n := n) _ bv he bl hi k)
  have HLS := Lib.hid (lst_of (bl := bl) hr nb)
  have R1 := Lib.hid (route_in (bl := bl) hr na nb)
  have HRR := Lib.hid hr
  have lF := ints_far (bl := bl) hr nb
  generalize farL n es bl b = F at *
  generalize routeS n es bl ra b = r1 at *
  obtain ⟨l1, er1⟩ := r1
  obtain ⟨N, hN⟩ : ∃ N : Nat, n = (N : Int) := ⟨n.toNat, by omega⟩
  subst hN
  have lF' : F.length = N := by omega
  obtain ⟨a0, a1⟩ := nodeB_iff.1 na
  obtain ⟨b0, b1⟩ := nodeB_iff.1 nb
  obtain ⟨an, rfl⟩ : ∃ q : Nat, ra = (q : Int) := ⟨ra.toNat, by omega⟩
  obtain ⟨bn, rfl⟩ : ∃ q : Nat, b = (q : Int) := ⟨b.toNat, by omega⟩
  clear lF na nb
  go_upto_region 5 with (first
    | (go_at_call 11; (with_reducible refine (P1.out).mono ?_); rintro e w4 ⟨rfl, rfl⟩)
    | (go_at_call 11; (with_reducible refine (P2.out).mono ?_); rintro e w4 ⟨rfl, rfl⟩))
  clear P1 P2 CF
  go_upto_region 6 with (go_at_call 17; (with_reducible refine (C1.out _ HK2.out.ed HI2.out).mono ?_); rintro e w4 ⟨v4, rfl, hv4, hb⟩; have HK4 := Lib.hid (HK2.out.grow hb); have HI4 := Lib.hid (HI2.out.below hb (Nat.le_refl _)); have HF4 := Lib.hid hv4; have d0 := HK4.out.box.c0; have d1 := HK4.out.box.c1; clear hb hv4)
  clear c0 c1 C1
  obtain ⟨fo, fc, rfl⟩ := slN HF4.out lF'
  obtain ⟨_, _, hf1, hf2, hf3⟩ := HF4.out
  simp only [Value.slice.injEq] at hf1
  obtain ⟨rfl, -, -⟩ := hf1
  obtain ⟨fb, fof, rfl, lf, hfs⟩ := hf3 (by omega)
  have HFC : Hid (∀ W, Below w4.heap.size w4 W → ∀ q : Nat, q < N → W.cell? ⟨fb, fof + q, none⟩ = some (.int .i64 (gi F (q : Int)))) := fun W h q hq => by
    have := (h.cell (p := ⟨fb, fof + q, none⟩) lf).trans (hfs q (by omega))
    rwa [ati_gi (by omega)] at this
  have ub := HFC.out w4 (Below.refl _ _) bn (by omega)
  rw [HLS.out.here] at ub
  clear hf2 hf3 hfs
  go_upto_region 8 with fail
  clear ub d0 d1
  go_wp2_with fail
  go_loopw [16] (fun i wr => ∃ k : Nat, k ≤ es.length ∧ i = .int .i64 k ∧ Hid (Below w4.heap.size w4 wr)) (fun i _ => es.length - (intOf i).toNat)
  case atStart => exact ⟨0, Nat.zero_le _, rfl, Below.refl _ _⟩
  case round =>
    obtain ⟨k, hk, rfl, HBX⟩ := hrel
    have c0 := (HK4.out.grow HBX.out).box.c0
    have c1 := (HK4.out.grow HBX.out).box.c1
    by_cases hlk : k < es.length
    · obtain ⟨ea, ec', he1, he2, he3⟩ := HK4.out.ed
      cases he1
      obtain ⟨eb, eof, rfl, le, hes⟩ := he3 (by omega)
      have g0 := (HBX.out.cell (p := ⟨eb, eof + k * 3, none⟩) le).trans (hes k hlk).1
      have g1 := (HBX.out.cell (p := ⟨eb, eof + k * 3 + 1, none⟩) le).trans (hes k hlk).2.1
      have g2 := (HBX.out.cell (p := ⟨eb, eof + k * 3 + 2, none⟩) le).trans (hes k hlk).2.2
      obtain ⟨⟨s0, s1⟩, ⟨t0, t1⟩, _, cc0, cc1⟩ := HRR.out.at hlk
      have hsh := HLS.out.shut k hlk
      have hle := HLS.out.le _ t0 t1
      generalize (ate es k).1 = f at *
      generalize (ate es k).2.1 = t at *
      generalize (ate es k).2.2 = c at *
      obtain ⟨fn, rfl⟩ : ∃ q : Nat, f = (q : Int) := ⟨f.toNat, by omega⟩
      obtain ⟨tn, rfl⟩ : ∃ q : Nat, t = (q : Int) := ⟨t.toNat, by omega⟩
      clear he2 he3 hes
      have u0 := HFC.out _ HBX.out fn (by omega)
      have u1 := HFC.out _ HBX.out tn (by omega)
      go_upto_region 12 with fail
      clear c0 c1 g0 g1 g2 u0 u1
      have HBY := Lib.hid (HBX.out.alloc HBX.out.size (.cells #[.int .i64 fn, .int .i64 tn, .int .i64 c] 41))
      have ky : (wr.alloc (.cells #[.int .i64 fn, .int .i64 tn, .int .i64 c] 41)).heap[wr.heap.size]? = some (.cells #[.int .i64 fn, .int .i64 tn, .int .i64 c] 41 (0, 0)) := heap_alloc_new wr _
      generalize wr.heap.size = xe at *
      generalize wr.alloc (.cells #[.int .i64 fn, .int .i64 tn, .int .i64 c] 41) = wy at *
      have e0 := cell_of_row _ _ 0 _ _ _ ky
      have e1 := cell_of_row _ _ 1 _ _ _ ky
      have e2 := cell_of_row _ _ 2 _ _ _ ky
      clear ky
      have p0 := HFC.out _ HBY.out fn (by omega)
      have p1 := HFC.out _ HBY.out tn (by omega)
      generalize gi F (fn : Int) = df at *
      generalize gi F (tn : Int) = dt at *
      cases hm : decide ((tn : Int) ∈ bl) with
      | true =>
        have HC := Lib.hid (fun u => (has12_any bl tn _ (wy.drewN u) (HI4.out.below (HBY.out.trans ⟨rfl, rfl, rfl, Nat.le_refl _, fun _ _ => rfl⟩) (Nat.le_refl _)) true hm).mono fun e w' ⟨h1, h2⟩ => (⟨h1, h2.symm⟩ : e = _ ∧ w' = wy.drewN u))
        clear hsh hm
        go_quiet ((go_at_call 21; (with_reducible refine Calls.quiet_of_same (HC.out _))))
        have HBn : Hid (Below w4.heap.size w4 (wy.drewN nq)) := HBY.out.trans ⟨rfl, rfl, rfl, Nat.le_refl _, fun _ _ => rfl⟩
        go_wp2_with fail
        go_roundw
        case rel => exact ⟨k + 1, by omega, by go_num, ⟨HBn.out.os, HBn.out.tape, HBn.out.output, HBn.out.size, HBn.out.block⟩⟩
        case measure => simp [intOf]; omega
      | false =>
        have HC := Lib.hid (fun u => (has12_any bl tn _ (wy.drewN u) (HI4.out.below (HBY.out.trans ⟨rfl, rfl, rfl, Nat.le_refl _, fun _ _ => rfl⟩) (Nat.le_refl _)) false hm).mono fun e w' ⟨h1, h2⟩ => (⟨h1, h2.symm⟩ : e = _ ∧ w' = wy.drewN u))
        have hs := hsh (by simpa using hm)
        clear hm hsh
        by_cases x3 : 0 ≤ dt
        · obtain ⟨hs1, hs2⟩ := hs x3
          have q3 : decide (0 ≤ dt) = true := by simpa using x3
          have q4 : decide (df < 0) = false := by simpa using hs1
          have q5 : decide (dt + c < df) = false := by simpa using hs2
          have hwr : IntKind.i64.wrap (dt + c) = dt + c := by rw [IntKind.wrap_i64]; omega
          clear hs hs1 hs2 x3
          go_quiet ((go_at_call 21; (with_reducible refine Calls.quiet_of_same (HC.out _))))
          have HBn : Hid (Below w4.heap.size w4 (wy.drewN nq)) := HBY.out.trans ⟨rfl, rfl, rfl, Nat.le_refl _, fun _ _ => rfl⟩
          go_wp2_with fail
          go_roundw
          case rel => exact ⟨k + 1, by omega, by go_num, ⟨HBn.out.os, HBn.out.tape, HBn.out.output, HBn.out.size, HBn.out.block⟩⟩
          case measure => simp [intOf]; omega
        · have q3 : decide (0 ≤ dt) = false := by simpa using x3
          clear hs x3
          go_quiet ((go_at_call 21; (with_reducible refine Calls.quiet_of_same (HC.out _))))
          have HBn : Hid (Below w4.heap.size w4 (wy.drewN nq)) := HBY.out.trans ⟨rfl, rfl, rfl, Nat.le_refl _, fun _ _ => rfl⟩
          go_wp2_with fail
          go_roundw
          case rel => exact ⟨k + 1, by omega, by go_num, ⟨HBn.out.os, HBn.out.tape, HBn.out.output, HBn.out.size, HBn.out.block⟩⟩
          case measure => simp [intOf]; omega
    · obtain rfl : k = es.length := by omega
      go_wp2_with fail
      clear c0 c1
      go_loopw [18] (fun i wx => ∃ k : Nat, k ≤ N ∧ i = .int .i64 k ∧ Hid (Below w4.heap.size w4 wx)) (fun i _ => N - (intOf i).toNat)
      case atStart => exact ⟨0, Nat.zero_le _, rfl, HBX⟩
      case round =>
        obtain ⟨k, hk, rfl, HBZ⟩ := hrel
        have c0 := (HK4.out.grow HBZ.out).box.c0
        have c1 := (HK4.out.grow HBZ.out).box.c1
        by_cases hlk : k < N
        · have CR := Lib.hid (C3.out wr k (HK4.out.grow HBZ.out).ed (HI4.out.below HBZ.out (Nat.le_refl _)))
          have hnode := HLS.out.node k (by omega)
          generalize reachL (N : Int) es bl (k : Int) = rl at *
          go_upto_region 18 with (go_at_call 22; (with_reducible refine (CR.out).mono ?_); rintro e wy ⟨vy, rfl, hvy, hby⟩; have HBY := Lib.hid (HBZ.out.trans (hby.mono HBZ.out.size)); have HVY := Lib.hid hvy; clear hby hvy)
          clear c0 c1 CR
          have p0 := HFC.out _ HBY.out k (by omega)
          generalize gi F (k : Int) = dk at *
          rcases hnode with ⟨x1, x2, x3⟩ | ⟨x1, x2⟩
          · have HC1 := Lib.hid (fun u => (has12_any rl bn _ (wy.drewN u) (HVY.out.below ⟨rfl, rfl, rfl, Nat.le_refl _, fun _ _ => rfl⟩ (Nat.le_refl _)) true (by simpa using x2)).mono fun e w' ⟨h1, h2⟩ => (⟨h1, h2.symm⟩ : e = _ ∧ w' = wy.drewN u))
            have q1 : decide (0 ≤ dk) = true := by simpa using x1
            clear x1 x2
            rcases x3 with x3 | ⟨x3, x4⟩
            · have x5 : bn = k := by omega
              subst x5
              clear x3
              go_quiet ((go_at_call 21; (with_reducible refine Calls.quiet_of_same (HC1.out _))))
              have HBn : Hid (Below w4.heap.size w4 (wy.drewN nq)) := HBY.out.trans ⟨rfl, rfl, rfl, Nat.le_refl _, fun _ _ => rfl⟩
              go_wp2_with fail
              go_roundw
              case rel => exact ⟨bn + 1, by omega, by go_num, ⟨HBn.out.os, HBn.out.tape, HBn.out.output, HBn.out.size, HBn.out.block⟩⟩
              case measure => simp [intOf]; omega
            · have HC2 := Lib.hid (fun u => (has12_any bl bn _ (wy.drewN u) (HI4.out.below (HBY.out.trans ⟨rfl, rfl, rfl, Nat.le_refl _, fun _ _ => rfl⟩) (Nat.le_refl _)) false (by simpa using x4)).mono fun e w' ⟨h1, h2⟩ => (⟨h1, h2.symm⟩ : e = _ ∧ w' = wy.drewN u))
              have q2 : ((k : Int) == (bn : Int)) = false := by simpa using x3
              clear x3 x4
              go_quiet ((go_at_call 21; first | (with_reducible refine Calls.quiet_of_same (HC1.out _)) | (with_reducible refine Calls.quiet_of_same (HC2.out _))))
              have HBn : Hid (Below w4.heap.size w4 (wy.drewN nq)) := HBY.out.trans ⟨rfl, rfl, rfl, Nat.le_refl _, fun _ _ => rfl⟩
              go_wp2_with fail
              go_roundw
              case rel => exact ⟨k + 1, by omega, by go_num, ⟨HBn.out.os, HBn.out.tape, HBn.out.output, HBn.out.size, HBn.out.block⟩⟩
              case measure => simp [intOf]; omega
          · have HC1 := Lib.hid (fun u => (has12_any rl bn _ (wy.drewN u) (HVY.out.below ⟨rfl, rfl, rfl, Nat.le_refl _, fun _ _ => rfl⟩ (Nat.le_refl _)) false (by simpa using x2)).mono fun e w' ⟨h1, h2⟩ => (⟨h1, h2.symm⟩ : e = _ ∧ w' = wy.drewN u))
            have q1 : decide (0 ≤ dk) = false := by simpa using x1
            clear x1 x2
            go_quiet ((go_at_call 21; (with_reducible refine Calls.quiet_of_same (HC1.out _))))
            have HBn : Hid (Below w4.heap.size w4 (wy.drewN nq)) := HBY.out.trans ⟨rfl, rfl, rfl, Nat.le_refl _, fun _ _ => rfl⟩
            go_wp2_with fail
            go_roundw
            case rel => exact ⟨k + 1, by omega, by go_num, ⟨HBn.out.os, HBn.out.tape, HBn.out.output, HBn.out.size, HBn.out.block⟩⟩
            case measure => simp [intOf]; omega
        · obtain rfl : k = N := by omega
          have CT := Lib.hid (C2.out wr (HK4.out.grow HBZ.out).ed (HI4.out.below HBZ.out (Nat.le_refl _)))
          go_upto_region 21 with (go_at_call 12; (with_reducible refine (CT.out).mono ?_); rintro e w5 ⟨v5, rfl, hv5, hb⟩; have HB5 := Lib.hid (HBZ.out.trans (hb.mono HBZ.out.size)); have HV5 := Lib.hid hv5; clear hb hv5)
          clear c0 c1 CT C2 C3
          have p0 := HFC.out _ HB5.out an (by omega)
          have HK5 := Lib.hid (HK4.out.grow HB5.out)
          have HI5 := Lib.hid (HI4.out.below HB5.out (Nat.le_refl _))
          rcases R1.out with ⟨h0, h1⟩ | ⟨h0, ks, h1, hw1, hcs, hl1, -⟩
          · cases h1
            obtain ⟨ro, rc, rfl⟩ := slI HV5.out
            have HF : Hid (Q (.returned (.bool true)) w5) := by
              show Q _ _
              rw [← HQ.out]
              exact ⟨rfl, HK5.out.below⟩
            generalize gi F (an : Int) = da at *
            have q0 : decide (da < 0) = true := by simpa using h0
            clear h0 R1
            go_wp2_with fail
            exact HF.out
          · cases h1
            have CW := Lib.hid (fun (dd : Nat) (os : Array Obj) => Calls.regrown_of (w := w5) (d := dd) (os := os) (way12_any (n := (k : Int)) _ bv v5 (HK5.out.ed.below (below_regrown w5 dd os) (Nat.le_refl _)) bl (HI5.out.below (below_regrown w5 dd os) (Nat.le_refl _)) ks (HV5.out.below (below_regrown w5 dd os) (Nat.le_refl _)) HRR.out an bn hw1 (by omega)))
            have CC := Lib.hid (fun (dd : Nat) (os : Array Obj) => Calls.regrown_of (w := w5) (d := dd) (os := os) (by have := cost_any (n := (k : Int)) _ v5 (HK5.out.ed.below (below_regrown w5 dd os) (Nat.le_refl _)) (toI ks) (HV5.out.below (below_regrown w5 dd os) (Nat.le_refl _)) HRR.out (by rw [toI_len]; omega); rw [costI_toI hw1.lt, hcs] at this; exact this))
            clear R1 hw1 hcs
            generalize gi F (an : Int) = da at *
            have q0 : decide (da < 0) = false := by simpa using h0
            go_upto_region 23 with fail
            have y0 := cell_regrown HK5.out.box.c0
            have y1 := cell_regrown HK5.out.box.c1
            have y2 := cell_regrown p0
            clear p0
            refine wp_region_quiet_below mixed (by kernel_rfl) ?_
            repeat (quiet_step (first | with_reducible exact CW.out _ _ | with_reducible exact CC.out _ _))
            refine wpQuiet_nil ?_
            intro _ hw'
            obtain ⟨⟨dq, osq⟩, hw''⟩ := hw'
            subst hw''
            have HBN := Lib.hid (HK5.out.below.trans ((below_regrown w5 dq osq).mono HK5.out.below.size))
            clear y0 y1 y2
            go_wp2_with fail
            rw [← HQ.out]
            exact ⟨rfl, HBN.out⟩
theorem lleast_row (x0 : Int) (v1 : Value) (z1 : List Ed) (v2 : Value) (z2 : List Int) (x3 x4 : Int) (W : World) (b0 : -9223372036854775808 ≤ x0) (c0 : x0 ≤ 9223372036854775807) (h1 : EdgesAt W v1 z1 ∧ RawB z1) (h2 : IntsAt W v2 z2 ∧ z2.length * 8 ≤ 140737488351232)
    (b3 : -9223372036854775808 ≤ x3) (c3 : x3 ≤ 9223372036854775807) (b4 : -9223372036854775808 ≤ x4) (c4 : x4 ≤ 9223372036854775807) :
    Calls Try.prog 4 #[.int .i64 x0, v1, v2, .int .i64 x3, .int .i64 x4] W (Ret (.bool true) W) :=
  lleast_walk x0 ⟨b0, c0⟩ v1 z1 h1.1 h1.2 v2 z2 h2.1 x3 x4 ⟨b3, c3⟩ ⟨b4, c4⟩
end Go.Proofs.Ythmblgfcjbiomaa.Rt
