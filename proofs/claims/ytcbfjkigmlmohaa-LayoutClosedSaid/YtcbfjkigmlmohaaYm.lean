import Derived.Test.YtcbfjkigmlmohaaYl
/- The law LayoutClosed. -/
set_option linter.unusedVariables false
set_option linter.unusedSimpArgs false
namespace Go.Proofs.Ytcbfjkigmlmohaa.Ly
open Go.RowKit

theorem closed_reach {n : Int} {es : List Ed} (hr : RightL n es) {a : Int} (ha : nodeB n a = true) {bl : List Int} {e : Ed} (he : e ∈ es) (h1 : e.1 ∈ reachL n es bl a) (h3 : ¬ e.2.1 ∈ bl) : e.2.1 ∈ reachL n es bl a :=
  (mem_reach hr ha).2 ⟨nodeB_iff.2 (hr.edge he).2.1, .over he ((mem_reach hr ha).1 h1).2 h3⟩
theorem reach_asc {n : Int} {es : List Ed} (hr : RightL n es) {a : Int} (ha : nodeB n a = true) {bl : List Int} {i j : Nat} (h1 : i < j) (h2 : j < (reachL n es bl a).length) : ati (reachL n es bl a) i < ati (reachL n es bl a) j := by
  have e := reach_eq hr ha bl
  generalize reachL n es bl a = R at *
  subst e
  exact selL_asc h1 h2
theorem has_below {l : List Int} {x : Int} {v : Value} {w : World} (h : IntsAt w v l) {t : Bool} (ht : decide (x ∈ l) = t) : Calls Try.prog 24 #[v, .int .i64 x] w (fun e w' => e = .returned (.bool t) ∧ Below w.heap.size w w') :=
  (has_any l x v w h t ht).mono fun e w' ⟨h1, h2⟩ => ⟨h1, by rw [← h2]; exact Below.refl _ _⟩
set_option maxRecDepth 100000 in
set_option maxHeartbeats 16000000 in
theorem lclosed_walk {w : World} (a : Int) (ha : i64B a) (rv : Value) (L : List Ed) (hL : EdgesAt w rv L) (hB : RawB L) (bv : Value) (bl : List Int) (hbl : IntsAt w bv bl) (f : Int) (hf : i64B f) :
    Calls Try.prog 4 #[.int .i64 a, rv, bv, .int .i64 f] w (Ret (.bool true) w) := by
  have CF := Lib.hid (fun w' (h : EdgesAt w' rv L) => fit_ex a ha rv L h hB)
  have HL := Lib.hid hL
  have HU := Lib.hid hbl
  have HFB := Lib.hid hf
  obtain ⟨ub, uc, rfl⟩ := hbl.form
  clear ha hL hB hbl hf
  obtain ⟨Q, HQ⟩ : ∃ Q, Hid (Ret (.bool true) w = Q) := ⟨_, rfl⟩
  rw [HQ.out]
  go_enter Try.func4, Try.ntmps4
  go_upto_region 3 with (first
    | (go_at_call 10; (with_reducible refine (awake_any _).mono ?_); rintro e w1 ⟨rfl, hb⟩; have HB1 := Lib.hid hb; have HL1 := Lib.hid (HL.out.below hb (Nat.le_refl _)); have HU1 := Lib.hid (HU.out.below hb (Nat.le_refl _)); clear hb)
    | (go_at_call 11; (with_reducible refine (CF.out _ HL1.out).mono ?_); rintro e w2 ⟨n, v, es, rfl, n1, n8, hr, h24, hed, hb⟩; obtain ⟨eo, ec, rfl⟩ := hed.form; have HR := Lib.hid hr; have HK2 := Lib.hid (KX.start (n := n) (HB1.out.trans (hb.mono HB1.out.size)) hed); have HU2 := Lib.hid (HU1.out.below hb (Nat.le_refl _)); clear hr hed hb))
  have HU3 := Lib.hid (HU2.out.below ((Below.refl _ w2).alloc (Nat.le_refl _) (.cells #[.int .i64 n, .slice eo es.length ec] 24)) (Nat.le_refl _))
  generalize hW : w2.alloc (.cells #[.int .i64 n, .slice eo es.length ec] 24) = wB at *
  clear hW
  have CP := Lib.hid (fun w' => pick_any f n w' HFB.out.1 HFB.out.2 (by omega) (by omega))
  have hx : nodeB n (pickS f n) = true := nodeB_iff.2 ⟨pickS_nonneg (by omega), pickS_lt (by omega)⟩
  generalize pickS f n = x at *
  have CR := Lib.hid (fun w' (hu : EdgesAt w' (.slice eo es.length ec) es) (hb : IntsAt w' (.slice ub bl.length uc) bl) => reach_any (n := n) (es := es) (w := w') _ (.slice ub bl.length uc) hu bl hb x)
  have HCl := Lib.hid (fun (e : Ed) (he : e ∈ es) h1 h3 => closed_reach HR.out hx (bl := bl) he h1 h3)
  have HMem := Lib.hid (fun v => mem_reach HR.out hx (bl := bl) (v := v))
  have HAsc := Lib.hid (fun i j h1 h2 => reach_asc HR.out hx (bl := bl) (i := i) (j := j) h1 h2)
  generalize w2.heap.size = bx at *
  have c0 := HK2.out.box.c0
  have c1 := HK2.out.box.c1
  generalize hRR : reachL n es bl x = R at *
  have HXR : Hid (x ∈ R) := (HMem.out x).2 ⟨hx, .here⟩
  clear hRR CF hx
  go_upto_region 5 with (first
    | (go_at_call 12; (with_reducible refine (CP.out _).mono ?_); rintro e w3 ⟨rfl, rfl⟩)
    | (go_at_call 18; (with_reducible refine (CR.out _ HK2.out.ed HU3.out).mono ?_); rintro e w4 ⟨v4, rfl, hv4, hb⟩; have HK4 := Lib.hid (HK2.out.grow hb); have HU4 := Lib.hid (HU3.out.below hb (Nat.le_refl _)); have HV4 := Lib.hid hv4; clear hb hv4))
  obtain ⟨mb, mc, rfl⟩ := HV4.out.form
  clear c0 c1
  have c1 := HK4.out.box.c1
  obtain ⟨eo', ec', hveq, _, hcs⟩ := HK4.out.ed
  simp only [Value.slice.injEq] at hveq
  obtain ⟨rfl, -, -⟩ := hveq
  have HCS := Lib.hid hcs
  clear hcs
  go_wp2_with fail
  go_loop [13] (fun i => ∃ k : Nat, k ≤ es.length ∧ i = .int .i64 k) (fun i => es.length - (intOf i).toNat)
  case atStart => exact ⟨0, Nat.zero_le _, rfl⟩
  case round =>
    obtain ⟨k, hk, rfl⟩ := hrel
    by_cases hlt : k < es.length
    · obtain ⟨eb, eof, rfl, elb, hcs⟩ := HCS.out (by omega)
      obtain ⟨g0, g1, g2⟩ := hcs k hlt
      clear hcs g2
      have HEM : Hid (ate es k ∈ es) := ate_mem hlt
      have HClk := Lib.hid (HCl.out _ HEM.out)
      generalize (ate es k).1 = ef at *
      generalize (ate es k).2.1 = eg at *
      obtain ⟨t1, ht1⟩ : ∃ t, decide (ef ∈ R) = t := ⟨_, rfl⟩
      obtain ⟨t2, ht2⟩ : ∃ t, decide (eg ∈ R) = t := ⟨_, rfl⟩
      obtain ⟨t3, ht3⟩ : ∃ t, decide (eg ∈ bl) = t := ⟨_, rfl⟩
      have C1 := Lib.hid (has_any R ef _ w4 HV4.out t1 ht1)
      have C2 := Lib.hid (has_any R eg _ w4 HV4.out t2 ht2)
      have C3 := Lib.hid (has_any bl eg _ w4 HU4.out t3 ht3)
      have HT : Hid (t1 = true → t2 = false → t3 = true) := fun h1 h2 => by
        subst h1 h2
        rw [decide_eq_true_iff] at ht1
        rw [decide_eq_false_iff_not] at ht2
        rw [← ht3, decide_eq_true_iff]
        exact Classical.byContradiction fun h => ht2 (HClk.out ht1 h)
      clear ht1 ht2 ht3
      have hc : t1 = false ∨ (t1 = true ∧ t2 = true) ∨ (t1 = true ∧ t2 = false ∧ t3 = true) := by
        cases t1
        · exact .inl rfl
        · cases t2
          · exact .inr (.inr ⟨rfl, rfl, HT.out rfl rfl⟩)
          · exact .inr (.inl ⟨rfl, rfl⟩)
      clear HT
      rcases hc with rfl | ⟨rfl, rfl⟩ | ⟨rfl, rfl, rfl⟩
      all_goals
        go_wp2_with (first
          | (go_at_call 24; (with_reducible refine (C1.out).mono ?_); rintro e w5 ⟨rfl, rfl⟩)
          | (go_at_call 24; (with_reducible refine (C2.out).mono ?_); rintro e w5 ⟨rfl, rfl⟩)
          | (go_at_call 24; (with_reducible refine (C3.out).mono ?_); rintro e w5 ⟨rfl, rfl⟩))
        go_round
        case rel => exact ⟨k + 1, by omega, by go_num⟩
        case measure => simp [intOf]; omega
    · go_wp2_with fail
      clear c1
      go_loopw [14] (fun i wr => ∃ k : Nat, k ≤ R.length ∧ i = .int .i64 k ∧ Hid (Below w4.heap.size w4 wr)) (fun i _ => R.length - (intOf i).toNat)
      case atStart => exact ⟨0, Nat.zero_le _, rfl, Below.refl _ _⟩
      case round =>
        obtain ⟨q, hq, rfl, HB⟩ := hrel
        have HKr := Lib.hid (HK4.out.grow HB.out)
        have HUr := Lib.hid (HU4.out.below HB.out (Nat.le_refl _))
        have HVr := Lib.hid (HV4.out.below HB.out (Nat.le_refl _))
        by_cases hltq : q < R.length
        · obtain ⟨mo, mc', hveq2, _, hms⟩ := HVr.out
          simp only [Value.slice.injEq] at hveq2
          obtain ⟨rfl, -, -⟩ := hveq2
          obtain ⟨rb, rof, rfl, rlb, hms⟩ := hms (by omega)
          have g := hms q hltq
          have HYM := (HMem.out (ati R q)).1 (ati_mem hltq)
          obtain ⟨y0, y1⟩ := nodeB_iff.1 HYM.1
          have hyb : ati R q = x ∨ ati R q ∉ bl := HYM.2.unblocked
          have c0 := HKr.out.box.c0
          have z0 := cell_regrown c0
          have zg := cell_regrown g
          clear c0 g HYM
          have dy0 : decide (ati R q < 0) = false := by simp; omega
          have dy1 : decide (n ≤ ati R q) = false := by simp; omega
          have hcase : q = 0 ∨ ∃ m, q = m + 1 := by
            cases q with
            | zero => exact .inl rfl
            | succ m => exact .inr ⟨m, rfl⟩
          obtain ⟨t, ht⟩ : ∃ t, decide (ati R q ∈ bl) = t := ⟨_, rfl⟩
          have C1 := Lib.hid (fun (dd : Nat) (os : Array Obj) => Calls.regrown_of (w := wr) (d := dd) (os := os) (has_below (HUr.out.below (below_regrown wr dd os) (Nat.le_refl _)) ht))
          rcases hcase with rfl | ⟨m, rfl⟩
          · clear hms
            simp only [Nat.add_zero] at zg
            generalize ati R 0 = y at *
            by_cases hne : y = x
            · subst hne
              go_wp2_with fail
              refine wp_region_quiet_below mixed (by kernel_rfl) ?_
              repeat
                ((with_reducible refine wpQuiet_step (fun K hK => ?_))
                 go_simp
                 first
                   | (with_reducible refine hK _ ?_; clear hK K)
                   | (apply Exists.intro; refine ⟨fun _ => ?_, hK _ ?_⟩; (with_reducible exact C1.out _ _); clear hK K))
              refine wpQuiet_nil ?_
              intro _ hw'
              obtain ⟨⟨dq, osq⟩, hw''⟩ := hw'
              subst hw''
              have HBN := Lib.hid (HB.out.trans ((below_regrown wr dq osq).mono HB.out.size))
              clear z0 zg
              go_wp2_with fail
              go_roundw
              case rel => exact ⟨1, by omega, by go_num, HBN⟩
              case measure => simp [intOf]; omega
            · obtain rfl : t = false := by rw [← ht]; simpa using hyb.resolve_left hne
              have n0 : (y == x) = false := by simpa using hne
              have n2 : (y != x) = true := by simpa using hne
              clear hne hyb ht
              go_wp2_with fail
              refine wp_region_quiet_below mixed (by kernel_rfl) ?_
              repeat
                ((with_reducible refine wpQuiet_step (fun K hK => ?_))
                 go_simp
                 first
                   | (with_reducible refine hK _ ?_; clear hK K)
                   | (apply Exists.intro; refine ⟨fun _ => ?_, hK _ ?_⟩; (with_reducible exact C1.out _ _); clear hK K))
              refine wpQuiet_nil ?_
              intro _ hw'
              obtain ⟨⟨dq, osq⟩, hw''⟩ := hw'
              subst hw''
              have HBN := Lib.hid (HB.out.trans ((below_regrown wr dq osq).mono HB.out.size))
              clear z0 zg
              go_wp2_with fail
              go_roundw
              case rel => exact ⟨1, by omega, by go_num, HBN⟩
              case measure => simp [intOf]; omega
          · have g' := hms m (by omega)
            have zg' := cell_regrown g'
            have hlt' := HAsc.out m (m + 1) (by omega) hltq
            have dl : decide (ati R (m + 1) ≤ ati R m) = false := by simp; omega
            clear hms g'
            have hm1 : (0 : Int) ≤ (m : Int) + 1 := by omega
            have hm2 : m < R.length := by omega
            have hm3 : (0 : Int) < (m : Int) + 1 := by omega
            have hw1 : IntKind.i64.wrap (((m + 1 : Nat) : Int) - 1) = (m : Int) := by rw [IntKind.wrap_i64]; omega
            have hw2 : IntKind.i64.wrap ((m : Int) + 1 - 1) = (m : Int) := by rw [IntKind.wrap_i64]; omega
            have hw3 : IntKind.i64.wrap (m : Int) = (m : Int) := by rw [IntKind.wrap_i64]; omega
            generalize ati R (m + 1) = y at *
            generalize ati R m = y' at *
            by_cases hne : y = x
            · subst hne
              go_wp2_with fail
              refine wp_region_quiet_below mixed (by kernel_rfl) ?_
              repeat
                ((with_reducible refine wpQuiet_step (fun K hK => ?_))
                 go_simp
                 first
                   | (with_reducible refine hK _ ?_; clear hK K)
                   | (apply Exists.intro; refine ⟨fun _ => ?_, hK _ ?_⟩; (with_reducible exact C1.out _ _); clear hK K))
              refine wpQuiet_nil ?_
              intro _ hw'
              obtain ⟨⟨dq, osq⟩, hw''⟩ := hw'
              subst hw''
              have HBN := Lib.hid (HB.out.trans ((below_regrown wr dq osq).mono HB.out.size))
              clear z0 zg zg' hw1 hw2 hw3
              go_wp2_with fail
              go_roundw
              case rel => exact ⟨m + 1 + 1, by omega, by go_num, HBN⟩
              case measure => simp [intOf]; omega
            · obtain rfl : t = false := by rw [← ht]; simpa using hyb.resolve_left hne
              have n0 : (y == x) = false := by simpa using hne
              have n2 : (y != x) = true := by simpa using hne
              clear hne hyb ht
              go_wp2_with fail
              refine wp_region_quiet_below mixed (by kernel_rfl) ?_
              repeat
                ((with_reducible refine wpQuiet_step (fun K hK => ?_))
                 go_simp
                 first
                   | (with_reducible refine hK _ ?_; clear hK K)
                   | (apply Exists.intro; refine ⟨fun _ => ?_, hK _ ?_⟩; (with_reducible exact C1.out _ _); clear hK K))
              refine wpQuiet_nil ?_
              intro _ hw'
              obtain ⟨⟨dq, osq⟩, hw''⟩ := hw'
              subst hw''
              have HBN := Lib.hid (HB.out.trans ((below_regrown wr dq osq).mono HB.out.size))
              clear z0 zg zg' hw1 hw2 hw3
              go_wp2_with fail
              go_roundw
              case rel => exact ⟨m + 1 + 1, by omega, by go_num, HBN⟩
              case measure => simp [intOf]; omega
        · have CH := Lib.hid (has_any R x _ wr HVr.out true (by simp [HXR.out]))
          go_wp2_with (go_at_call 24; (with_reducible refine (CH.out).mono ?_); rintro e w5 ⟨rfl, rfl⟩)
          rw [← HQ.out]
          exact ⟨rfl, HKr.out.below⟩
/-- As the row hands it over. -/
theorem lclosed_row (a : Int) (rv : Value) (L : List Ed) (bv : Value) (bl : List Int) (f : Int) (w : World) (h0 : -9223372036854775808 ≤ a) (h1 : a ≤ 9223372036854775807) (hL : EdgesAt w rv L ∧ RawB L) (hb : IntsAt w bv bl ∧ bl.length * 8 ≤ 140737488351232) (f0 : -9223372036854775808 ≤ f) (f1 : f ≤ 9223372036854775807) :
    Calls Try.prog 4 #[.int .i64 a, rv, bv, .int .i64 f] w (Ret (.bool true) w) := lclosed_walk a ⟨h0, h1⟩ rv L hL.1 hL.2 bv bl hb.1 f ⟨f0, f1⟩
end Go.Proofs.Ytcbfjkigmlmohaa.Ly
