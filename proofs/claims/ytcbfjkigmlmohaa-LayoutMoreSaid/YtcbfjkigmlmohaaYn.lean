import Derived.Test.YtcbfjkigmlmohaaAn
import Derived.Deep.RegionLaw
/- The law LayoutMore. -/
set_option linter.unusedVariables false
set_option linter.unusedSimpArgs false
namespace Go.Proofs.Ytcbfjkigmlmohaa.Ly
open Go.RowKit

theorem more_sub {n : Int} {es : List Ed} (hr : RightL n es) {x k : Int} (hx : nodeB n x = true) {bl : List Int} {v : Int} (h : v ∈ reachL n es (bl ++ [k]) x) : v ∈ reachL n es bl x := by
  rw [mem_reach hr hx] at h ⊢
  exact ⟨h.1, h.2.mono fun y hy => List.mem_append_left _ hy⟩
theorem more_same {n : Int} {es : List Ed} (hr : RightL n es) {x k : Int} (hx : nodeB n x = true) (hk : nodeB n k = true) {bl : List Int} (h : ¬ k ∈ reachL n es bl x) : reachL n es bl x = reachL n es (bl ++ [k]) x := by
  have hw : ¬ Way es bl x k := fun hw => h ((mem_reach hr hx).2 ⟨hk, hw⟩)
  rw [reach_eq hr hx, reach_eq hr hx]
  refine selL_congr fun i _ => ?_
  rw [Bool.eq_iff_iff, wayB_iff, wayB_iff]
  exact ⟨fun y => Way.more hw y, fun y => y.mono fun z hz => List.mem_append_left _ hz⟩
set_option maxRecDepth 100000 in
set_option maxHeartbeats 16000000 in
theorem lmore_walk {w : World} (a : Int) (ha : i64B a) (rv : Value) (L : List Ed) (hL : EdgesAt w rv L) (hB : RawB L) (bv : Value) (bl : List Int) (hbl : IntsAt w bv bl) (hbn : bl.length * 8 ≤ 140737488351232) (f g : Int) (hf : i64B f) (hg : i64B g) :
    Calls Try.prog 5 #[.int .i64 a, rv, bv, .int .i64 f, .int .i64 g] w (Ret (.bool true) w) := by
  have CF := Lib.hid (fun w' (h : EdgesAt w' rv L) => fit_ex a ha rv L h hB)
  have HL := Lib.hid hL
  have HU := Lib.hid hbl
  have HFB := Lib.hid hf
  have HGB := Lib.hid hg
  obtain ⟨ub, uc, rfl⟩ := hbl.form
  clear ha hL hB hbl hf hg
  obtain ⟨Q, HQ⟩ : ∃ Q, Hid (Ret (.bool true) w = Q) := ⟨_, rfl⟩
  rw [HQ.out]
  go_enter Try.func5, Try.ntmps5
  go_upto_region 3 with (first
    | (go_at_call 10; (with_reducible refine (awake_any _).mono ?_); rintro e w1 ⟨rfl, hb⟩; have HB1 := Lib.hid hb; have HL1 := Lib.hid (HL.out.below hb (Nat.le_refl _)); have HU1 := Lib.hid (HU.out.below hb (Nat.le_refl _)); clear hb)
    | (go_at_call 11; (with_reducible refine (CF.out _ HL1.out).mono ?_); rintro e w2 ⟨n, v, es, rfl, n1, n8, hr, h24, hed, hb⟩; obtain ⟨eo, ec, rfl⟩ := hed.form; have HR := Lib.hid hr; have HK2 := Lib.hid (KX.start (n := n) (HB1.out.trans (hb.mono HB1.out.size)) hed); have HU2 := Lib.hid (HU1.out.below hb (Nat.le_refl _)); clear hr hed hb))
  have HU3 := Lib.hid (HU2.out.below ((Below.refl _ w2).alloc (Nat.le_refl _) (.cells #[.int .i64 n, .slice eo es.length ec] 24)) (Nat.le_refl _))
  generalize hW : w2.alloc (.cells #[.int .i64 n, .slice eo es.length ec] 24) = wB at *
  clear hW
  have CP := Lib.hid (fun w' => pick_any f n w' HFB.out.1 HFB.out.2 (by omega) (by omega))
  have CP2 := Lib.hid (fun w' => pick_any g n w' HGB.out.1 HGB.out.2 (by omega) (by omega))
  have HNX : Hid (nodeB n (pickS f n) = true) := nodeB_iff.2 ⟨pickS_nonneg (by omega), pickS_lt (by omega)⟩
  have HNY : Hid (nodeB n (pickS g n) = true) := nodeB_iff.2 ⟨pickS_nonneg (by omega), pickS_lt (by omega)⟩
  generalize pickS f n = x at *
  generalize pickS g n = kk at *
  generalize w2.heap.size = bx at *
  have CR := Lib.hid (fun w' bv bl' (hu : EdgesAt w' (.slice eo es.length ec) es) (hb : IntsAt w' bv bl') => reach_any (n := n) (es := es) (w := w') _ bv hu bl' hb x)
  have HSub := Lib.hid (fun v => more_sub HR.out HNX.out (bl := bl) (k := kk) (v := v))
  have HSame := Lib.hid (more_same HR.out HNX.out HNY.out (bl := bl))
  have c0 := HK2.out.box.c0
  have c1 := HK2.out.box.c1
  go_upto_region 6 with (first
    | (go_at_call 12; (with_reducible refine (CP.out _).mono ?_); rintro e w3 ⟨rfl, rfl⟩)
    | (go_at_call 12; (with_reducible refine (CP2.out _).mono ?_); rintro e w3 ⟨rfl, rfl⟩)
    | (go_at_call 18; (with_reducible refine (CR.out _ _ bl HK2.out.ed HU3.out).mono ?_); rintro e w4 ⟨v4, rfl, hv4, hb⟩; have HK4 := Lib.hid (HK2.out.grow hb); have HU4 := Lib.hid (HU3.out.below hb (Nat.le_refl _)); have HV4 := Lib.hid hv4; clear hb hv4))
  obtain ⟨mb, mc, rfl⟩ := HV4.out.form
  clear c0 c1
  have c0 := HK4.out.box.c0
  have c1 := HK4.out.box.c1
  rename_i K2 A2
  obtain ⟨i0, hi0, hz0, hz1, hz2⟩ := info_parts int_info
  have HCI := Lib.hid (fun W (h : Below w4.heap.size w4 W) => ints_cells (HU4.out.below h (Nat.le_refl _)))
  have hlm : (intC bl).length = bl.length * 1 := by simp [intC]
  have HLM := Lib.hid hlm
  clear hlm CF CP CP2
  generalize hRR : reachL n es bl x = RA at *
  clear hRR
  have HKA : Hid (∀ W v, Below w4.heap.size w4 W → IntsAt W v (bl ++ [kk]) → Calls Try.prog 18 #[.agg #[.int .i64 n, .slice eo es.length ec], v, .int .i64 x] W (RetInts (reachL n es (bl ++ [kk]) x) W)) := fun W v h hi => CR.out W v (bl ++ [kk]) (HK4.out.grow h).ed hi
  generalize hRB : reachL n es (bl ++ [kk]) x = RB at *
  clear CR hRB
  have hb4 := HK4.out.box.lt
  go_region_law (first
    | (refine step_nil_append rfl _ _ 26 rfl w4.heap.size 3 i0 _ 1 8 Try.underlying26 hi0 hz0 hz1 hz2 rfl (by omega) rfl ub bl.length uc rfl (intC bl) HLM.out (HCI.out _ (by first | exact Below.refl _ _ | exact (Below.refl _ _).drew | exact ((Below.refl _ _).alloc (Nat.le_refl _) _) | exact ((Below.refl _ _).drew.alloc (Nat.le_refl _) _) | exact ((Below.refl _ _).alloc (Nat.le_refl _) _).drew)) intC_one (by unfold maxLen; omega) (by omega) (by simp; try omega) ?_; intro vA wA hown1 hgrow1; have HBA : Below w4.heap.size w4 wA := Below.grown (by first | exact Below.refl _ _ | exact (Below.refl _ _).drew | exact ((Below.refl _ _).alloc (Nat.le_refl _) _) | exact ((Below.refl _ _).drew.alloc (Nat.le_refl _) _) | exact ((Below.refl _ _).alloc (Nat.le_refl _) _).drew) hgrow1 (by simp; try omega) (fun k e => by cases e); have hbA := Nat.lt_of_lt_of_le hb4 HBA.size; have xA0 := (HBA.cell (p := ⟨bx, 0, none⟩) hb4).trans c0; have xA1 := (HBA.cell (p := ⟨bx, 1, none⟩) hb4).trans c1)
    | (refine step_append_lies _ rfl _ _ 26 rfl w4.heap.size 3 i0 _ 1 8 Try.underlying26 hi0 hz0 hz1 hz2 rfl (by omega) vA bl.length (intC bl) rfl (hown1.alloc _) ⟨wA.heap.size, 0, none⟩ 1 1 [.int .i64 kk] rfl rfl (World.news_of_block (cs := #[.int .i64 kk]) (t := 3) (fr := (0, 0)) (heap_alloc_new wA _)) (by simp [Value.oneCell']) (by omega) (by unfold maxLen; omega) (by omega) (by have := HBA.size; simp; omega) (wA.heap.size + 1) (by simp) ?_; intro g' cp wB2 hown2 hgrow2 hat hlt; have HB2 := Lib.hid (row_below hown1 hgrow2 HBA HBA.size); have HI2 : Hid (IntsAt wB2 (.slice (some ⟨g', 0, none⟩) (bl.length + 1) cp) (bl ++ [kk])) := ints_own (by rw [intC_append]; exact hown2) (by simp) (by omega); have hbB := Nat.lt_of_lt_of_le hb4 HB2.out.size; have xB0 := (HB2.out.cell (p := ⟨bx, 0, none⟩) hb4).trans c0; have xB1 := (HB2.out.cell (p := ⟨bx, 1, none⟩) hb4).trans c1; clear hown1 hgrow1 hown2 hgrow2 hat hlt HBA)
    | (refine step_append_lies _ rfl _ _ 26 rfl w4.heap.size 3 i0 _ 1 8 Try.underlying26 hi0 hz0 hz1 hz2 rfl (by omega) vA bl.length (intC bl) rfl hown1 ⟨w4.heap.size, 0, none⟩ 1 1 [.int .i64 kk] rfl rfl (World.news_of_block (cs := #[.int .i64 kk]) (t := 3) (fr := (0, 0)) ((hgrow1.block w4.heap.size (by simp) (fun e => by cases e)).trans (heap_alloc_new w4 _))) (by simp [Value.oneCell']) (by omega) (by unfold maxLen; omega) (by omega) HBA.size wA.heap.size rfl ?_; intro g' cp wB2 hown2 hgrow2 hat hlt; have HB2 := Lib.hid (HBA.grown hgrow2 HBA.size (fun k hk => (hown1.lt k hk).1)); have HI2 : Hid (IntsAt wB2 (.slice (some ⟨g', 0, none⟩) (bl.length + 1) cp) (bl ++ [kk])) := ints_own (by rw [intC_append]; exact hown2) (by simp) (by omega); have hbB := Nat.lt_of_lt_of_le hb4 HB2.out.size; have xB0 := (HB2.out.cell (p := ⟨bx, 0, none⟩) hb4).trans c0; have xB1 := (HB2.out.cell (p := ⟨bx, 1, none⟩) hb4).trans c1; clear hown1 hgrow1 hown2 hgrow2 hat hlt HBA)
    | (go_simp; refine (HKA.out _ _ HB2.out HI2.out).mono ?_; rintro e8 w8 ⟨v8, rfl, hv8, hb8⟩; have HB8 := Lib.hid (HB2.out.trans (hb8.mono HB2.out.size)); have HV8 := Lib.hid hv8; clear hb8 hv8))
  all_goals
    refine A2 _ _ ?_
    obtain ⟨o8, c8, rfl⟩ := HV8.out.form
    have HVA := Lib.hid (HV4.out.below HB8.out (Nat.le_refl _))
    have HKz := Lib.hid (HK4.out.grow HB8.out)
    clear c0 c1
    go_wp2_with fail
    go_loop [17] (fun i => ∃ q : Nat, q ≤ RB.length ∧ i = .int .i64 q) (fun i => RB.length - (intOf i).toNat)
    case atStart => exact ⟨0, Nat.zero_le _, rfl⟩
    case round =>
      obtain ⟨q, hq, rfl⟩ := hrel
      by_cases hlt : q < RB.length
      · obtain ⟨mo, mc', hveq2, hbl8, hms⟩ := HV8.out
        simp only [Value.slice.injEq] at hveq2
        obtain ⟨rfl, -, -⟩ := hveq2
        obtain ⟨rb, rof, rfl, rlb, hms⟩ := hms (by omega)
        have gg := hms q hlt
        have CH := Lib.hid (has_any RA (ati RB q) _ w8 HVA.out true (by simpa using HSub.out _ (ati_mem hlt)))
        clear hms
        generalize ati RB q = y at *
        go_wp2_with (go_at_call 24; (with_reducible refine (CH.out).mono ?_); rintro e w9 ⟨rfl, rfl⟩)
        go_round
        case rel => exact ⟨q + 1, by omega, by go_num⟩
        case measure => simp [intOf]; omega
      · obtain ⟨tk, htk⟩ : ∃ t, decide (kk ∈ RA) = t := ⟨_, rfl⟩
        have CH := Lib.hid (has_any RA kk _ w8 HVA.out tk htk)
        cases tk with
        | true =>
          clear htk
          go_wp2_with (go_at_call 24; (with_reducible refine (CH.out).mono ?_); rintro e w9 ⟨rfl, rfl⟩)
          rw [← HQ.out]
          exact ⟨rfl, HKz.out.below⟩
        | false =>
          have CI := Lib.hid (ints_any RA RB _ _ w8 HVA.out HV8.out true (by simpa using HSame.out (by simpa using htk)))
          clear htk
          go_wp2_with (first
            | (go_at_call 24; (with_reducible refine (CH.out).mono ?_); rintro e w9 ⟨rfl, rfl⟩)
            | (go_at_call 15; (with_reducible refine (CI.out).mono ?_); rintro e w9 ⟨rfl, hb9⟩; have HK9 := Lib.hid (HKz.out.grow hb9); clear hb9))
          rw [← HQ.out]
          exact ⟨rfl, HK9.out.below⟩
/-- As the row hands it over. -/
theorem lmore_row (a : Int) (rv : Value) (L : List Ed) (bv : Value) (bl : List Int) (f g : Int) (w : World) (h0 : -9223372036854775808 ≤ a) (h1 : a ≤ 9223372036854775807) (hL : EdgesAt w rv L ∧ RawB L) (hb : IntsAt w bv bl ∧ bl.length * 8 ≤ 140737488351232) (f0 : -9223372036854775808 ≤ f) (f1 : f ≤ 9223372036854775807) (g0 : -9223372036854775808 ≤ g) (g1 : g ≤ 9223372036854775807) :
    Calls Try.prog 5 #[.int .i64 a, rv, bv, .int .i64 f, .int .i64 g] w (Ret (.bool true) w) := lmore_walk a ⟨h0, h1⟩ rv L hL.1 hL.2 bv bl hb.1 hb.2 f g ⟨f0, f1⟩ ⟨g0, g1⟩
end Go.Proofs.Ytcbfjkigmlmohaa.Ly
