import Derived.Test.YtcbfjkigmlmohaaYl
/- The law LayoutEdges. -/
set_option linter.unusedVariables false
set_option linter.unusedSimpArgs false
namespace Go.Proofs.Ytcbfjkigmlmohaa.Ly
open Go.RowKit

theorem sel_more (es : List Ed) (k : Int) : ∀ L : Nat, (selL (fun i => decide ((ate es i).1 = k)) L).length + (selL (fun i => decide ((ate es i).1 < k)) L).length = (selL (fun i => decide ((ate es i).1 < k + 1)) L).length
  | 0 => rfl
  | L + 1 => by
    have ih := sel_more es k L
    by_cases h1 : (ate es L).1 = k
    · rw [selL_yes (p := fun i => decide ((ate es i).1 = k)) (by simpa using h1), selL_no (p := fun i => decide ((ate es i).1 < k)) (by simp; omega), selL_yes (p := fun i => decide ((ate es i).1 < k + 1)) (by simp; omega)]
      simp only [List.length_append, List.length_singleton]
      omega
    · by_cases h2 : (ate es L).1 < k
      · rw [selL_no (p := fun i => decide ((ate es i).1 = k)) (by simpa using h1), selL_yes (p := fun i => decide ((ate es i).1 < k)) (by simpa using h2), selL_yes (p := fun i => decide ((ate es i).1 < k + 1)) (by simp; omega)]
        simp only [List.length_append, List.length_singleton]
        omega
      · rw [selL_no (p := fun i => decide ((ate es i).1 = k)) (by simpa using h1), selL_no (p := fun i => decide ((ate es i).1 < k)) (by simpa using h2), selL_no (p := fun i => decide ((ate es i).1 < k + 1)) (by simp; omega)]
        exact ih
def cntE (es : List Ed) (k : Int) : Nat := (selL (fun i => decide ((ate es i).1 < k)) es.length).length
theorem out_eq {n : Int} {es : List Ed} (hr : RightL n es) (k : Int) : outL n es k = selL (fun i => decide ((ate es i).1 = k)) es.length := by
  unfold outL
  rw [rightB_true hr, if_pos rfl]
theorem cntE_step {n : Int} {es : List Ed} (hr : RightL n es) (k : Int) : cntE es k + (outL n es k).length = cntE es (k + 1) := by
  have := sel_more es k es.length
  rw [out_eq hr]
  unfold cntE
  omega
theorem cntE_zero {n : Int} {es : List Ed} (hr : RightL n es) : cntE es 0 = 0 := by
  unfold cntE
  apply Classical.byContradiction
  intro h
  obtain ⟨v, hv⟩ := List.exists_mem_of_length_pos (Nat.pos_of_ne_zero h)
  obtain ⟨h0, h1, h2⟩ := mem_selL.1 hv
  have := (hr.at h1).1.1
  simp at h2
  omega
theorem cntE_full {n : Int} {es : List Ed} (hr : RightL n es) : cntE es n = es.length := by
  unfold cntE
  exact selL_full.2 fun i hi => by simpa using (hr.at hi).1.2
theorem cntE_le (es : List Ed) (k : Int) : cntE es k ≤ es.length := selL_le _ _
theorem out_mem {n : Int} {es : List Ed} (hr : RightL n es) {k : Int} {i : Nat} (h : i < (outL n es k).length) : 0 ≤ ati (outL n es k) i ∧ (ati (outL n es k) i).toNat < es.length ∧ (ate es (ati (outL n es k) i).toNat).1 = k := by
  have := ati_mem h
  rw [out_eq hr] at this ⊢
  obtain ⟨h0, h1, h2⟩ := mem_selL.1 this
  exact ⟨h0, h1, by simpa using h2⟩
theorem out_asc {n : Int} {es : List Ed} (hr : RightL n es) {k : Int} {i j : Nat} (h1 : i < j) (h2 : j < (outL n es k).length) : ati (outL n es k) i < ati (outL n es k) j := by
  have e := out_eq hr k
  generalize outL n es k = R at *
  subst e
  exact selL_asc h1 h2
theorem bet_hit {n : Int} {es : List Ed} (hr : RightL n es) {f t : Int} {i : Nat} (hi : i < es.length) (h : hitB es f t i = true) : betL n es f t = ((i : Int), true) := by
  unfold betL
  rw [rightB_true hr, if_pos rfl]
  refine betw_some hi h fun j hj => ?_
  rw [← Bool.not_eq_true]
  intro h2
  unfold hitB at h h2
  simp only [Bool.and_eq_true, decide_eq_true_iff] at h h2
  exact (hr.2.2.2 i hi).2 j hj ⟨h2.1.trans h.1.symm, h2.2.trans h.2.symm⟩
theorem bet_none {n : Int} {es : List Ed} {f t : Int} (h : ∀ j, j < es.length → hitB es f t j = false) : (betL n es f t).2 = false := by
  unfold betL
  split
  · rw [betw_none h]
  · rfl
set_option maxRecDepth 100000 in
set_option maxHeartbeats 16000000 in
theorem ledges_walk {w : World} (a : Int) (ha : i64B a) (rv : Value) (L : List Ed) (hL : EdgesAt w rv L) (hB : RawB L) :
    Calls Try.prog 7 #[.int .i64 a, rv] w (Ret (.bool true) w) := by
  have CF := Lib.hid (fun w' (h : EdgesAt w' rv L) => fit_ex a ha rv L h hB)
  have HL := Lib.hid hL
  clear ha hL hB
  obtain ⟨Q, HQ⟩ : ∃ Q, Hid (Ret (.bool true) w = Q) := ⟨_, rfl⟩
  rw [HQ.out]
  go_enter Try.func7, Try.ntmps7
  go_upto_region 3 with (first
    | (go_at_call 10; (with_reducible refine (awake_any _).mono ?_); rintro e w1 ⟨rfl, hb⟩; have HB1 := Lib.hid hb; have HL1 := Lib.hid (HL.out.below hb (Nat.le_refl _)); clear hb)
    | (go_at_call 11; (with_reducible refine (CF.out _ HL1.out).mono ?_); rintro e w2 ⟨n, v, es, rfl, n1, n8, hr, h24, hed, hb⟩; obtain ⟨eo, ec, rfl⟩ := hed.form; have HR := Lib.hid hr; have HK2 := Lib.hid (KX.start (n := n) (HB1.out.trans (hb.mono HB1.out.size)) hed); clear hr hed hb))
  generalize hW : w2.alloc (.cells #[.int .i64 n, .slice eo es.length ec] 24) = wB at *
  clear hW
  generalize w2.heap.size = bx at *
  have CO := Lib.hid (fun w' (k : Int) (hu : EdgesAt w' (.slice eo es.length ec) es) => out_any (n := n) (es := es) (w := w') _ hu k)
  have CB := Lib.hid (fun w' (f t : Int) (hu : EdgesAt w' (.slice eo es.length ec) es) => between_any (n := n) (es := es) (w := w') _ hu f t)
  clear CF
  go_wp2_with fail
  go_loopw [7, 8] (fun mo i wr => ∃ k : Nat, (k : Int) ≤ n ∧ i = .int .i64 k ∧ mo = .int .i64 (cntE es k : Nat) ∧ Hid (KX w wr bx n (.slice eo es.length ec) es)) (fun _ i _ => n.toNat - (intOf i).toNat)
  case atStart => exact ⟨0, by omega, rfl, by rw [show cntE es ((0 : Nat) : Int) = 0 from cntE_zero HR.out]; rfl, HK2⟩
  case round =>
    obtain ⟨k, hk, rfl, rfl, HKr⟩ := hrel
    have c0 := HKr.out.box.c0
    have c1 := HKr.out.box.c1
    have HCl := Lib.hid (cntE_le es k)
    by_cases hlt : (k : Int) < n
    · have HCn := Lib.hid (cntE_step HR.out (k : Int))
      have HCl2 := cntE_le es ((k : Int) + 1)
      have HCl3 : cntE es k + (outL n es k).length ≤ 24 := by rw [HCn.out]; omega
      have CO1 := Lib.hid (CO.out _ (k : Int) HKr.out.ed)
      have HOM := Lib.hid (fun i (h : i < (outL n es k).length) => out_mem HR.out h)
      have HOA := Lib.hid (fun i j h1 (h2 : j < (outL n es k).length) => out_asc HR.out (i := i) h1 h2)
      clear HCl2
      obtain ⟨cn, hcn⟩ : ∃ c, cntE es ((k : Int) + 1) = c := ⟨_, rfl⟩
      rw [hcn] at HCn
      have HCN := Lib.hid hcn
      clear hcn
      generalize cntE es (k : Int) = ck at *
      generalize outL n es (k : Int) = R at *
      go_upto_region 9 with (go_at_call 16; (with_reducible refine (CO1.out).mono ?_); rintro e w5 ⟨v5, rfl, hv5, hb⟩; have HK5 := Lib.hid (HKr.out.grow hb); have HV5 := Lib.hid hv5; obtain ⟨ob, oc, rfl⟩ := hv5.form; clear hb hv5)
      go_wp2_with fail
      clear c0 c1
      go_loopw [10] (fun i wr => ∃ q : Nat, q ≤ R.length ∧ i = .int .i64 q ∧ Hid (Below w5.heap.size w5 wr)) (fun i _ => R.length - (intOf i).toNat)
      case atStart => exact ⟨0, Nat.zero_le _, rfl, Below.refl _ _⟩
      case round =>
        obtain ⟨q, hq, rfl, HB⟩ := hrel
        have HKq := Lib.hid (HK5.out.grow HB.out)
        have HVq := Lib.hid (HV5.out.below HB.out (Nat.le_refl _))
        by_cases hltq : q < R.length
        · obtain ⟨mo, mc', hveq2, _, hms⟩ := HVq.out
          simp only [Value.slice.injEq] at hveq2
          obtain ⟨rfl, -, -⟩ := hveq2
          obtain ⟨rb, rof, rfl, rlb, hms⟩ := hms (by omega)
          have g := hms q hltq
          obtain ⟨r0, r1, r2⟩ := HOM.out q hltq
          obtain ⟨eo', ec', hveq3, _, hcs⟩ := HKq.out.ed
          simp only [Value.slice.injEq] at hveq3
          obtain ⟨rfl, -, -⟩ := hveq3
          obtain ⟨eb, eof, rfl, elb, hcs⟩ := hcs (by omega)
          have ge := (hcs _ r1).1
          rw [r2] at ge
          have c1 := HKq.out.box.c1
          have z1 := cell_regrown c1
          have zg := cell_regrown g
          have ze := cell_regrown ge
          have dr0 : decide (ati R q < 0) = false := by simp; omega
          have dr1 : decide ((es.length : Int) ≤ ati R q) = false := by simp; omega
          have dr2 : ati R q < (es.length : Int) := by omega
          clear c1 g ge hcs r2
          have hcase : q = 0 ∨ ∃ m, q = m + 1 := by
            cases q with
            | zero => exact .inl rfl
            | succ m => exact .inr ⟨m, rfl⟩
          rcases hcase with rfl | ⟨m, rfl⟩
          · clear hms
            simp only [Nat.add_zero] at zg
            generalize ati R 0 = y at *
            go_wp2_with fail
            refine wp_region_quiet_below mixed (by kernel_rfl) ?_
            repeat
              ((with_reducible refine wpQuiet_step (fun K hK => ?_))
               go_simp
               (with_reducible refine hK _ ?_; clear hK K))
            refine wpQuiet_nil ?_
            intro _ hw'
            obtain ⟨⟨dq, osq⟩, hw''⟩ := hw'
            subst hw''
            have HBN := Lib.hid (HB.out.trans ((below_regrown wr dq osq).mono HB.out.size))
            clear z1 zg ze
            go_wp2_with fail
            go_roundw
            case rel => exact ⟨1, by omega, by go_num, HBN⟩
            case measure => simp [intOf]; omega
          · have g' := hms m (by omega)
            have zg' := cell_regrown g'
            have hlt' := HOA.out m (m + 1) (by omega) hltq
            have dl : decide (ati R (m + 1) ≤ ati R m) = false := by simp; omega
            clear hms g'
            have hm1 : (0 : Int) ≤ (m : Int) + 1 := by omega
            have hm2 : m < R.length := by omega
            have hm3 : (0 : Int) < (m : Int) + 1 := by omega
            have hw1 : IntKind.i64.wrap (((m + 1 : Nat) : Int) - 1) = (m : Int) := by rw [IntKind.wrap_i64]; omega
            have hw2 : IntKind.i64.wrap ((m : Int) + 1 - 1) = (m : Int) := by rw [IntKind.wrap_i64]; omega
            have hw3 : IntKind.i64.wrap (m : Int) = (m : Int) := by rw [IntKind.wrap_i64]; omega
            generalize ati R (m + 1) = y at *
            generalize ati R m = y' at *
            go_wp2_with fail
            refine wp_region_quiet_below mixed (by kernel_rfl) ?_
            repeat
              ((with_reducible refine wpQuiet_step (fun K hK => ?_))
               go_simp
               (with_reducible refine hK _ ?_; clear hK K))
            refine wpQuiet_nil ?_
            intro _ hw'
            obtain ⟨⟨dq, osq⟩, hw''⟩ := hw'
            subst hw''
            have HBN := Lib.hid (HB.out.trans ((below_regrown wr dq osq).mono HB.out.size))
            clear z1 zg zg' ze hw1 hw2 hw3
            go_wp2_with fail
            go_roundw
            case rel => exact ⟨m + 1 + 1, by omega, by go_num, HBN⟩
            case measure => simp [intOf]; omega
        · go_wp2_with fail
          clear HVq HV5 HOM HOA CO1
          go_loopw [11] (fun i wr => ∃ m : Nat, (m : Int) ≤ n ∧ i = .int .i64 m ∧ Hid (KX w wr bx n (.slice eo es.length ec) es)) (fun i _ => n.toNat - (intOf i).toNat)
          case atStart => exact ⟨0, by omega, rfl, HKq⟩
          case round =>
            obtain ⟨m, hm, rfl, HKm⟩ := hrel
            have c0 := HKm.out.box.c0
            have c1 := HKm.out.box.c1
            by_cases hltm : (m : Int) < n
            · have CB1 := Lib.hid (CB.out _ (k : Int) (m : Int) HKm.out.ed)
              have HH := Lib.hid (fun i (hi : i < es.length) (h : hitB es (k : Int) (m : Int) i = true) => bet_hit HR.out hi h)
              have HNn := Lib.hid (fun (h : ∀ j, j < es.length → hitB es (k : Int) (m : Int) j = false) => bet_none (n := n) h)
              generalize betL n es (k : Int) (m : Int) = bt at *
              obtain ⟨be, bi⟩ := bt
              dsimp only at CB1 HNn
              go_upto_region 18 with (go_at_call 13; (with_reducible refine (CB1.out).mono ?_); rintro e w6 ⟨rfl, hb⟩; have HK6 := Lib.hid (HKm.out.grow hb); clear hb)
              clear c0 c1
              have c1 := HK6.out.box.c1
              go_wp2_with fail
              go_loop [14, 15] (fun tho i => ∃ (p : Nat) (th : Bool), tho = .bool th ∧ p ≤ es.length ∧ i = .int .i64 p ∧ Hid (th = true ↔ ∃ j, j < p ∧ hitB es (k : Int) (m : Int) j = true)) (fun _ i => es.length - (intOf i).toNat)
              case atStart => exact ⟨0, false, rfl, Nat.zero_le _, rfl, by show _ ↔ _; simp⟩
              case round =>
                obtain ⟨p, th, rfl, hp, rfl, HTh⟩ := hrel
                by_cases hltp : p < es.length
                · obtain ⟨eo', ec', hveq3, _, hcs⟩ := HK6.out.ed
                  simp only [Value.slice.injEq] at hveq3
                  obtain ⟨rfl, -, -⟩ := hveq3
                  obtain ⟨eb, eof, rfl, elb, hcs⟩ := hcs (by omega)
                  obtain ⟨g0, g1, -⟩ := hcs p hltp
                  clear hcs
                  by_cases hh : (ate es p).1 = (k : Int) ∧ (ate es p).2.1 = (m : Int)
                  · obtain ⟨h1, h2⟩ := hh
                    have hbt := HH.out p hltp (hitB_true h1 h2)
                    simp only [Prod.mk.injEq] at hbt
                    obtain ⟨rfl, hbi⟩ := hbt
                    have HN2 : Hid (true = true ↔ ∃ j, j < p + 1 ∧ hitB es (k : Int) (m : Int) j = true) := ⟨fun _ => ⟨p, by omega, hitB_true h1 h2⟩, fun _ => rfl⟩
                    rw [h1] at g0
                    rw [h2] at g1
                    clear h1 h2 hbi
                    go_wp2_with fail
                    go_round
                    case rel => exact ⟨p + 1, true, rfl, by omega, by go_num, HN2⟩
                    case measure => simp [intOf]; omega
                  · have HN2 : Hid (th = true ↔ ∃ j, j < p + 1 ∧ hitB es (k : Int) (m : Int) j = true) := by
                      show _ ↔ _
                      rw [HTh.out]
                      constructor
                      · rintro ⟨j, hj, y⟩; exact ⟨j, by omega, y⟩
                      · rintro ⟨j, hj, y⟩
                        by_cases e : j = p
                        · subst e; rw [hitB_false hh] at y; cases y
                        · exact ⟨j, by omega, y⟩
                    by_cases h1 : (ate es p).1 = (k : Int)
                    · have h2 : ¬ (ate es p).2.1 = (m : Int) := fun x => hh ⟨h1, x⟩
                      have d2 : ((ate es p).2.1 == (m : Int)) = false := by simpa using h2
                      rw [h1] at g0
                      generalize (ate es p).2.1 = eg at *
                      clear h1 h2 hh
                      go_wp2_with fail
                      go_round
                      case rel => exact ⟨p + 1, th, rfl, by omega, by go_num, HN2⟩
                      case measure => simp [intOf]; omega
                    · have d1 : ((ate es p).1 == (k : Int)) = false := by simpa using h1
                      generalize (ate es p).2.1 = eg at *
                      generalize (ate es p).1 = ef at *
                      clear h1 hh
                      go_wp2_with fail
                      go_round
                      case rel => exact ⟨p + 1, th, rfl, by omega, by go_num, HN2⟩
                      case measure => simp [intOf]; omega
                · have hbi : bi = th := by
                    cases th with
                    | true =>
                      obtain ⟨j, hj, y⟩ := HTh.out.1 rfl
                      have := HH.out j (by omega) y
                      simp only [Prod.mk.injEq] at this
                      exact this.2
                    | false =>
                      refine HNn.out fun j hj => ?_
                      rw [← Bool.not_eq_true]
                      intro y
                      have := HTh.out.2 ⟨j, by omega, y⟩
                      cases this
                  subst hbi
                  clear HH HNn HTh
                  go_wp2_with fail
                  go_roundw
                  case rel => exact ⟨m + 1, by omega, by go_num, HK6⟩
                  case measure => simp [intOf]; omega
            · clear c0 c1
              have hck : ((ck : Int) + (R.length : Int)) = ((cn : Nat) : Int) := by have := HCn.out; omega
              have HCK := Lib.hid hck
              have c0 := HKm.out.box.c0
              clear hck
              go_wp2_with fail
              go_roundw
              case rel => exact ⟨k + 1, by omega, by go_num, by rw [HCK.out, show (((k + 1 : Nat) : Int)) = (k : Int) + 1 by omega, HCN.out], HKm⟩
              case measure => simp [intOf]; omega
    · have HE : Hid (((cntE es (k : Int) : Nat) : Int) = (es.length : Int)) := by
        show _ = _
        rw [show (k : Int) = n by omega, cntE_full HR.out]
      have he := HE.out
      generalize cntE es (k : Int) = ck at *
      go_wp2_with fail
      rw [← HQ.out]
      exact ⟨ret_bool (by simp [he]), HKr.out.below⟩
/-- As the row hands it over. -/
theorem ledges_row (a : Int) (rv : Value) (L : List Ed) (w : World) (h0 : -9223372036854775808 ≤ a) (h1 : a ≤ 9223372036854775807) (hL : EdgesAt w rv L ∧ RawB L) : Calls Try.prog 7 #[.int .i64 a, rv] w (Ret (.bool true) w) := ledges_walk a ⟨h0, h1⟩ rv L hL.1 hL.2
end Go.Proofs.Ytcbfjkigmlmohaa.Ly
