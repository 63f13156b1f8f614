import Derived.Test.YthmblgfcjbiomaaRp
/- The law RouteScaled. -/
set_option linter.unusedVariables false
set_option linter.unusedSimpArgs false
namespace Go.Proofs.Ythmblgfcjbiomaa.Rt
open Go.RowKit Ly

theorem right_scale {n t : Int} {es : List Ed} (hr : RightL n es) (hc : Cheap es) (t0 : 1 ≤ t) (t1 : t ≤ 100) : RightL n (scale t es) := by
  obtain ⟨h1, h2, h3, h4⟩ := hr
  refine ⟨h1, h2, by rwa [scale_len], fun i hi => ?_⟩
  rw [scale_len] at hi
  obtain ⟨⟨ha, hb, hd, he, hf⟩, hs⟩ := h4 i hi
  rw [ate_scale hi]
  have h9 := hc i hi
  have hm1 : (ate es i).2.2 * 1 ≤ (ate es i).2.2 * t := Int.mul_le_mul_of_nonneg_left t0 (by omega)
  have hm2 : (ate es i).2.2 * t ≤ 9 * t := Int.mul_le_mul_of_nonneg_right h9 (by omega)
  refine ⟨⟨ha, hb, hd, by dsimp only; omega, by dsimp only; omega⟩, fun j hj hx => hs j hj ?_⟩
  rw [ate_scale (by omega)] at hx
  exact hx
theorem far_scale {n t : Int} {es : List Ed} {bl : List Int} {b : Int} (hr : RightL n es) (hrs : RightL n (scale t es)) (t0 : 1 ≤ t) (b0 : 0 ≤ b) (b1 : b < n) {v : Int} (v0 : 0 ≤ v) (v1 : v < n) :
    gi (farL n (scale t es) bl b) v = if 0 ≤ gi (farL n es bl b) v then gi (farL n es bl b) v * t else -1 :=
  (farL_spec hrs b0 b1).2.1.uniq ((farL_spec hr b0 b1).2.1.scaled t0) v0 v1
theorem route_scale {n t : Int} {es : List Ed} {bl : List Int} {a b : Int} (hr : RightL n es) (hc : Cheap es) (t0 : 1 ≤ t) (t1 : t ≤ 100) (ha : nodeB n a = true) (hb : nodeB n b = true) : routeS n (scale t es) bl a b = routeS n es bl a b := by
  have hrs := right_scale hr hc t0 t1
  obtain ⟨a0, a1⟩ := nodeB_iff.1 ha
  obtain ⟨b0, b1⟩ := nodeB_iff.1 hb
  have hok : (rightB n es && (nodeB n a && nodeB n b)) = true := by rw [rightB_true hr, ha, hb]; rfl
  have hoks : (rightB n (scale t es) && (nodeB n a && nodeB n b)) = true := by rw [rightB_true hrs, ha, hb]; rfl
  have hf := far_scale (bl := bl) hr hrs t0 b0 b1 a0 a1
  have hl := (farL_spec (bl := bl) hr b0 b1).2.1
  by_cases h : 0 ≤ gi (farL n es bl b) a
  · rw [if_pos h] at hf
    have h2 : 0 ≤ gi (farL n (scale t es) bl b) a := by rw [hf]; exact Int.mul_nonneg h (by omega)
    rw [routeS_way hok h, routeS_way hoks h2, routeF_congr hrs (fun v v0 v1 => far_scale (bl := bl) hr hrs t0 b0 b1 v0 v1) a0 a1, routeF_scale t0 hl hr a0 a1 h]
  · rw [if_neg h] at hf
    rw [routeS_none hok (by omega), routeS_none hoks (by omega)]
theorem route_self {n : Int} {es : List Ed} {bl : List Int} {a : Int} (hr : RightL n es) (ha : nodeB n a = true) : routeS n es bl a a = ([], 0) := by
  obtain ⟨a0, a1⟩ := nodeB_iff.1 ha
  have hl := (farL_spec (bl := bl) hr a0 a1).2.1
  have h := routeS_way (n := n) (es := es) (bl := bl) (a := a) (b := a) (by rw [rightB_true hr, ha]; rfl) (by rw [hl.here]; exact Int.le_refl _)
  rw [h, routeF_at]
  rfl
theorem cost_scale {t : Int} {es : List Ed} {ks : List Nat} (h : ∀ k ∈ ks, k < es.length) : costI (scale t es) (toI ks) = t * costI es (toI ks) := by
  rw [costI_toI (es := scale t es) (by simpa [scale_len] using h), costI_toI h, costL_scale h, Int.mul_comm]
theorem scale_take {t : Int} {es : List Ed} {i : Nat} (h : i < es.length) : scale t (es.take (i + 1)) = scale t (es.take i) ++ [((ate es i).1, (ate es i).2.1, (ate es i).2.2 * t)] := by
  have h1 : es.take (i + 1) = es.take i ++ [ate es i] := by rw [ate_lt h]; exact (List.take_append_getElem h).symm
  rw [h1]
  simp [scale]
/-- Between the rounds of the loop that scales. -/
structure ScI (n t : Int) (v vo : Value) (es : List Ed) (w w0 wr : World) (xb mb i : Nat) : Prop where
  k : KX w wr xb n v es
  box : wr.heap[mb]? = some (.cells #[.int .i64 n, vo] 24 (0, 0))
  row : wr.ownsRow (mb + 1) 41 3 vo i (flatE (scale t (es.take i)))
  bel : Below w0.heap.size w0 wr
  lt : xb < mb
  le : w0.heap.size ≤ mb
  wl : w.heap.size ≤ xb
theorem ScI.c1 {n t : Int} {v vo : Value} {es : List Ed} {w w0 wr : World} {xb mb i : Nat} (h : ScI n t v vo es w w0 wr xb mb i) : wr.cell? ⟨mb, 1, none⟩ = some vo := by rw [cell_of_row _ _ 1 _ _ _ h.box]; rfl
theorem ScI.c0 {n t : Int} {v vo : Value} {es : List Ed} {w w0 wr : World} {xb mb i : Nat} (h : ScI n t v vo es w w0 wr xb mb i) : wr.cell? ⟨mb, 0, none⟩ = some (.int .i64 n) := by rw [cell_of_row _ _ 0 _ _ _ h.box]; rfl
theorem ScI.mlt {n t : Int} {v vo : Value} {es : List Ed} {w w0 wr : World} {xb mb i : Nat} (h : ScI n t v vo es w w0 wr xb mb i) : mb < wr.heap.size := (Array.getElem?_eq_some_iff.1 h.box).1
theorem ScI.step {n t : Int} {v vo v' : Value} {es : List Ed} {w w0 wr w4 : World} {xb mb i : Nat} (h : ScI n t v vo es w w0 wr xb mb i) (hb : Below (mb + 1) wr w4) (ho : w4.ownsRow (mb + 1) 41 3 v' (i + 1) (flatE (scale t (es.take (i + 1)))))
    (hed : EdgesAt (w4.setCell ⟨mb, 1, none⟩ v') v es) : ScI n t v v' es w w0 (w4.setCell ⟨mb, 1, none⟩ v') xb mb (i + 1) := by
  have hl := h.lt
  have h1 := h.le
  have h2 := h.wl
  have hm := h.mlt
  have hbx := (hb.block mb (by omega)).trans h.box
  have hx := h.k.box.belowB hb (by omega)
  refine ⟨⟨(h.k.below.trans (hb.mono (by omega))).setCell (p := ⟨mb, 1, none⟩) (by show w.heap.size ≤ mb; omega) _, ⟨?_, ?_, ?_⟩, hed⟩, ?_, ?_, (h.bel.trans (hb.mono (by omega))).setCell (p := ⟨mb, 1, none⟩) h1 _, hl, h1, h2⟩
  · rw [World.cell?_setCell_other _ _ _ _ (fun e => by have := congrArg Addr.block e; simp at this; omega)]; exact hx.c0
  · rw [World.cell?_setCell_other _ _ _ _ (fun e => by have := congrArg Addr.block e; simp at this; omega)]; exact hx.c1
  · have := hx.lt; simpa using this
  · rw [heap_setCell_same _ _ 1 _ _ v' hbx]; rfl
  · exact ownsRow_setCell_below ho (by show mb < _; omega) _

set_option maxRecDepth 100000 in
set_option maxHeartbeats 16000000 in
theorem lscaled_walk {w : World} (a : Int) (ha : i64B a) (rv : Value) (L : List Ed) (hL : EdgesAt w rv L) (hB : RawB L) (bv : Value) (bl : List Int) (hb : IntsAt w bv bl) (z1 z2 z3 : Int) (hz1 : i64B z1) (hz2 : i64B z2) (hz3 : i64B z3) :
    Calls Try.prog 8 #[.int .i64 a, rv, bv, .int .i64 z1, .int .i64 z2, .int .i64 z3] w (Ret (.bool true) w) := by
  have CF := Lib.hid (fun w' (h : EdgesAt w' rv L) => fit_cheap a ha rv L h hB)
  obtain ⟨Q, HQ⟩ : ∃ Q, Hid (Ret (.bool true) w = Q) := ⟨_, rfl⟩
  rw [HQ.out]
  have HL0 := Lib.hid hL
  have HI0 := Lib.hid hb
  clear hL hb
  go_enter Try.func8, Try.ntmps8
  go_upto_region 2 with (go_at_call 9; (with_reducible refine (awake12_any w).mono ?_); rintro e w1 ⟨rfl, hb1⟩)
  have HB1 := Lib.hid hb1
  have HL1 := Lib.hid (HL0.out.below hb1 (Nat.le_refl _))
  have HI1 := Lib.hid (HI0.out.below hb1 (Nat.le_refl _))
  clear hb1
  go_upto_region 3 with (go_at_call 10; (with_reducible refine (CF.out _ HL1.out).mono ?_); rintro e w2 ⟨n, v, es, rfl, n1, n8, hr, hel, he, hb2, hch⟩; obtain ⟨eo, ec, rfl⟩ := slE he)
  have HK2 := Lib.hid (KX.start (w0 := w) (n := n) (HB1.out.trans (hb2.mono HB1.out.size)) he)
  have hb3 : Below w1.heap.size w1 (w2.alloc (.cells #[.int .i64 n, .slice eo es.length ec] 24)) := hb2.alloc hb2.size _
  have HI2 := Lib.hid (HI1.out.below hb3 (Nat.le_refl _))
  have hxw : w.heap.size ≤ w2.heap.size := Nat.le_trans HB1.out.size hb2.size
  have hx3 : w2.heap.size < (w2.alloc (.cells #[.int .i64 n, .slice eo es.length ec] 24)).heap.size := by simp
  clear hb2 hb3 he
  generalize w2.heap.size = xb at *
  generalize w2.alloc (.cells #[.int .i64 n, .slice eo es.length ec] 24) = w3 at *
  have c0 := HK2.out.box.c0
  have c1 := HK2.out.box.c1
  have P3 := Lib.hid (pick12_any z3 100 w3 hz3.1 hz3.2 (by omega) (by omega))
  have t0 := pickS_nonneg (c := z3) (n := 100) (by omega)
  have t1 := pickS_lt (c := z3) (n := 100) (by omega)
  generalize pickS z3 100 = tp at *
  obtain ⟨t, ht⟩ : ∃ t, 1 + tp = t := ⟨_, rfl⟩
  have hwr : IntKind.i64.wrap (1 + tp) = t := by rw [IntKind.wrap_i64, ← ht]; omega
  go_upto_region 5 with (go_at_call 11; (with_reducible refine (P3.out).mono ?_); rintro e w4 ⟨rfl, rfl⟩)
  have HM : Hid (3 < w3.heap.size + 4) := (by omega : 3 < w3.heap.size + 4)
  have hbn : Below w3.heap.size w3 (w3.alloc (.cells #[.int .i64 n, .slice none 0 0] 24)) := (Below.refl _ _).alloc (Nat.le_refl _) _
  have HSC : Hid (ScI n t (.slice eo es.length ec) (.slice none 0 0) es w w3 (w3.alloc (.cells #[.int .i64 n, .slice none 0 0] 24)) xb w3.heap.size 0) :=
    ⟨HK2.out.grow hbn, heap_alloc_new w3 _, World.ownsRow_nil _ _ _ _, hbn, hx3, Nat.le_refl _, hxw⟩
  have HED3 := Lib.hid HK2.out.ed
  generalize hmb : w3.heap.size = mb at *
  have HMB := Lib.hid hmb
  generalize w3.alloc (.cells #[.int .i64 n, .slice none 0 0] 24) = w4 at *
  clear hmb hbn c0 c1 P3 HM
  have HT := Lib.hid ht
  clear ht hwr
  have tt0 : 1 ≤ t := by have := HT.out; omega
  have tt1 : t ≤ 100 := by have := HT.out; omega
  clear t0 t1
  go_wp2_with fail
  go_loopw [17] (fun i wr => ∃ (k : Nat) (vo : Value), k ≤ es.length ∧ i = .int .i64 k ∧ Hid (ScI n t (.slice eo es.length ec) vo es w w3 wr xb mb k)) (fun i _ => es.length - (intOf i).toNat)
  case atStart => exact ⟨0, _, Nat.zero_le _, rfl, HSC⟩
  case round =>
    obtain ⟨k, vo, hk, rfl, HS⟩ := hrel
    clear HSC
    have c1 := HS.out.k.box.c1
    by_cases hlt : k < es.length
    · have hmlt := HS.out.mlt
      have hxl := HS.out.lt
      have d1 := HS.out.c1
      obtain ⟨ea, ec2, he1, he2, he3⟩ := HS.out.k.ed
      cases he1
      obtain ⟨eb, eof, rfl, lb, hcs⟩ := he3 (by omega)
      obtain ⟨g0, g1, g2⟩ := hcs k hlt
      have hcost := (hr.at hlt).2.2.2
      have hc9 := hch k hlt
      have HTK := Lib.hid (scale_take (t := t) hlt)
      clear he2 he3 hcs
      generalize hx : ate es k = x at *
      obtain ⟨x1, x2, x3⟩ := x
      dsimp only at g0 g1 g2 hcost hc9 HTK
      clear hx
      obtain ⟨y, hy⟩ : ∃ y, x3 * t = y := ⟨_, rfl⟩
      have hm2 : x3 * t ≤ 9 * t := Int.mul_le_mul_of_nonneg_right hc9 (by omega)
      have hm1 : 0 ≤ x3 * t := Int.mul_nonneg (by omega) (by omega)
      have hwr : IntKind.i64.wrap (x3 * t) = y := by rw [IntKind.wrap_i64, ← hy]; omega
      rw [hy] at HTK hm1 hm2
      clear hy
      obtain ⟨ao2, cap2, rfl⟩ := row_form HS.out.row
      obtain ⟨i0, hi0, hz0', hz1', hz2'⟩ := info_parts edge_info
      have HOa : Hid ((wr.alloc (.cells #[.int .i64 x1, .int .i64 x2, .int .i64 x3] 41)).ownsRow (mb + 1) 41 3 (.slice ao2 k cap2) k (flatE (scale t (es.take k)))) := HS.out.row.alloc _
      go_upto_region 9 with fail
      have hba2 : Below (mb + 1) wr ((wr.alloc (.cells #[.int .i64 x1, .int .i64 x2, .int .i64 x3] 41)).alloc (.cells #[.int .i64 x1, .int .i64 x2, .int .i64 y] 41)) := ((Below.refl _ wr).alloc (by omega) _).alloc (by simp; omega) _
      have HBA2 := Lib.hid hba2
      clear hba2
      go_wp2_with (at_builtin; (refine wpList_append_lies _ rfl _ _ 22 rfl (mb + 1) 41 i0 _ 3 24 Try.underlying22 hi0 hz0' hz1' hz2' rfl (by omega) _ k (flatE (scale t (es.take k))) rfl (HOa.out.alloc _) ⟨wr.heap.size + 1, 0, none⟩ 1 1 [.int .i64 x1, .int .i64 x2, .int .i64 y] rfl rfl (World.news_of_block (cs := #[.int .i64 x1, .int .i64 x2, .int .i64 y]) (t := 41) (fr := (0, 0)) (by exact heap_alloc2_new wr _ _)) (by simp [Value.oneCell']) (by omega) (by unfold maxLen; omega) (by omega) (by simp; omega) (wr.heap.size + 2) (by simp) ?_); intro g' cp w6 hown hgrow hat hlt4; have hb6 : Below (mb + 1) wr w6 := HBA2.out.grown hgrow (by simp; omega) (fun q e => (HOa.out.lt q e).1); have hbx := (hb6.block mb (by omega)).trans HS.out.box; have k5 := cell_of_row _ _ 1 _ _ _ hbx; have k6 := frozen_of_row w6 mb 1 _ _ hbx; have HB6 := Lib.hid hb6; have HO6 := Lib.hid hown; clear hown hgrow hat hlt4 hb6 hbx)
      have HO7 : Hid (w6.ownsRow (mb + 1) 41 3 (.slice (some ⟨g', 0, none⟩) (k + 1) cp) (k + 1) (flatE (scale t (es.take (k + 1))))) := by
        show World.ownsRow _ _ _ _ _ _ _
        rw [HTK.out, flatE_append]
        exact HO6.out
      have HS7 := Lib.hid (HS.out.step HB6.out HO7.out (HED3.out.below ((HS.out.bel.trans (HB6.out.mono (by have := HS.out.le; omega))).setCell (p := ⟨mb, 1, none⟩) HS.out.le (.slice (some ⟨g', 0, none⟩) (k + 1) cp)) (Nat.le_refl _)))
      clear k5 k6 c1 d1
      go_roundw
      case rel => exact ⟨k + 1, _, hlt, by go_num, HS7⟩
      case measure => simp [intOf]; omega
    · obtain rfl : k = es.length := by omega
      have HKA := Lib.hid HS.out.k
      have HKB : Hid (KX w wr mb n vo (scale t es)) := by
        refine ⟨HS.out.k.below, ⟨HS.out.c0, HS.out.c1, HS.out.mlt⟩, ?_⟩
        have h1 := HS.out.row
        rw [List.take_of_length_le (Nat.le_refl _)] at h1
        exact edges_own h1 (scale_len t es) (by have := hr.2.2.1; omega)
      have HI3 := Lib.hid (HI2.out.below HS.out.bel (Nat.le_refl _))
      obtain ⟨mo, mc, rfl⟩ := slE HKB.out.ed
      have HRR := Lib.hid hr
      have HRS := Lib.hid (right_scale hr hch tt0 tt1)
      have P1 := Lib.hid (pick12_any z1 n wr hz1.1 hz1.2 (by omega) (by omega))
      have P2 := Lib.hid (pick12_any z2 n wr hz2.1 hz2.2 (by omega) (by omega))
      have na := pick_node (c := z1) (n := n) (by omega)
      have nb := pick_node (c := z2) (n := n) (by omega)
      generalize pickS z1 n = ra at *
      generalize pickS z2 n = rb at *
      have R1 := route_in (bl := bl) hr na nb
      have C1 := Lib.hid (fun w' (he : EdgesAt w' (.slice eo es.length ec) es) (hi : IntsAt w' bv bl) => route_read (n := n) _ bv he bl hi ra rb)
      have C2 := Lib.hid (fun w' (he : EdgesAt w' (.slice mo (scale t es).length mc) (scale t es)) (hi : IntsAt w' bv bl) => by have := route_read (n := n) _ bv he bl hi ra rb; rw [route_scale hr hch tt0 tt1 na nb] at this; exact this)
      have C3 := Lib.hid (fun w' (he : EdgesAt w' (.slice eo es.length ec) es) (hi : IntsAt w' bv bl) => by have := route_read (n := n) _ bv he bl hi ra ra; rw [route_self hr na] at this; exact this)
      clear HS HI2 na nb hr hch CF HED3 HMB
      clear c1
      have c0 := HKA.out.box.c0
      have c1 := HKA.out.box.c1
      generalize routeS n es bl ra rb = r1 at *
      obtain ⟨l1, er1⟩ := r1
      go_upto_region 12 with (first
        | (go_at_call 11; (with_reducible refine (P1.out).mono ?_); rintro e w4 ⟨rfl, rfl⟩)
        | (go_at_call 11; (with_reducible refine (P2.out).mono ?_); rintro e w4 ⟨rfl, rfl⟩))
      clear P1 P2
      go_upto_region 13 with (go_at_call 12; (with_reducible refine (C1.out _ HKA.out.ed HI3.out).mono ?_); rintro e w5 ⟨v5, rfl, hv5, hb⟩; have HKA5 := Lib.hid (HKA.out.grow hb); have HKB5 := Lib.hid (HKB.out.grow hb); have HI5 := Lib.hid (HI3.out.below hb (Nat.le_refl _)); have HV5 := Lib.hid hv5; have d0 := HKB5.out.box.c0; have d1 := HKB5.out.box.c1; clear hb hv5)
      clear c0 c1
      go_upto_region 14 with (go_at_call 12; (with_reducible refine (C2.out _ HKB5.out.ed HI5.out).mono ?_); rintro e w6 ⟨v6, rfl, hv6, hb⟩; have HKA6 := Lib.hid (HKA5.out.grow hb); have HKB6 := Lib.hid (HKB5.out.grow hb); have HI6 := Lib.hid (HI5.out.below hb (Nat.le_refl _)); have HV56 := Lib.hid (HV5.out.below hb (Nat.le_refl _)); have HV6 := Lib.hid hv6; have e0 := HKA6.out.box.c0; have e1 := HKA6.out.box.c1; clear hb hv6)
      clear d0 d1
      go_upto_region 15 with (go_at_call 12; (with_reducible refine (C3.out _ HKA6.out.ed HI6.out).mono ?_); rintro e w7 ⟨v7, rfl, hv7, hb⟩; have HKA7 := Lib.hid (HKA6.out.grow hb); have HKB7 := Lib.hid (HKB6.out.grow hb); have HV57 := Lib.hid (HV56.out.below hb (Nat.le_refl _)); have HV67 := Lib.hid (HV6.out.below hb (Nat.le_refl _)); have HV7 := Lib.hid hv7; clear hb hv7)
      clear e0 e1
      obtain ⟨s7, p7, rfl⟩ := slI HV7.out
      have HKS : Hid (l1.length ≤ 1000000000000000 ∧ costI (scale t es) l1 = t * costI es l1 ∧ 0 ≤ t * costI es l1 ∧ t * costI es l1 ≤ 9223372036854775807) := by
        rcases R1 with ⟨-, h1⟩ | ⟨-, k1, h1, hw1, -, hl1, -⟩
        · cases h1
          exact ⟨by simp, by simp [costI], by simp [costI], by simp [costI]⟩
        · cases h1
          have h2 := cost_scale (t := t) hw1.lt
          have h3 := costI_le HRR.out (toI k1) (toI k1).length
          rw [List.take_length, toI_len] at h3
          have h4 : t * costI es (toI k1) ≤ 100 * costI es (toI k1) := Int.mul_le_mul_of_nonneg_right tt1 h3.1
          exact ⟨by rw [toI_len]; omega, h2, Int.mul_nonneg (by omega) h3.1, by omega⟩
      obtain ⟨m, hm⟩ : ∃ m, t * costI es l1 = m := ⟨_, rfl⟩
      have hks := HKS.out
      rw [hm] at hks
      obtain ⟨hk1, hk2, hk3, hk4⟩ := hks
      have hwr : IntKind.i64.wrap (t * costI es l1) = m := by rw [IntKind.wrap_i64, hm]; omega
      have CI := Lib.hid (fun (dd : Nat) (os : Array Obj) => Calls.regrown_of (w := w7) (d := dd) (os := os) (ints_any l1 l1 v5 v6 _ (HV57.out.below (below_regrown w7 dd os) (Nat.le_refl _)) (HV67.out.below (below_regrown w7 dd os) (Nat.le_refl _)) true (by simp)))
      have CM := Lib.hid (fun (dd : Nat) (os : Array Obj) => Calls.regrown_of (w := w7) (d := dd) (os := os) (by have := cost_any (n := n) _ v6 (HKB7.out.ed.below (below_regrown w7 dd os) (Nat.le_refl _)) l1 (HV67.out.below (below_regrown w7 dd os) (Nat.le_refl _)) HRS.out hk1; rw [hk2] at this; exact this))
      have CL := Lib.hid (fun (dd : Nat) (os : Array Obj) => Calls.regrown_of (w := w7) (d := dd) (os := os) (cost_any (n := n) _ v5 (HKA7.out.ed.below (below_regrown w7 dd os) (Nat.le_refl _)) l1 (HV57.out.below (below_regrown w7 dd os) (Nat.le_refl _)) HRR.out hk1))
      have x0 := cell_regrown HKA7.out.box.c0
      have x1 := cell_regrown HKA7.out.box.c1
      have y0 := cell_regrown HKB7.out.box.c0
      have y1 := cell_regrown HKB7.out.box.c1
      clear hk2 hm
      generalize costI es l1 = cst at *
      refine wp_region_quiet_below mixed (by kernel_rfl) ?_
      repeat (quiet_step (first | with_reducible exact CI.out _ _ | with_reducible exact CM.out _ _ | with_reducible exact CL.out _ _))
      refine wpQuiet_nil ?_
      intro _ hw'
      obtain ⟨⟨dq, osq⟩, hw''⟩ := hw'
      subst hw''
      have HBN := Lib.hid (HKA7.out.below.trans ((below_regrown w7 dq osq).mono HKA7.out.below.size))
      clear x0 x1 y0 y1
      go_wp2_with fail
      rw [← HQ.out]
      exact ⟨rfl, HBN.out⟩
theorem lscaled_row (x0 : Int) (v1 : Value) (z1 : List Ed) (v2 : Value) (z2 : List Int) (x3 x4 x5 : Int) (W : World) (b0 : -9223372036854775808 ≤ x0) (c0 : x0 ≤ 9223372036854775807) (h1 : EdgesAt W v1 z1 ∧ RawB z1) (h2 : IntsAt W v2 z2 ∧ z2.length * 8 ≤ 140737488351232)
    (b3 : -9223372036854775808 ≤ x3) (c3 : x3 ≤ 9223372036854775807) (b4 : -9223372036854775808 ≤ x4) (c4 : x4 ≤ 9223372036854775807) (b5 : -9223372036854775808 ≤ x5) (c5 : x5 ≤ 9223372036854775807) :
    Calls Try.prog 8 #[.int .i64 x0, v1, v2, .int .i64 x3, .int .i64 x4, .int .i64 x5] W (Ret (.bool true) W) :=
  lscaled_walk x0 ⟨b0, c0⟩ v1 z1 h1.1 h1.2 v2 z2 h2.1 x3 x4 x5 ⟨b3, c3⟩ ⟨b4, c4⟩ ⟨b5, c5⟩
end Go.Proofs.Ythmblgfcjbiomaa.Rt
