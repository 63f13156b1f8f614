import Derived.Test.YtcbfjkigmlmohaaYl
/- The law LayoutTurned. -/
set_option linter.unusedVariables false
set_option linter.unusedSimpArgs false
namespace Go.Proofs.Ytcbfjkigmlmohaa.Ly
open Go.RowKit

theorem turn_take {es : List Ed} {k : Nat} (h : k < es.length) : turn (es.take (k + 1)) = turn (es.take k) ++ [((ate es k).2.1, (ate es k).1, (ate es k).2.2)] := by
  rw [List.take_succ_eq_append_getElem h, ate_lt h]
  unfold turn
  rw [List.map_append]
  rfl
theorem strong_turn {n : Int} {es : List Ed} (hr : RightL n es) : strongB n (turn es) = strongB n es := by
  rw [Bool.eq_iff_iff, strongB_iff, strongB_iff]
  unfold StrongL
  constructor
  · rintro ⟨_, h⟩
    exact ⟨hr, fun a ha v hv => way_turn.1 (h v hv a ha)⟩
  · rintro ⟨_, h⟩
    exact ⟨hr.turned, fun a ha v hv => way_turn.2 (h v hv a ha)⟩
theorem reach_turn {n : Int} {es : List Ed} (hr : RightL n es) {x y : Int} (hx : nodeB n x = true) (hy : nodeB n y = true) : x ∈ reachL n (turn es) [] y ↔ y ∈ reachL n es [] x := by
  rw [mem_reach hr.turned hy, mem_reach hr hx, way_turn]
  exact ⟨fun h => ⟨hy, h.2⟩, fun h => ⟨hx, h.2⟩⟩
/-- Between the rounds: a box behind an older world, whose edges are a row of one's own. -/
structure TI (n : Int) (v' : Value) (ms : List Ed) (wB wr : World) : Prop where
  below : Below wB.heap.size wB wr
  box2 : wr.heap[wB.heap.size]? = some (.cells #[.int .i64 n, v'] 24 (0, 0))
  row : wr.ownsRow (wB.heap.size + 1) 40 3 v' ms.length (flatE ms)
theorem TI.lt {n : Int} {v' : Value} {ms : List Ed} {wB wr : World} (h : TI n v' ms wB wr) : wB.heap.size < wr.heap.size := (Array.getElem?_eq_some_iff.1 h.box2).1
theorem TI.box {n : Int} {v' : Value} {ms : List Ed} {wB wr : World} (h : TI n v' ms wB wr) : BoxAt n v' wr wB.heap.size :=
  ⟨by rw [cell_of_row _ _ 0 _ _ _ h.box2]; rfl, by rw [cell_of_row _ _ 1 _ _ _ h.box2]; rfl, h.lt⟩
theorem TI.grow {n : Int} {v' : Value} {ms : List Ed} {wB wr wr' : World} (h : TI n v' ms wB wr) (hb : Below wr.heap.size wr wr') : TI n v' ms wB wr' :=
  ⟨h.below.trans (hb.mono h.below.size), (hb.block _ h.lt).trans h.box2, own_below h.row hb⟩
theorem TI.step {n : Int} {v' v'' : Value} {ms : List Ed} {e : Ed} {wB wX w4 : World} (h : TI n v' ms wB wX) (hb : Below (wB.heap.size + 1) wX w4) (ho : w4.ownsRow (wB.heap.size + 1) 40 3 v'' (ms.length + 1) (flatE (ms ++ [e]))) :
    TI n v'' (ms ++ [e]) wB (w4.setCell ⟨wB.heap.size, 1, none⟩ v'') := by
  have hl := h.lt
  have hbx := (hb.block wB.heap.size (by omega)).trans h.box2
  refine ⟨(h.below.trans (hb.mono (by omega))).setCell (Nat.le_refl wB.heap.size) _, ?_, ?_⟩
  · rw [heap_setCell_same _ _ 1 _ _ v'' hbx]
    rfl
  · rw [List.length_append]
    exact ownsRow_setCell_below ho (by show wB.heap.size < _; omega) _
theorem TI.edges {n : Int} {v' : Value} {ms : List Ed} {wB wr : World} (h : TI n v' ms wB wr) (hl : ms.length ≤ 120) : EdgesAt wr v' ms := edges_own h.row rfl (by omega)
theorem TI.start (n : Int) (wB : World) : TI n (.slice none 0 0) [] wB (wB.alloc (.cells #[.int .i64 n, .slice none 0 0] 24)) :=
  ⟨(Below.refl _ wB).alloc (Nat.le_refl _) _, heap_alloc_new wB _, World.ownsRow_nil _ _ _ _⟩
set_option maxRecDepth 100000 in
set_option maxHeartbeats 16000000 in
theorem lturned_walk {w : World} (a : Int) (ha : i64B a) (rv : Value) (L : List Ed) (hL : EdgesAt w rv L) (hB : RawB L) (f g : Int) (hf : i64B f) (hg : i64B g) :
    Calls Try.prog 9 #[.int .i64 a, rv, .int .i64 f, .int .i64 g] w (Ret (.bool true) w) := by
  have CF := Lib.hid (fun w' (h : EdgesAt w' rv L) => fit_ex a ha rv L h hB)
  have HL := Lib.hid hL
  have HFB := Lib.hid hf
  have HGB := Lib.hid hg
  clear ha hL hB hf hg
  obtain ⟨Q, HQ⟩ : ∃ Q, Hid (Ret (.bool true) w = Q) := ⟨_, rfl⟩
  rw [HQ.out]
  go_enter Try.func9, Try.ntmps9
  go_upto_region 3 with (first
    | (go_at_call 10; (with_reducible refine (awake_any _).mono ?_); rintro e w1 ⟨rfl, hb⟩; have HB1 := Lib.hid hb; have HL1 := Lib.hid (HL.out.below hb (Nat.le_refl _)); clear hb)
    | (go_at_call 11; (with_reducible refine (CF.out _ HL1.out).mono ?_); rintro e w2 ⟨n, v, es, rfl, n1, n8, hr, h24, hed, hb⟩; obtain ⟨eo, ec, rfl⟩ := hed.form; have HR := Lib.hid hr; have HK2 := Lib.hid (KX.start (n := n) (HB1.out.trans (hb.mono HB1.out.size)) hed); clear hr hed hb))
  generalize hW : w2.alloc (.cells #[.int .i64 n, .slice eo es.length ec] 24) = wB at *
  clear hW
  have CP := Lib.hid (fun w' => pick_any f n w' HFB.out.1 HFB.out.2 (by omega) (by omega))
  have CP2 := Lib.hid (fun w' => pick_any g n w' HGB.out.1 HGB.out.2 (by omega) (by omega))
  have HNX : Hid (nodeB n (pickS f n) = true) := nodeB_iff.2 ⟨pickS_nonneg (by omega), pickS_lt (by omega)⟩
  have HNY : Hid (nodeB n (pickS g n) = true) := nodeB_iff.2 ⟨pickS_nonneg (by omega), pickS_lt (by omega)⟩
  generalize pickS f n = x at *
  generalize pickS g n = y at *
  generalize w2.heap.size = bx at *
  have HVs : Hid (∀ wz, Below wB.heap.size wB wz → KX w wz bx n (.slice eo es.length ec) es) := fun wz h => HK2.out.grow h
  have HT0 := Lib.hid (TI.start n wB)
  have c0 := HK2.out.box.c0
  go_upto_region 4 with fail
  clear c0
  generalize wB.alloc (.cells #[.int .i64 n, .slice none 0 0] 24) = w3 at *
  generalize hbm : wB.heap.size = bm at *
  have HBM := Lib.hid hbm
  obtain ⟨i0, hi0, hz0, hz1, hz2⟩ := info_parts edge_info
  clear hbm
  go_wp2_with fail
  go_loopw [12] (fun i wr => ∃ (k : Nat) (v' : Value), k ≤ es.length ∧ i = .int .i64 k ∧ Hid (TI n v' (turn (es.take k)) wB wr)) (fun i _ => es.length - (intOf i).toNat)
  case atStart => exact ⟨0, _, Nat.zero_le _, rfl, HT0⟩
  case round =>
    obtain ⟨k, v', hk, rfl, HT⟩ := hrel
    have HKr := Lib.hid (HVs.out _ (by rw [← HBM.out]; exact HT.out.below))
    have c1 := HKr.out.box.c1
    obtain ⟨vo, vc, hv'⟩ := row_form HT.out.row
    have HTL : Hid ((turn (es.take k)).length = k) := by show _ = _; rw [length_turn, List.length_take]; omega
    rw [HTL.out] at hv'
    subst hv'
    by_cases hlt : k < es.length
    · obtain ⟨eo', ec', hveq, _, hcs⟩ := HKr.out.ed
      simp only [Value.slice.injEq] at hveq
      obtain ⟨rfl, -, -⟩ := hveq
      obtain ⟨eb, eof, rfl, elb, hcs⟩ := hcs (by omega)
      obtain ⟨g0, g1, g2⟩ := hcs k hlt
      have HTk := Lib.hid (turn_take hlt)
      have b0 := HT.out.box.c0
      have b1 := HT.out.box.c1
      have hblt := HT.out.lt
      rw [HBM.out] at b0 b1 hblt
      clear hcs
      generalize (ate es k).1 = ef at *
      generalize (ate es k).2.1 = eg at *
      generalize (ate es k).2.2 = eq at *
      have hbs := HT.out.below.size
      have hn0 := HKr.out.box.lt
      go_upto_region 8 with fail
      have HBa : Below wr.heap.size wr (wr.alloc (.cells #[.int .i64 ef, .int .i64 eg, .int .i64 eq] 40)) := (Below.refl _ wr).alloc (Nat.le_refl _) _
      have HTa := Lib.hid (HT.out.grow HBa)
      clear HBa
      have a0 := HTa.out.box.c0
      have a1 := HTa.out.box.c1
      rw [HBM.out] at a0 a1
      have k0 : (wr.alloc (.cells #[.int .i64 ef, .int .i64 eg, .int .i64 eq] 40)).cell? ⟨wr.heap.size, 0, none⟩ = some (.int .i64 ef) := by rw [cell_of_row _ _ 0 _ _ _ (heap_alloc_new wr _)]; rfl
      have k1 : (wr.alloc (.cells #[.int .i64 ef, .int .i64 eg, .int .i64 eq] 40)).cell? ⟨wr.heap.size, 1, none⟩ = some (.int .i64 eg) := by rw [cell_of_row _ _ 1 _ _ _ (heap_alloc_new wr _)]; rfl
      have k2 : (wr.alloc (.cells #[.int .i64 ef, .int .i64 eg, .int .i64 eq] 40)).cell? ⟨wr.heap.size, 2, none⟩ = some (.int .i64 eq) := by rw [cell_of_row _ _ 2 _ _ _ (heap_alloc_new wr _)]; rfl
      clear b0 b1 g0 g1 g2 c1
      generalize wr.alloc (.cells #[.int .i64 ef, .int .i64 eg, .int .i64 eq] 40) = wa at *
      have hro := HTa.out.row
      rw [HTL.out, HBM.out] at hro
      have HRO := Lib.hid hro
      have hla := HTa.out.lt
      rw [HBM.out] at hla
      clear hro
      go_wp2_with (at_builtin; (refine wpList_append_lies _ rfl _ _ 22 rfl (bm + 1) 40 i0 _ 3 24 Try.underlying22 hi0 hz0 hz1 hz2 rfl (by omega) _ k (flatE (turn (es.take k))) rfl (HRO.out.alloc _) ⟨wa.heap.size, 0, none⟩ 1 1 [.int .i64 eg, .int .i64 ef, .int .i64 eq] rfl rfl (World.news_of_block (cs := #[.int .i64 eg, .int .i64 ef, .int .i64 eq]) (t := 40) (fr := (0, 0)) (heap_alloc_new wa _)) (by simp [Value.oneCell']) (by omega) (by unfold maxLen; omega) (by omega) (by simp; omega) (wa.heap.size + 1) (by simp) ?_); intro g' cp w4 hown hgrow hat hlt4; have HB4 := Lib.hid (row_below HRO.out hgrow (Below.refl _ wa) (by omega)); have hbx := (HB4.out.block bm (by omega)).trans (HBM.out ▸ HTa.out.box2); have y1 := cell_of_row w4 bm 1 _ _ _ hbx; have yf := frozen_of_row w4 bm 1 _ _ hbx; have HO4 := Lib.hid hown; clear hown hgrow hat hbx)
      have HIn : Hid (TI n (.slice (some ⟨g', 0, none⟩) (k + 1) cp) (turn (es.take (k + 1))) wB (w4.setCell ⟨bm, 1, none⟩ (.slice (some ⟨g', 0, none⟩) (k + 1) cp))) := by
        show TI _ _ _ _ _
        have h := HTa.out.step (e := (eg, ef, eq)) (v'' := .slice (some ⟨g', 0, none⟩) (k + 1) cp) (w4 := w4) (by rw [HBM.out]; exact HB4.out) (by rw [HBM.out, HTL.out, flatE_append]; exact HO4.out)
        rw [HBM.out] at h
        rw [HTk.out]
        exact h
      go_roundw
      case rel => exact ⟨k + 1, _, by omega, by go_num, HIn⟩
      case measure => simp [intOf]; omega
    · obtain rfl : k = es.length := by omega
      have HTe : Hid (TI n (.slice vo es.length vc) (turn es) wB wr) := by
        have := HT.out
        rwa [List.take_length] at this
      have HED := Lib.hid (HTe.out.edges (by rw [length_turn]; omega))
      have b0 := HTe.out.box.c0
      have b1 := HTe.out.box.c1
      have c0 := HKr.out.box.c0
      rw [HBM.out] at b0 b1
      clear HT
      go_upto_region 11 with (first
        | (go_at_call 12; (with_reducible refine (CP.out _).mono ?_); rintro e w3 ⟨rfl, rfl⟩)
        | (go_at_call 12; (with_reducible refine (CP2.out _).mono ?_); rintro e w3 ⟨rfl, rfl⟩))
      rename_i K2 A2
      have CRm := Lib.hid (fun w' (hu : EdgesAt w' (.slice vo es.length vc) (turn es)) => right_any (n := n) (es := turn es) (w := w') _ hu true (rightB_true HR.out.turned))
      have CRl := Lib.hid (fun w' (hu : EdgesAt w' (.slice eo es.length ec) es) => reach_any (n := n) (es := es) (w := w') _ (.slice none 0 0) hu [] (IntsAt.nil w' 0) x)
      have CRM := Lib.hid (fun w' (hu : EdgesAt w' (.slice vo es.length vc) (turn es)) => reach_any (n := n) (es := turn es) (w := w') _ (.slice none 0 0) hu [] (IntsAt.nil w' 0) y)
      have HRT := Lib.hid (reach_turn HR.out HNX.out HNY.out)
      obtain ⟨s0, hs0⟩ : ∃ s, strongB n es = s := ⟨_, rfl⟩
      have CS1 := Lib.hid (fun w' (hu : EdgesAt w' (.slice eo es.length ec) es) => strong_any (n := n) (es := es) (w := w') _ hu s0 hs0)
      have CS2 := Lib.hid (fun w' (hu : EdgesAt w' (.slice vo es.length vc) (turn es)) => strong_any (n := n) (es := turn es) (w := w') _ hu s0 (by rw [strong_turn HR.out]; exact hs0))
      generalize reachL n es [] x = RL at *
      generalize reachL n (turn es) [] y = RM at *
      obtain ⟨t0, ht0⟩ : ∃ t, decide (y ∈ RL) = t := ⟨_, rfl⟩
      have CH1 := Lib.hid (fun w' u (hu : IntsAt w' u RL) => has_any RL y u w' hu t0 ht0)
      have CH2 := Lib.hid (fun w' u (hu : IntsAt w' u RM) => has_any RM x u w' hu t0 (by rw [← ht0]; exact decide_eq_decide.2 HRT.out))
      clear hs0 ht0 CF CP CP2
      refine wp_region_grow_all mixed (fun zs => { tmps := List.toArray (Value.int .i64 a :: rv :: Value.int .i64 f :: Value.int .i64 g :: undef :: undef :: undef :: undef :: zs.getD 25 undef :: Value.bool true :: Value.pointer (some ⟨bx, 0, none⟩) :: Value.pointer (some ⟨bm, 0, none⟩) :: Value.int .i64 (es.length : Nat) :: u13 :: Value.int .i64 x :: Value.int .i64 y :: Value.bool true :: Value.int .i64 a :: rv :: Value.agg #[Value.int .i64 n, Value.slice eo es.length ec] :: Value.pointer (some ⟨bx, 0, none⟩) :: Value.int .i64 n :: Value.agg #[Value.int .i64 n, Value.slice none 0 0] :: Value.int .i64 (es.length : Nat) :: Value.pointer (some ⟨bx, 1, none⟩) :: Value.slice eo es.length ec :: Value.int .i64 (es.length : Nat) :: Value.bool false :: u28 :: u29 :: u30 :: u31 :: u32 :: u33 :: u34 :: u35 :: u36 :: u37 :: u38 :: u39 :: u40 :: u41 :: u42 :: u43 :: u44 :: u45 :: u46 :: Value.int .i64 f :: Value.pointer (some ⟨bx, 0, none⟩) :: Value.int .i64 n :: Value.int .i64 x :: Value.int .i64 g :: Value.pointer (some ⟨bx, 0, none⟩) :: Value.int .i64 n :: Value.int .i64 y :: zs.getD 0 undef :: zs.getD 1 undef :: zs.getD 2 undef :: zs.getD 3 undef :: zs.getD 4 undef :: zs.getD 5 undef :: zs.getD 6 undef :: zs.getD 7 undef :: zs.getD 8 undef :: zs.getD 9 undef :: zs.getD 10 undef :: zs.getD 11 undef :: zs.getD 12 undef :: zs.getD 13 undef :: zs.getD 14 undef :: zs.getD 15 undef :: zs.getD 16 undef :: zs.getD 17 undef :: zs.getD 18 undef :: zs.getD 19 undef :: zs.getD 20 undef :: zs.getD 21 undef :: zs.getD 22 undef :: zs.getD 23 undef :: zs.getD 24 undef :: []), defers := [] }) [(fun z _ => z = Value.bool true), (fun z _ => z = Value.bool true), (fun z _ => z = Value.agg #[Value.int .i64 n, Value.slice vo es.length vc]), (fun z _ => z = Value.bool true), (fun z _ => z = Value.bool true), (fun z _ => z = Value.bool true), (fun z _ => z = Value.agg #[Value.int .i64 n, Value.slice eo es.length ec]), (fun z _ => z = Value.int .i64 x), (IntsV RL), (fun z _ => z = Value.int .i64 y), (fun z _ => z = Value.bool t0), (fun z _ => z = Value.agg #[Value.int .i64 n, Value.slice vo es.length vc]), (fun z _ => z = Value.int .i64 y), (IntsV RM), (fun z _ => z = Value.int .i64 x), (fun z _ => z = Value.bool t0), (fun z _ => z = Value.bool true), (fun z _ => z = Value.bool true), (fun z _ => z = Value.bool true), (fun z _ => z = Value.agg #[Value.int .i64 n, Value.slice eo es.length ec]), (fun z _ => z = Value.bool s0), (fun z _ => z = Value.agg #[Value.int .i64 n, Value.slice vo es.length vc]), (fun z _ => z = Value.bool s0), (fun z _ => z = Value.bool true), (fun z _ => z = Value.bool true), (fun z _ => z = Value.bool true)] [undef, undef, undef, undef, undef, undef, undef, undef, undef, undef, undef, undef, undef, undef, undef, undef, undef, undef, undef, undef, undef, undef, undef, undef, undef, Value.bool false] rfl rfl rfl ?_ (by kernel_rfl) ?_ ?_
      · intro p hp
        simp only [List.mem_cons, List.not_mem_nil, or_false] at hp
        rcases hp with rfl | rfl | rfl | rfl | rfl | rfl | rfl | rfl | rfl | rfl | rfl | rfl | rfl | rfl | rfl | rfl | rfl | rfl | rfl | rfl | rfl | rfl | rfl | rfl | rfl | rfl
        all_goals first | exact stable_eq _ | exact IntsV.stable _
      · intro i hi zs l wz o hz hF ho hpre
        have hi' : i < 26 := hi
        clear A2
        have HTz := Lib.hid (HTe.out.grow hF.bel)
        have HKz := Lib.hid (HKr.out.grow hF.bel)
        have c0' := HKz.out.box.c0
        have c1' := HKz.out.box.c1
        have b0' := HTz.out.box.c0
        have b1' := HTz.out.box.c1
        rw [HBM.out] at b0' b1'
        have HEl := Lib.hid HKz.out.ed
        have HEm := Lib.hid (HED.out.below hF.bel (Nat.le_refl _))
        clear b0 b1 c0
        match zs, (show zs.length = 26 from hz) with
        | z0 :: z1 :: z2 :: z3 :: z4 :: z5 :: z6 :: z7 :: z8 :: z9 :: z10 :: z11 :: z12 :: z13 :: z14 :: z15 :: z16 :: z17 :: z18 :: z19 :: z20 :: z21 :: z22 :: z23 :: z24 :: z25 :: [], _ =>
          clear hz hi
          change wpOp _ _ _ _ _ { tmps := List.toArray (Value.int .i64 a :: rv :: Value.int .i64 f :: Value.int .i64 g :: undef :: undef :: undef :: undef :: z25 :: Value.bool true :: Value.pointer (some ⟨bx, 0, none⟩) :: Value.pointer (some ⟨bm, 0, none⟩) :: Value.int .i64 (es.length : Nat) :: u13 :: Value.int .i64 x :: Value.int .i64 y :: Value.bool true :: Value.int .i64 a :: rv :: Value.agg #[Value.int .i64 n, Value.slice eo es.length ec] :: Value.pointer (some ⟨bx, 0, none⟩) :: Value.int .i64 n :: Value.agg #[Value.int .i64 n, Value.slice none 0 0] :: Value.int .i64 (es.length : Nat) :: Value.pointer (some ⟨bx, 1, none⟩) :: Value.slice eo es.length ec :: Value.int .i64 (es.length : Nat) :: Value.bool false :: u28 :: u29 :: u30 :: u31 :: u32 :: u33 :: u34 :: u35 :: u36 :: u37 :: u38 :: u39 :: u40 :: u41 :: u42 :: u43 :: u44 :: u45 :: u46 :: Value.int .i64 f :: Value.pointer (some ⟨bx, 0, none⟩) :: Value.int .i64 n :: Value.int .i64 x :: Value.int .i64 g :: Value.pointer (some ⟨bx, 0, none⟩) :: Value.int .i64 n :: Value.int .i64 y :: z0 :: z1 :: z2 :: z3 :: z4 :: z5 :: z6 :: z7 :: z8 :: z9 :: z10 :: z11 :: z12 :: z13 :: z14 :: z15 :: z16 :: z17 :: z18 :: z19 :: z20 :: z21 :: z22 :: z23 :: z24 :: []), defers := [] } _
          have hc : i = 0 ∨ i = 1 ∨ i = 2 ∨ i = 3 ∨ i = 4 ∨ i = 5 ∨ i = 6 ∨ i = 7 ∨ i = 8 ∨ i = 9 ∨ i = 10 ∨ i = 11 ∨ i = 12 ∨ i = 13 ∨ i = 14 ∨ i = 15 ∨ i = 16 ∨ i = 17 ∨ i = 18 ∨ i = 19 ∨ i = 20 ∨ i = 21 ∨ i = 22 ∨ i = 23 ∨ i = 24 ∨ i = 25 := by omega
          clear hi'
          rcases hc with rfl | rfl | rfl | rfl | rfl | rfl | rfl | rfl | rfl | rfl | rfl | rfl | rfl | rfl | rfl | rfl | rfl | rfl | rfl | rfl | rfl | rfl | rfl | rfl | rfl | rfl
          · clear ho hpre
            refine wpOp_here rfl (fun K' hK => ?_)
            go_simp
            exact hK _ _ ⟨_, rfl, Below.refl _ _, fun p hp => by cases (show some (fun z _ => z = Value.bool true) = some p from hp); exact rfl⟩
          · have p0 := hF.fact 0 _ _ rfl rfl (hpre ⟨0, .data⟩ (by cases ho; simp) rfl)
            subst p0
            clear ho hpre
            refine wpOp_here rfl (fun K' hK => ?_)
            go_simp
            exact hK _ _ ⟨_, rfl, Below.refl _ _, fun p hp => by cases (show some (fun z _ => z = Value.bool true) = some p from hp); exact rfl⟩
          · have p1 := hF.fact 1 _ _ rfl rfl (hpre ⟨1, .guard⟩ (by cases ho; simp) rfl)
            subst p1
            clear ho hpre
            refine wpOp_here rfl (fun K' hK => ?_)
            go_simp
            exact hK _ _ ⟨_, rfl, Below.refl _ _, fun p hp => by cases (show some (fun z _ => z = Value.agg #[Value.int .i64 n, Value.slice vo es.length vc]) = some p from hp); exact rfl⟩
          · have p2 := hF.fact 2 _ _ rfl rfl (hpre ⟨2, .data⟩ (by cases ho; simp) rfl)
            subst p2
            have p1 := hF.fact 1 _ _ rfl rfl (hpre ⟨1, .guard⟩ (by cases ho; simp) rfl)
            subst p1
            clear ho hpre
            refine wpOp_here rfl (fun K' hK => ?_)
            go_simp
            refine (CRm.out _ HEm.out).mono ?_
            rintro e6 w6' ⟨rfl, hb6⟩
            exact hK _ _ ⟨_, rfl, hb6, fun p hp => by cases (show some (fun z _ => z = Value.bool true) = some p from hp); exact rfl⟩
          · have p1 := hF.fact 1 _ _ rfl rfl (hpre ⟨1, .data⟩ (by cases ho; simp) rfl)
            subst p1
            have p3 := hF.fact 3 _ _ rfl rfl (hpre ⟨3, .data⟩ (by cases ho; simp) rfl)
            subst p3
            clear ho hpre
            refine wpOp_here rfl (fun K' hK => ?_)
            go_simp
            exact hK _ _ ⟨_, rfl, Below.refl _ _, fun p hp => by cases (show some (fun z _ => z = Value.bool true) = some p from hp); exact rfl⟩
          · have p4 := hF.fact 4 _ _ rfl rfl (hpre ⟨4, .data⟩ (by cases ho; simp) rfl)
            subst p4
            clear ho hpre
            refine wpOp_here rfl (fun K' hK => ?_)
            go_simp
            exact hK _ _ ⟨_, rfl, Below.refl _ _, fun p hp => by cases (show some (fun z _ => z = Value.bool true) = some p from hp); exact rfl⟩
          · have p5 := hF.fact 5 _ _ rfl rfl (hpre ⟨5, .guard⟩ (by cases ho; simp) rfl)
            subst p5
            clear ho hpre
            refine wpOp_here rfl (fun K' hK => ?_)
            go_simp
            exact hK _ _ ⟨_, rfl, Below.refl _ _, fun p hp => by cases (show some (fun z _ => z = Value.agg #[Value.int .i64 n, Value.slice eo es.length ec]) = some p from hp); exact rfl⟩
          · have p5 := hF.fact 5 _ _ rfl rfl (hpre ⟨5, .guard⟩ (by cases ho; simp) rfl)
            subst p5
            clear ho hpre
            refine wpOp_here rfl (fun K' hK => ?_)
            go_simp
            exact hK _ _ ⟨_, rfl, Below.refl _ _, fun p hp => by cases (show some (fun z _ => z = Value.int .i64 x) = some p from hp); exact rfl⟩
          · have p6 := hF.fact 6 _ _ rfl rfl (hpre ⟨6, .data⟩ (by cases ho; simp) rfl)
            subst p6
            have p7 := hF.fact 7 _ _ rfl rfl (hpre ⟨7, .data⟩ (by cases ho; simp) rfl)
            subst p7
            have p5 := hF.fact 5 _ _ rfl rfl (hpre ⟨5, .guard⟩ (by cases ho; simp) rfl)
            subst p5
            clear ho hpre
            refine wpOp_here rfl (fun K' hK => ?_)
            go_simp
            refine (CRl.out _ HEl.out).mono ?_
            rintro e6 w6' ⟨v6, rfl, hv6, hb6⟩
            exact hK _ _ ⟨_, rfl, hb6, fun p hp => by cases (show some (IntsV RL) = some p from hp); exact hv6⟩
          · have p5 := hF.fact 5 _ _ rfl rfl (hpre ⟨5, .guard⟩ (by cases ho; simp) rfl)
            subst p5
            clear ho hpre
            refine wpOp_here rfl (fun K' hK => ?_)
            go_simp
            exact hK _ _ ⟨_, rfl, Below.refl _ _, fun p hp => by cases (show some (fun z _ => z = Value.int .i64 y) = some p from hp); exact rfl⟩
          · have p8 := hF.fact 8 _ _ rfl rfl (hpre ⟨8, .data⟩ (by cases ho; simp) rfl)
            have p9 := hF.fact 9 _ _ rfl rfl (hpre ⟨9, .data⟩ (by cases ho; simp) rfl)
            subst p9
            have p5 := hF.fact 5 _ _ rfl rfl (hpre ⟨5, .guard⟩ (by cases ho; simp) rfl)
            subst p5
            clear ho hpre
            refine wpOp_here rfl (fun K' hK => ?_)
            go_simp
            refine (CH1.out _ _ p8).mono ?_
            rintro e6 w6' ⟨rfl, rfl⟩
            exact hK _ _ ⟨_, rfl, Below.refl _ _, fun p hp => by cases (show some (fun z _ => z = Value.bool t0) = some p from hp); exact rfl⟩
          · have p5 := hF.fact 5 _ _ rfl rfl (hpre ⟨5, .guard⟩ (by cases ho; simp) rfl)
            subst p5
            clear ho hpre
            refine wpOp_here rfl (fun K' hK => ?_)
            go_simp
            exact hK _ _ ⟨_, rfl, Below.refl _ _, fun p hp => by cases (show some (fun z _ => z = Value.agg #[Value.int .i64 n, Value.slice vo es.length vc]) = some p from hp); exact rfl⟩
          · have p5 := hF.fact 5 _ _ rfl rfl (hpre ⟨5, .guard⟩ (by cases ho; simp) rfl)
            subst p5
            clear ho hpre
            refine wpOp_here rfl (fun K' hK => ?_)
            go_simp
            exact hK _ _ ⟨_, rfl, Below.refl _ _, fun p hp => by cases (show some (fun z _ => z = Value.int .i64 y) = some p from hp); exact rfl⟩
          · have p11 := hF.fact 11 _ _ rfl rfl (hpre ⟨11, .data⟩ (by cases ho; simp) rfl)
            subst p11
            have p12 := hF.fact 12 _ _ rfl rfl (hpre ⟨12, .data⟩ (by cases ho; simp) rfl)
            subst p12
            have p5 := hF.fact 5 _ _ rfl rfl (hpre ⟨5, .guard⟩ (by cases ho; simp) rfl)
            subst p5
            clear ho hpre
            refine wpOp_here rfl (fun K' hK => ?_)
            go_simp
            refine (CRM.out _ HEm.out).mono ?_
            rintro e6 w6' ⟨v6, rfl, hv6, hb6⟩
            exact hK _ _ ⟨_, rfl, hb6, fun p hp => by cases (show some (IntsV RM) = some p from hp); exact hv6⟩
          · have p5 := hF.fact 5 _ _ rfl rfl (hpre ⟨5, .guard⟩ (by cases ho; simp) rfl)
            subst p5
            clear ho hpre
            refine wpOp_here rfl (fun K' hK => ?_)
            go_simp
            exact hK _ _ ⟨_, rfl, Below.refl _ _, fun p hp => by cases (show some (fun z _ => z = Value.int .i64 x) = some p from hp); exact rfl⟩
          · have p13 := hF.fact 13 _ _ rfl rfl (hpre ⟨13, .data⟩ (by cases ho; simp) rfl)
            have p14 := hF.fact 14 _ _ rfl rfl (hpre ⟨14, .data⟩ (by cases ho; simp) rfl)
            subst p14
            have p5 := hF.fact 5 _ _ rfl rfl (hpre ⟨5, .guard⟩ (by cases ho; simp) rfl)
            subst p5
            clear ho hpre
            refine wpOp_here rfl (fun K' hK => ?_)
            go_simp
            refine (CH2.out _ _ p13).mono ?_
            rintro e6 w6' ⟨rfl, rfl⟩
            exact hK _ _ ⟨_, rfl, Below.refl _ _, fun p hp => by cases (show some (fun z _ => z = Value.bool t0) = some p from hp); exact rfl⟩
          · have p10 := hF.fact 10 _ _ rfl rfl (hpre ⟨10, .data⟩ (by cases ho; simp) rfl)
            subst p10
            have p15 := hF.fact 15 _ _ rfl rfl (hpre ⟨15, .data⟩ (by cases ho; simp) rfl)
            subst p15
            have p5 := hF.fact 5 _ _ rfl rfl (hpre ⟨5, .guard⟩ (by cases ho; simp) rfl)
            subst p5
            clear ho hpre
            refine wpOp_here rfl (fun K' hK => ?_)
            go_simp
            exact hK _ _ ⟨_, rfl, Below.refl _ _, fun p hp => by cases (show some (fun z _ => z = Value.bool true) = some p from hp); exact rfl⟩
          · have p5 := hF.fact 5 _ _ rfl rfl (hpre ⟨5, .data⟩ (by cases ho; simp) rfl)
            subst p5
            have p16 := hF.fact 16 _ _ rfl rfl (hpre ⟨16, .data⟩ (by cases ho; simp) rfl)
            subst p16
            clear ho hpre
            refine wpOp_here rfl (fun K' hK => ?_)
            go_simp
            exact hK _ _ ⟨_, rfl, Below.refl _ _, fun p hp => by cases (show some (fun z _ => z = Value.bool true) = some p from hp); exact rfl⟩
          · have p17 := hF.fact 17 _ _ rfl rfl (hpre ⟨17, .data⟩ (by cases ho; simp) rfl)
            subst p17
            clear ho hpre
            refine wpOp_here rfl (fun K' hK => ?_)
            go_simp
            exact hK _ _ ⟨_, rfl, Below.refl _ _, fun p hp => by cases (show some (fun z _ => z = Value.bool true) = some p from hp); exact rfl⟩
          · have p18 := hF.fact 18 _ _ rfl rfl (hpre ⟨18, .guard⟩ (by cases ho; simp) rfl)
            subst p18
            clear ho hpre
            refine wpOp_here rfl (fun K' hK => ?_)
            go_simp
            exact hK _ _ ⟨_, rfl, Below.refl _ _, fun p hp => by cases (show some (fun z _ => z = Value.agg #[Value.int .i64 n, Value.slice eo es.length ec]) = some p from hp); exact rfl⟩
          · have p19 := hF.fact 19 _ _ rfl rfl (hpre ⟨19, .data⟩ (by cases ho; simp) rfl)
            subst p19
            have p18 := hF.fact 18 _ _ rfl rfl (hpre ⟨18, .guard⟩ (by cases ho; simp) rfl)
            subst p18
            clear ho hpre
            refine wpOp_here rfl (fun K' hK => ?_)
            go_simp
            refine (CS1.out _ HEl.out).mono ?_
            rintro e6 w6' ⟨rfl, hb6⟩
            exact hK _ _ ⟨_, rfl, hb6, fun p hp => by cases (show some (fun z _ => z = Value.bool s0) = some p from hp); exact rfl⟩
          · have p18 := hF.fact 18 _ _ rfl rfl (hpre ⟨18, .guard⟩ (by cases ho; simp) rfl)
            subst p18
            clear ho hpre
            refine wpOp_here rfl (fun K' hK => ?_)
            go_simp
            exact hK _ _ ⟨_, rfl, Below.refl _ _, fun p hp => by cases (show some (fun z _ => z = Value.agg #[Value.int .i64 n, Value.slice vo es.length vc]) = some p from hp); exact rfl⟩
          · have p21 := hF.fact 21 _ _ rfl rfl (hpre ⟨21, .data⟩ (by cases ho; simp) rfl)
            subst p21
            have p18 := hF.fact 18 _ _ rfl rfl (hpre ⟨18, .guard⟩ (by cases ho; simp) rfl)
            subst p18
            clear ho hpre
            refine wpOp_here rfl (fun K' hK => ?_)
            go_simp
            refine (CS2.out _ HEm.out).mono ?_
            rintro e6 w6' ⟨rfl, hb6⟩
            exact hK _ _ ⟨_, rfl, hb6, fun p hp => by cases (show some (fun z _ => z = Value.bool s0) = some p from hp); exact rfl⟩
          · have p20 := hF.fact 20 _ _ rfl rfl (hpre ⟨20, .data⟩ (by cases ho; simp) rfl)
            subst p20
            have p22 := hF.fact 22 _ _ rfl rfl (hpre ⟨22, .data⟩ (by cases ho; simp) rfl)
            subst p22
            have p18 := hF.fact 18 _ _ rfl rfl (hpre ⟨18, .guard⟩ (by cases ho; simp) rfl)
            subst p18
            clear ho hpre
            refine wpOp_here rfl (fun K' hK => ?_)
            go_simp
            exact hK _ _ ⟨_, rfl, Below.refl _ _, fun p hp => by cases (show some (fun z _ => z = Value.bool true) = some p from hp); exact rfl⟩
          · have p18 := hF.fact 18 _ _ rfl rfl (hpre ⟨18, .data⟩ (by cases ho; simp) rfl)
            subst p18
            have p23 := hF.fact 23 _ _ rfl rfl (hpre ⟨23, .data⟩ (by cases ho; simp) rfl)
            subst p23
            clear ho hpre
            refine wpOp_here rfl (fun K' hK => ?_)
            go_simp
            exact hK _ _ ⟨_, rfl, Below.refl _ _, fun p hp => by cases (show some (fun z _ => z = Value.bool true) = some p from hp); exact rfl⟩
          · have p24 := hF.fact 24 _ _ rfl rfl (hpre ⟨24, .data⟩ (by cases ho; simp) rfl)
            subst p24
            clear ho hpre
            refine wpOp_here rfl (fun K' hK => ?_)
            go_simp
            exact hK _ _ ⟨_, rfl, Below.refl _ _, fun p hp => by cases (show some (fun z _ => z = Value.bool true) = some p from hp); exact rfl⟩
      · intro zs wz hz hbel hev
        match zs, (show zs.length = 26 from hz) with
        | z0 :: z1 :: z2 :: z3 :: z4 :: z5 :: z6 :: z7 :: z8 :: z9 :: z10 :: z11 :: z12 :: z13 :: z14 :: z15 :: z16 :: z17 :: z18 :: z19 :: z20 :: z21 :: z22 :: z23 :: z24 :: z25 :: [], _ =>
          have p0 := hev 0 _ _ rfl rfl
          have p1 := hev 1 _ _ rfl rfl
          have p2 := hev 2 _ _ rfl rfl
          have p3 := hev 3 _ _ rfl rfl
          have p4 := hev 4 _ _ rfl rfl
          have p5 := hev 5 _ _ rfl rfl
          have p6 := hev 6 _ _ rfl rfl
          have p7 := hev 7 _ _ rfl rfl
          have p8 := hev 8 _ _ rfl rfl
          have p9 := hev 9 _ _ rfl rfl
          have p10 := hev 10 _ _ rfl rfl
          have p11 := hev 11 _ _ rfl rfl
          have p12 := hev 12 _ _ rfl rfl
          have p13 := hev 13 _ _ rfl rfl
          have p14 := hev 14 _ _ rfl rfl
          have p15 := hev 15 _ _ rfl rfl
          have p16 := hev 16 _ _ rfl rfl
          have p17 := hev 17 _ _ rfl rfl
          have p18 := hev 18 _ _ rfl rfl
          have p19 := hev 19 _ _ rfl rfl
          have p20 := hev 20 _ _ rfl rfl
          have p21 := hev 21 _ _ rfl rfl
          have p22 := hev 22 _ _ rfl rfl
          have p23 := hev 23 _ _ rfl rfl
          have p24 := hev 24 _ _ rfl rfl
          have p25 := hev 25 _ _ rfl rfl
          subst p0 p1 p2 p3 p4 p5 p6 p7 p9 p10 p11 p12 p14 p15 p16 p17 p18 p19 p20 p21 p22 p23 p24 p25
          clear hz hev
          change Exit.then _ _ .normal { tmps := List.toArray (Value.int .i64 a :: rv :: Value.int .i64 f :: Value.int .i64 g :: undef :: undef :: undef :: undef :: Value.bool true :: Value.bool true :: Value.pointer (some ⟨bx, 0, none⟩) :: Value.pointer (some ⟨bm, 0, none⟩) :: Value.int .i64 (es.length : Nat) :: u13 :: Value.int .i64 x :: Value.int .i64 y :: Value.bool true :: Value.int .i64 a :: rv :: Value.agg #[Value.int .i64 n, Value.slice eo es.length ec] :: Value.pointer (some ⟨bx, 0, none⟩) :: Value.int .i64 n :: Value.agg #[Value.int .i64 n, Value.slice none 0 0] :: Value.int .i64 (es.length : Nat) :: Value.pointer (some ⟨bx, 1, none⟩) :: Value.slice eo es.length ec :: Value.int .i64 (es.length : Nat) :: Value.bool false :: u28 :: u29 :: u30 :: u31 :: u32 :: u33 :: u34 :: u35 :: u36 :: u37 :: u38 :: u39 :: u40 :: u41 :: u42 :: u43 :: u44 :: u45 :: u46 :: Value.int .i64 f :: Value.pointer (some ⟨bx, 0, none⟩) :: Value.int .i64 n :: Value.int .i64 x :: Value.int .i64 g :: Value.pointer (some ⟨bx, 0, none⟩) :: Value.int .i64 n :: Value.int .i64 y :: Value.bool true :: Value.bool true :: Value.agg #[Value.int .i64 n, Value.slice vo es.length vc] :: Value.bool true :: Value.bool true :: Value.bool true :: Value.agg #[Value.int .i64 n, Value.slice eo es.length ec] :: Value.int .i64 x :: z8 :: Value.int .i64 y :: Value.bool t0 :: Value.agg #[Value.int .i64 n, Value.slice vo es.length vc] :: Value.int .i64 y :: z13 :: Value.int .i64 x :: Value.bool t0 :: Value.bool true :: Value.bool true :: Value.bool true :: Value.agg #[Value.int .i64 n, Value.slice eo es.length ec] :: Value.bool s0 :: Value.agg #[Value.int .i64 n, Value.slice vo es.length vc] :: Value.bool s0 :: Value.bool true :: Value.bool true :: []), defers := [] } _
          refine A2 _ _ ?_
          have HKz := Lib.hid (HKr.out.grow hbel)
          clear hbel p8 p13
          go_wp2_with fail
          rw [← HQ.out]
          exact ⟨rfl, HKz.out.below⟩
/-- As the row hands it over. -/
theorem lturned_row (a : Int) (rv : Value) (L : List Ed) (f g : Int) (w : World) (h0 : -9223372036854775808 ≤ a) (h1 : a ≤ 9223372036854775807) (hL : EdgesAt w rv L ∧ RawB L) (f0 : -9223372036854775808 ≤ f) (f1 : f ≤ 9223372036854775807) (g0 : -9223372036854775808 ≤ g) (g1 : g ≤ 9223372036854775807) :
    Calls Try.prog 9 #[.int .i64 a, rv, .int .i64 f, .int .i64 g] w (Ret (.bool true) w) := lturned_walk a ⟨h0, h1⟩ rv L hL.1 hL.2 f g ⟨f0, f1⟩ ⟨g0, g1⟩
end Go.Proofs.Ytcbfjkigmlmohaa.Ly
