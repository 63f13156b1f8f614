import Derived.Test.YthmblgfcjbiomaaRo
import Derived.Test.YthmblgfcjbiomaaYl
import Derived.Test.YthmblgfcjbiomaaAn
/- The law RouteTours. -/
set_option linter.unusedVariables false
set_option linter.unusedSimpArgs false
namespace Go.Proofs.Ythmblgfcjbiomaa.Rt
open Go.RowKit Ly

theorem wpList_nil_append_w {P : Program} {ops : Array Oper} {rest : List Oper} {o : Oper} {a : Act} {w : World} {Q : Exit → Act → World → Prop} (hgd : Region.wanted o (yielded ops a.tmps) = true) (s x : Operand) (t : TypeId)
    (ho : o.op = .call { callee := .builtin .append, args := #[s, x], argTypes := #[t, t] })
    (base : Nat) (e : TypeId) (i : TypeInfo) (z : Value) (size bytes : Nat) (ht : P.underlying t = some (.slice e)) (hi : P.info? e = some i) (hz : i.zero = some z)
    (hsize : i.size = size) (hby : i.bytes = bytes) (hzs : z.cells.size = size) (hsz : 0 < size) (hs : a.eval s = .slice none 0 0) (ao : Option Addr) (n c : Nat) (hx : a.eval x = .slice ao n c) (news : List Value) (hl : news.length = n * size)
    (hc : 0 < n → ∃ a, ao = some a ∧ ∀ j u, news[j]? = some u → w.cell? (a.add j) = some u) (h1 : ∀ u ∈ news, u.oneCell' = true) (h63 : n ≤ maxLen) (hbytes : n * bytes ≤ 140737488355328) (hbase : base ≤ w.heap.size)
    (h : ∀ v' w', w'.ownsRow base e size v' n news → w.grownBy w' none → wpList P ops Q rest (a.put o.dst v') w') : wpList P ops Q (o :: rest) a w :=
  BigFrame.wpList_want hgd fun K hK => by
    obtain ⟨v', w', hr, h2, h3⟩ := run_nil_append (P := P) w base t o.type e i z size bytes ht hi hz hsize hby hzs hsz ao n c news hl hc h1 h63 hbytes hbase
    unfold Oper.wp execOp
    simp only [ho, resolve, invoke, builtin, Sem.run_bind, Sem.run_pure, Result.andThen_ok, List.map_toArray, List.map_cons, List.map_nil, hs, hx, hr]
    exact hK _ _ (h v' w' h2 h3)
theorem wpList_append_rows_w {P : Program} {ops : Array Oper} {rest : List Oper} {o : Oper} {a : Act} {w : World} {Q : Exit → Act → World → Prop} (hgd : Region.wanted o (yielded ops a.tmps) = true) (s x : Operand) (t : TypeId)
    (ho : o.op = .call { callee := .builtin .append, args := #[s, x], argTypes := #[t, t] })
    (base base' : Nat) (e : TypeId) (i : TypeInfo) (z : Value) (size bytes : Nat) (ht : P.underlying t = some (.slice e)) (hi : P.info? e = some i) (hz : i.zero = some z)
    (hsize : i.size = size) (hby : i.bytes = bytes) (hzs : z.cells.size = size) (hsz : 0 < size)
    (v : Value) (n : Nat) (xs : List Value) (hs : a.eval s = v) (hown : w.ownsRow base e size v n xs) (xv : Value) (m : Nat) (news : List Value) (hxv : a.eval x = xv) (hx : w.ownsRow base' e size xv m news) (h1 : ∀ u ∈ news, u.oneCell' = true)
    (h63 : n + m ≤ maxLen) (hbytes : (n + m) * bytes ≤ 140737488355328) (hbase : base ≤ w.heap.size)
    (h : ∀ v' w', w'.ownsRow base e size v' (n + m) (xs ++ news) → w.grownBy w' v.ownBlock → wpList P ops Q rest (a.put o.dst v') w') : wpList P ops Q (o :: rest) a w :=
  BigFrame.wpList_want hgd fun K hK => by
    obtain ⟨v', w', hr, h2, h3, _⟩ := run_append_rows (P := P) w t o.type base base' e i z size bytes ht hi hz hsize hby hzs hsz v n xs hown xv m news hx h1 h63 hbytes hbase
    unfold Oper.wp execOp
    simp only [ho, resolve, invoke, builtin, Sem.run_bind, Sem.run_pure, Result.andThen_ok, List.map_toArray, List.map_cons, List.map_nil, hs, hxv, hr]
    exact hK _ _ (h v' w' h2 h3)
theorem pick_node {c n : Int} (h : 0 < n) : nodeB n (pickS c n) = true := nodeB_iff.2 ⟨pickS_nonneg h, pickS_lt h⟩
/-- In a right layout, between nodes. -/
theorem route_in {n : Int} {es : List Ed} {bl : List Int} {a b : Int} (hr : RightL n es) (ha : nodeB n a = true) (hb : nodeB n b = true) : (gi (farL n es bl b) a < 0 ∧ routeS n es bl a b = ([], 120)) ∨ (0 ≤ gi (farL n es bl b) a ∧ ∃ ks, routeS n es bl a b = (toI ks, 0) ∧ WayL es bl b a ks ∧ costL es ks = gi (farL n es bl b) a ∧ ks.length ≤ 39000 ∧ ks = routeF es bl b (gi (farL n es bl b)) a) := by
  obtain ⟨a0, a1⟩ := nodeB_iff.1 ha
  obtain ⟨b0, b1⟩ := nodeB_iff.1 hb
  rcases routeS_cases n es bl a b with ⟨h, _⟩ | ⟨_, h, h2⟩ | ⟨_, h, h2⟩
  · rw [rightB_true hr, ha, hb] at h; cases h
  · exact .inl ⟨h, h2⟩
  · have h3 := (farL_spec (bl := bl) hr b0 b1).2.1.route hr a0 a1 h
    exact .inr ⟨h, _, h2, h3.1, h3.2, routeF_len hr b0 b1 a0 a1, rfl⟩

set_option maxRecDepth 100000 in
set_option maxHeartbeats 16000000 in
theorem ltours_walk {w : World} (a : Int) (ha : i64B a) (rv : Value) (L : List Ed) (hL : EdgesAt w rv L) (hB : RawB L) (bv : Value) (bl : List Int) (hb : IntsAt w bv bl) (z : Ed) (hz : i64B z.1 ∧ i64B z.2.1 ∧ i64B z.2.2) :
    Calls Try.prog 7 #[.int .i64 a, rv, bv, .agg #[.int .i64 z.1, .int .i64 z.2.1, .int .i64 z.2.2]] w (Ret (.bool true) w) := by
  obtain ⟨z1, z2, z3⟩ := z
  obtain ⟨hz1, hz2, hz3⟩ := hz
  dsimp only at hz1 hz2 hz3 ⊢
  have CF := Lib.hid (fun w' (h : EdgesAt w' rv L) => fit_ex a ha rv L h hB)
  obtain ⟨Q, HQ⟩ : ∃ Q, Hid (Ret (.bool true) w = Q) := ⟨_, rfl⟩
  rw [HQ.out]
  have hbw0 : Below w.heap.size w (w.alloc (.cells #[.int .i64 z1, .int .i64 z2, .int .i64 z3] 27)) := (Below.refl _ w).alloc (Nat.le_refl _) _
  have HB0 := Lib.hid hbw0
  have HL0 := Lib.hid (hL.below hbw0 (Nat.le_refl _))
  have HI0 := Lib.hid (hb.below hbw0 (Nat.le_refl _))
  have hq := heap_alloc_new w (.cells #[.int .i64 z1, .int .i64 z2, .int .i64 z3] 27)
  have HZ0 : Hid ((w.alloc (.cells #[.int .i64 z1, .int .i64 z2, .int .i64 z3] 27)).cell? ⟨w.heap.size, 0, none⟩ = some (.int .i64 z1)) := cell_of_row _ _ 0 _ _ _ hq
  have HZ1 : Hid ((w.alloc (.cells #[.int .i64 z1, .int .i64 z2, .int .i64 z3] 27)).cell? ⟨w.heap.size, 1, none⟩ = some (.int .i64 z2)) := cell_of_row _ _ 1 _ _ _ hq
  have HZ2 : Hid ((w.alloc (.cells #[.int .i64 z1, .int .i64 z2, .int .i64 z3] 27)).cell? ⟨w.heap.size, 2, none⟩ = some (.int .i64 z3)) := cell_of_row _ _ 2 _ _ _ hq
  have hlw : w.heap.size < (w.alloc (.cells #[.int .i64 z1, .int .i64 z2, .int .i64 z3] 27)).heap.size := by simp
  clear hq hbw0
  go_enter Try.func7, Try.ntmps7
  go_upto_region 1 with fail
  generalize w.alloc (.cells #[.int .i64 z1, .int .i64 z2, .int .i64 z3] 27) = w0 at *
  go_upto_region 2 with (go_at_call 9; (with_reducible refine (awake12_any w0).mono ?_); rintro e w1 ⟨rfl, hb1⟩)
  have HB1 := Lib.hid (HB0.out.trans (hb1.mono HB0.out.size))
  have HL1 := Lib.hid (HL0.out.below hb1 (Nat.le_refl _))
  have HI1 := Lib.hid (HI0.out.below hb1 (Nat.le_refl _))
  have hlw1 := Nat.lt_of_lt_of_le hlw hb1.size
  have H01 := Lib.hid hb1
  clear hb1
  go_upto_region 3 with (go_at_call 10; (with_reducible refine (CF.out _ HL1.out).mono ?_); rintro e w2 ⟨n, v, es, rfl, n1, n8, hr, hel, he, hb2⟩; obtain ⟨eo, ec, rfl⟩ := slE he)
  have HK2 := Lib.hid (KX.start (w0 := w) (n := n) (HB1.out.trans (hb2.mono HB1.out.size)) he)
  have hb3 : Below w1.heap.size w1 (w2.alloc (.cells #[.int .i64 n, .slice eo es.length ec] 24)) := hb2.alloc hb2.size _
  have HI2 := Lib.hid (HI1.out.below hb3 (Nat.le_refl _))
  have hb4 : Below w0.heap.size w0 (w2.alloc (.cells #[.int .i64 n, .slice eo es.length ec] 24)) := H01.out.trans (hb3.mono H01.out.size)
  have q0 := (hb4.cell (p := ⟨w.heap.size, 0, none⟩) hlw).trans HZ0.out
  have q1 := (hb4.cell (p := ⟨w.heap.size, 1, none⟩) hlw).trans HZ1.out
  have q2 := (hb4.cell (p := ⟨w.heap.size, 2, none⟩) hlw).trans HZ2.out
  clear hb2 hb3 hb4 he hlw hlw1 HZ0 HZ1 HZ2 hL hb
  generalize w2.heap.size = xb at *
  generalize w2.alloc (.cells #[.int .i64 n, .slice eo es.length ec] 24) = w3 at *
  have c0 := HK2.out.box.c0
  have c1 := HK2.out.box.c1
  have P1 := Lib.hid (pick12_any z1 n w3 hz1.1 hz1.2 (by omega) (by omega))
  have P2 := Lib.hid (pick12_any z2 n w3 hz2.1 hz2.2 (by omega) (by omega))
  have P3 := Lib.hid (pick12_any z3 n w3 hz3.1 hz3.2 (by omega) (by omega))
  have na := pick_node (c := z1) (n := n) (by omega)
  have nb := pick_node (c := z2) (n := n) (by omega)
  have nc := pick_node (c := z3) (n := n) (by omega)
  generalize pickS z1 n = ra at *
  generalize pickS z2 n = rb at *
  generalize pickS z3 n = rc at *
  have R1 := route_in (bl := bl) hr na nb
  have R2 := route_in (bl := bl) hr nb nc
  have HTS : Hid (tourS n es bl ra rb rc = (if (routeS n es bl ra rb).2 = 0 then (if (routeS n es bl rb rc).2 = 0 then ((routeS n es bl ra rb).1 ++ (routeS n es bl rb rc).1, 0) else ([], (routeS n es bl rb rc).2)) else ([], (routeS n es bl ra rb).2))) := rfl
  have C1 := Lib.hid (fun w' (he : EdgesAt w' (.slice eo es.length ec) es) (hi : IntsAt w' bv bl) => route_read (n := n) _ bv he bl hi ra rb)
  have C2 := Lib.hid (fun w' (he : EdgesAt w' (.slice eo es.length ec) es) (hi : IntsAt w' bv bl) => route_any (n := n) _ bv he bl hi rb rc)
  have C3 := Lib.hid (fun w' (he : EdgesAt w' (.slice eo es.length ec) es) (hi : IntsAt w' bv bl) => tour_read (n := n) _ bv he bl hi ra rb rc)
  have HRR := Lib.hid hr
  clear hr na nb nc CF
  generalize routeS n es bl ra rb = r1 at *
  generalize routeS n es bl rb rc = r2 at *
  generalize tourS n es bl ra rb rc = r3 at *
  obtain ⟨l1, er1⟩ := r1
  obtain ⟨l2, er2⟩ := r2
  obtain ⟨l3, er3⟩ := r3
  dsimp only at HTS
  go_upto_region 6 with (first
    | (go_at_call 11; (with_reducible refine (P1.out).mono ?_); rintro e w4 ⟨rfl, rfl⟩)
    | (go_at_call 11; (with_reducible refine (P2.out).mono ?_); rintro e w4 ⟨rfl, rfl⟩)
    | (go_at_call 11; (with_reducible refine (P3.out).mono ?_); rintro e w4 ⟨rfl, rfl⟩))
  clear q0 q1 q2 P1 P2 P3
  go_upto_region 7 with (go_at_call 12; (with_reducible refine (C1.out _ HK2.out.ed HI2.out).mono ?_); rintro e w4 ⟨v4, rfl, hv4, hb⟩; have HK4 := Lib.hid (HK2.out.grow hb); have HI4 := Lib.hid (HI2.out.below hb (Nat.le_refl _)); have HV4 := Lib.hid hv4; have d0 := HK4.out.box.c0; have d1 := HK4.out.box.c1; clear hb hv4)
  clear c0 c1
  go_upto_region 8 with (go_at_call 12; (with_reducible refine (C2.out _ HK4.out.ed HI4.out).mono ?_); rintro e w5 ⟨v5, rfl, ho5, hb⟩; have HK5 := Lib.hid (HK4.out.grow hb); have HI5 := Lib.hid (HI4.out.below hb (Nat.le_refl _)); have HV45 := Lib.hid (HV4.out.below hb (Nat.le_refl _)); have HO5 := Lib.hid ho5; have e0 := HK5.out.box.c0; have e1 := HK5.out.box.c1; clear hb ho5)
  clear d0 d1
  go_upto_region 9 with (go_at_call 14; (with_reducible refine (C3.out _ HK5.out.ed HI5.out).mono ?_); rintro e w6 ⟨v6, rfl, hv6, hb⟩; have HK6 := Lib.hid (HK5.out.grow hb); have HI6 := Lib.hid (HI5.out.below hb (Nat.le_refl _)); have HV46 := Lib.hid (HV45.out.below hb (Nat.le_refl _)); have HV6 := Lib.hid hv6; have HO56 := Lib.hid (own_below HO5.out hb (Nat.le_refl _)); have hs6 := hb.size; have f0 := HK6.out.box.c0; have f1 := HK6.out.box.c1; clear hb hv6)
  clear e0 e1
  obtain ⟨s6, p6, rfl⟩ := slI HV6.out
  have fin : Ret (.bool true) w (.returned (.bool true)) w6 := ⟨rfl, HK6.out.below⟩
  have HFIN : Hid (Q (.returned (.bool true)) w6) := by show Q _ _; rw [← HQ.out]; exact fin
  clear fin
  rcases R1 with ⟨-, h1⟩ | ⟨-, k1, h1, hw1, -, hl1, -⟩
  · cases h1
    have h3 : (l3, er3) = ([], 120) := HTS.out
    cases h3
    clear R2 HTS
    go_wp2_with fail
    exact HFIN.out
  · cases h1
    rcases R2 with ⟨-, h2⟩ | ⟨-, k2, h2, hw2, -, hl2, -⟩
    · cases h2
      have h3 : (l3, er3) = ([], 120) := HTS.out
      cases h3
      clear HTS hw1
      go_wp2_with fail
      exact HFIN.out
    · cases h2
      have h3 : (l3, er3) = (toI k1 ++ toI k2, 0) := HTS.out
      cases h3
      rw [← toI_append] at *
      obtain ⟨i0, hi0, hz0', hz1', hz2'⟩ := info_parts int_info
      have hL1 : (toI k1).length = k1.length := toI_len k1
      have hL2 : (toI k2).length = k2.length := toI_len k2
      obtain ⟨s4, p4, rfl⟩ := slI HV46.out
      have hcells := Lib.hid (ints_cells HV46.out)
      have HWAY := Lib.hid (hw1.trans hw2)
      have HEQ : Hid (decide (toI (k1 ++ k2) = toI k1 ++ toI k2) = true) := by show _ = true; simp [toI_append]
      clear HTS hw1 hw2 HV46
      go_upto_region 11 with fail
      go_wp2_with (first
        | (at_builtin; (refine wpList_nil_append_w (by rfl) _ _ 26 rfl w6.heap.size 3 i0 _ 1 8 Try.underlying26 hi0 hz0' hz1' hz2' rfl (by omega) rfl s4 (toI k1).length p4 rfl (intC (toI k1)) (by simp [intC]) hcells.out intC_ones (by unfold maxLen; omega) (by omega) (Nat.le_refl _) ?_); intro v7 w7 ho7 hg7; have hb7 : Below w6.heap.size w6 w7 := ⟨hg7.os, hg7.tape, hg7.output, hg7.size, fun k hk => hg7.block k hk (by simp)⟩; have HK7 := Lib.hid (HK6.out.grow hb7); have HO7 := Lib.hid ho7; have HO57 := Lib.hid (own_below HO56.out hb7 (Nat.le_refl _)); have HI7 := Lib.hid (HI6.out.below hb7 (Nat.le_refl _)); have HV7 := Lib.hid (HV6.out.below hb7 (Nat.le_refl _)); have hs7 := hb7.size; have HB67 := Lib.hid hb7; clear ho7 hg7 hb7)
        | (at_builtin; (refine wpList_append_rows_w (by rfl) _ _ 26 rfl w6.heap.size w4.heap.size 3 i0 _ 1 8 Try.underlying26 hi0 hz0' hz1' hz2' rfl (by omega) v7 (toI k1).length (intC (toI k1)) rfl HO7.out v5 (toI k2).length (intC (toI k2)) rfl HO57.out intC_ones (by unfold maxLen; omega) (by omega) hs7 ?_); intro v8 w8 ho8 hg8; have hb8 : Below w6.heap.size w6 w8 := HB67.out.grown hg8 hs7 (fun k e => (HO7.out.lt k e).1); have HK8 := Lib.hid (HK6.out.grow hb8); have HO8 : Hid (IntsAt w8 v8 (toI k1 ++ toI k2)) := ints_own (base := w6.heap.size) (by rw [intC_append]; exact ho8) (by rw [List.length_append]) (by omega); have HI8 := Lib.hid (HI6.out.below hb8 (Nat.le_refl _)); have HV8 := Lib.hid (HV6.out.below hb8 (Nat.le_refl _)); clear ho8 hg8 hb8)
        | (go_at_call 16; (with_reducible refine (ints_any _ _ _ _ _ HV8.out HO8.out true HEQ.out).mono ?_); rintro e w9 ⟨rfl, hb⟩; have HK9 := Lib.hid (HK8.out.grow hb); have HI9 := Lib.hid (HI8.out.below hb (Nat.le_refl _)); have HV9 := Lib.hid (HV8.out.below hb (Nat.le_refl _)); have j0 := HK9.out.box.c0; have j1 := HK9.out.box.c1; clear hb)
        | (go_at_call 23; (with_reducible refine (way12_any _ bv _ HK9.out.ed bl HI9.out (k1 ++ k2) HV9.out HRR.out ra rc HWAY.out (by rw [List.length_append]; omega)).mono ?_); rintro e w10 ⟨rfl, hb⟩; have HK10 := Lib.hid (HK9.out.grow hb); clear hb))
      rw [← HQ.out]
      exact ⟨rfl, HK10.out.below⟩
theorem ltours_row (x0 : Int) (v1 : Value) (z1 : List Ed) (v2 : Value) (z2 : List Int) (v3 : Value) (z3 : Ed) (W : World) (b0 : -9223372036854775808 ≤ x0) (c0 : x0 ≤ 9223372036854775807) (h1 : EdgesAt W v1 z1 ∧ RawB z1) (h2 : IntsAt W v2 z2 ∧ z2.length * 8 ≤ 140737488351232) (h3 : ArrZ W v3 z3) :
    Calls Try.prog 7 #[.int .i64 x0, v1, v2, v3] W (Ret (.bool true) W) := by
  obtain ⟨rfl, h4⟩ := h3
  exact ltours_walk x0 ⟨b0, c0⟩ v1 z1 h1.1 h1.2 v2 z2 h2.1 z3 h4
end Go.Proofs.Ythmblgfcjbiomaa.Rt
