import Derived.Test.YtcbfjkigmlmohaaYv
/- The law LayoutTells. -/
set_option linter.unusedVariables false
set_option linter.unusedSimpArgs false
namespace Go.Proofs.Ytcbfjkigmlmohaa.Ly
open Go.RowKit

/-- Two layouts in a row. -/
def TwoAt (w : World) (b : Nat) : Prop := b < w.heap.size ∧ ∀ i, i < 2 → ∃ (n : Int) (ao : Option Addr) (cap : Nat) (es : List Ed), w.cell? ⟨b, i * 2, none⟩ = some (.int .i64 n) ∧ w.cell? ⟨b, i * 2 + 1, none⟩ = some (.slice ao es.length cap) ∧ EdgesAt w (.slice ao es.length cap) es
theorem TwoAt.below {w w' : World} {b : Nat} (h : TwoAt w b) (hb : Below w.heap.size w w') : TwoAt w' b :=
  ⟨Nat.lt_of_lt_of_le h.1 hb.size, fun i hi => by
    obtain ⟨n, ao, cap, es, h1, h2, h3⟩ := h.2 i hi
    exact ⟨n, ao, cap, es, (hb.cell h.1).trans h1, (hb.cell h.1).trans h2, h3.below hb (Nat.le_refl _)⟩⟩
theorem TwoAt.new {w : World} {n0 n1 : Int} {a0 a1 : Option Addr} {c0 c1 : Nat} {es0 es1 : List Ed} (h0 : EdgesAt w (.slice a0 es0.length c0) es0) (h1 : EdgesAt w (.slice a1 es1.length c1) es1) :
    TwoAt (w.alloc (.cells #[.int .i64 n0, .slice a0 es0.length c0, .int .i64 n1, .slice a1 es1.length c1] 24)) w.heap.size := by
  have hB : Below w.heap.size w (w.alloc (.cells #[.int .i64 n0, .slice a0 es0.length c0, .int .i64 n1, .slice a1 es1.length c1] 24)) := (Below.refl _ w).alloc (Nat.le_refl _) _
  refine ⟨by simp, fun i hi => ?_⟩
  have : i = 0 ∨ i = 1 := by omega
  rcases this with rfl | rfl
  · exact ⟨n0, a0, c0, es0, by rw [cell_of_row _ _ _ _ _ _ (heap_alloc_new w _)]; rfl, by rw [cell_of_row _ _ _ _ _ _ (heap_alloc_new w _)]; rfl, h0.below hB (Nat.le_refl _)⟩
  · exact ⟨n1, a1, c1, es1, by rw [cell_of_row _ _ _ _ _ _ (heap_alloc_new w _)]; rfl, by rw [cell_of_row _ _ _ _ _ _ (heap_alloc_new w _)]; rfl, h1.below hB (Nat.le_refl _)⟩
/-- Two numbers in a row. -/
def NumsAt (w : World) (b : Nat) : Prop := b < w.heap.size ∧ ∀ i, i < 2 → ∃ z : Int, w.cell? ⟨b, i, none⟩ = some (.int .i64 z)
theorem NumsAt.below {w w' : World} {b : Nat} (h : NumsAt w b) (hb : Below w.heap.size w w') : NumsAt w' b :=
  ⟨Nat.lt_of_lt_of_le h.1 hb.size, fun i hi => by
    obtain ⟨z, h1⟩ := h.2 i hi
    exact ⟨z, (hb.cell h.1).trans h1⟩⟩
theorem NumsAt.new {w : World} {x y : Int} : NumsAt (w.alloc (.cells #[.int .i64 x, .int .i64 y] 3)) w.heap.size := by
  refine ⟨by simp, fun i hi => ?_⟩
  have : i = 0 ∨ i = 1 := by omega
  rcases this with rfl | rfl
  · exact ⟨x, by rw [cell_of_row _ _ _ _ _ _ (heap_alloc_new w _)]; rfl⟩
  · exact ⟨y, by rw [cell_of_row _ _ _ _ _ _ (heap_alloc_new w _)]; rfl⟩
/-- What stays through the law. -/
structure QI (w wr : World) (bx bs : Nat) (n : Int) (v bv : Value) (es : List Ed) (bl : List Int) : Prop where
  kx : KX w wr bx n v es
  two : TwoAt wr bs
  ub : IntsAt wr bv bl
theorem QI.grow {w wr wr' : World} {bx bs : Nat} {n : Int} {v bv : Value} {es : List Ed} {bl : List Int} (h : QI w wr bx bs n v bv es bl) (hb : Below wr.heap.size wr wr') : QI w wr' bx bs n v bv es bl :=
  ⟨h.kx.grow hb, h.two.below hb, h.ub.below hb (Nat.le_refl _)⟩
set_option maxRecDepth 100000 in
set_option maxHeartbeats 16000000 in
theorem ltells_walk {w : World} (nA : Int) (vA : Value) (eA : List Ed) (hA : EdgesAt w vA eA) (a : Int) (ha : i64B a) (rv : Value) (L : List Ed) (hL : EdgesAt w rv L) (hB : RawB L) (bv : Value) (bl : List Int) (hbl : IntsAt w bv bl) (f g : Int) (hf : i64B f) :
    Calls Try.prog 3 #[.agg #[.int .i64 nA, vA], .int .i64 a, rv, bv, .int .i64 f, .int .i64 g] w (Ret (.bool true) w) := by
  have CF := Lib.hid (fun w' (h : EdgesAt w' rv L) => fit_ex a ha rv L h hB)
  have HFB := Lib.hid hf
  obtain ⟨ub, uc, rfl⟩ := hbl.form
  obtain ⟨ao, ac, rfl⟩ := hA.form
  have hB0 : Below w.heap.size w (w.alloc (.cells #[.int .i64 nA, .slice ao eA.length ac] 24)) := (Below.refl _ w).alloc (Nat.le_refl _) _
  have HL := Lib.hid (hL.below hB0 (Nat.le_refl _))
  have HU := Lib.hid (hbl.below hB0 (Nat.le_refl _))
  have HA0 := Lib.hid (KX.start (n := nA) (Below.refl _ w) hA)
  clear ha hL hB hbl hf hA hB0
  obtain ⟨Q, HQ⟩ : ∃ Q, Hid (Ret (.bool true) w = Q) := ⟨_, rfl⟩
  rw [HQ.out]
  go_enter Try.func3, Try.ntmps3
  go_upto_region 3 with (first
    | (go_at_call 10; (with_reducible refine (awake_any _).mono ?_); rintro e w1 ⟨rfl, hb⟩; have HA1 := Lib.hid (HA0.out.grow hb); have HL1 := Lib.hid (HL.out.below hb (Nat.le_refl _)); have HU1 := Lib.hid (HU.out.below hb (Nat.le_refl _)); clear hb)
    | (go_at_call 11; (with_reducible refine (CF.out _ HL1.out).mono ?_); rintro e w2 ⟨n, v, es, rfl, n1, n8, hr, h24, hed, hb⟩; obtain ⟨eo, ec, rfl⟩ := hed.form; have HR := Lib.hid hr; have HA2 := Lib.hid (HA1.out.grow hb); have HK2 := Lib.hid (KX.start (n := n) HA2.out.below hed); have HU2 := Lib.hid (HU1.out.below hb (Nat.le_refl _)); clear hr hed hb))
  have hBw : Below w2.heap.size w2 (w2.alloc (.cells #[.int .i64 n, .slice eo es.length ec] 24)) := (Below.refl _ w2).alloc (Nat.le_refl _) _
  have HA3 := Lib.hid (HA2.out.grow hBw)
  have HU3 := Lib.hid (HU2.out.below hBw (Nat.le_refl _))
  clear hBw
  generalize hW : w2.alloc (.cells #[.int .i64 n, .slice eo es.length ec] 24) = wB at *
  clear hW HA2 HU2
  generalize w2.heap.size = bx at *
  have a0 := HA3.out.box.c0
  have a1 := HA3.out.box.c1
  have c0 := HK2.out.box.c0
  have c1 := HK2.out.box.c1
  go_wp2_with fail
  clear a0 a1 c0 c1
  have hBw : Below wB.heap.size wB (wB.alloc (.cells #[.int .i64 nA, .slice ao eA.length ac, .int .i64 n, .slice eo es.length ec] 24)) := (Below.refl _ wB).alloc (Nat.le_refl _) _
  have HQ1 : Hid (QI w (wB.alloc (.cells #[.int .i64 nA, .slice ao eA.length ac, .int .i64 n, .slice eo es.length ec] 24)) bx wB.heap.size n (.slice eo es.length ec) (.slice ub bl.length uc) es bl) :=
    ⟨HK2.out.grow hBw, TwoAt.new HA3.out.ed HK2.out.ed, HU3.out.below hBw (Nat.le_refl _)⟩
  clear hBw
  generalize hW : wB.alloc (.cells #[.int .i64 nA, .slice ao eA.length ac, .int .i64 n, .slice eo es.length ec] 24) = wC at *
  clear hW
  generalize wB.heap.size = bs at *
  go_loopw [31] (fun i wr => ∃ k : Nat, k ≤ 2 ∧ i = .int .i64 k ∧ Hid (QI w wr bx bs n (.slice eo es.length ec) (.slice ub bl.length uc) es bl)) (fun i _ => 2 - (intOf i).toNat)
  case atStart => exact ⟨0, by omega, rfl, HQ1⟩
  case round =>
    obtain ⟨k, hk, rfl, HQr⟩ := hrel
    by_cases hlt : k < 2
    · obtain ⟨nx, xo, xc, ex, g0, g1, hex⟩ := HQr.out.two.2 k hlt
      have HEX := Lib.hid hex
      have c0 := HQr.out.kx.box.c0
      have hbx := HQr.out.kx.box.lt
      have hbs := HQr.out.two.1
      clear hex
      have dk : decide ((k : Int) < 2) = true := by simp; omega
      have CP := Lib.hid (fun w' => pick_any f n w' HFB.out.1 HFB.out.2 (by omega) (by omega))
      have hmx : max n 1 = n := by omega
      have HBx : Below wr.heap.size wr (wr.alloc (.cells #[.int .i64 nx, .slice xo ex.length xc] 24)) := (Below.refl _ wr).alloc (Nat.le_refl _) _
      have HQk := Lib.hid (HQr.out.grow HBx)
      have HXk := Lib.hid (BoxAt.new nx (.slice xo ex.length xc) wr)
      have HEk := Lib.hid (HEX.out.below HBx (Nat.le_refl _))
      clear HBx
      generalize pickS f n = pf at *
      go_upto_region 6 with fail
      clear dk g0 g1 c0 HQr HEX
      generalize wr.alloc (.cells #[.int .i64 nx, .slice xo ex.length xc] 24) = wk at *
      generalize wr.heap.size = b16 at *
      have c0 := HQk.out.kx.box.c0
      go_wp2_with (go_at_call 12; (with_reducible refine (CP.out _).mono ?_); rintro e w3 ⟨rfl, rfl⟩)
      clear c0
      have HBx : Below wk.heap.size wk (wk.alloc (.cells #[.int .i64 f, .int .i64 pf] 3)) := (Below.refl _ wk).alloc (Nat.le_refl _) _
      have HQl := Lib.hid (HQk.out.grow HBx)
      have HXl := Lib.hid (HXk.out.below HBx)
      have HEl := Lib.hid (HEk.out.below HBx (Nat.le_refl _))
      have HNl := Lib.hid (NumsAt.new (w := wk) (x := f) (y := pf))
      clear HBx
      generalize wk.alloc (.cells #[.int .i64 f, .int .i64 pf] 3) = wl at *
      generalize wk.heap.size = bi at *
      go_loopw [43] (fun i wr => ∃ j : Nat, j ≤ 2 ∧ i = .int .i64 j ∧ Hid (Below wl.heap.size wl wr)) (fun i _ => 2 - (intOf i).toNat)
      case atStart => exact ⟨0, by omega, rfl, Below.refl _ _⟩
      case round =>
        obtain ⟨j, hj, rfl, HBj⟩ := hrel
        have HQj := Lib.hid (HQl.out.grow HBj.out)
        have HXj := Lib.hid (HXl.out.below HBj.out)
        have HEj := Lib.hid (HEl.out.below HBj.out (Nat.le_refl _))
        by_cases hltj : j < 2
        · obtain ⟨zn, gz⟩ := (HNl.out.below HBj.out).2 j hltj
          have dj : decide ((j : Int) < 2) = true := by simp; omega
          have x0 := HXj.out.c0
          have x1 := HXj.out.c1
          obtain ⟨be, bp, hbt⟩ : ∃ x y, betL nx ex zn g = (x, y) := ⟨_, _, rfl⟩
          have CB := Lib.hid (fun w' (hu : EdgesAt w' (.slice xo ex.length xc) ex) => by have := between_any (n := nx) (es := ex) (w := w') _ hu zn g; rw [hbt] at this; exact this)
          have CB2 := Lib.hid (fun w' (hu : EdgesAt w' (.slice xo ex.length xc) ex) => by have := rbetween_any (n := nx) (es := ex) (w := w') _ hu zn g; rw [hbt] at this; exact this)
          clear hbt
          go_upto_region 11 with (first
            | (go_at_call 13; (with_reducible refine (CB.out _ HEj.out).mono ?_); rintro e w4 ⟨rfl, hb⟩; have HQ4 := Lib.hid (HQj.out.grow hb); have HX4 := Lib.hid (HXj.out.below hb); have HE4 := Lib.hid (HEj.out.below hb (Nat.le_refl _)); have HB4 := Lib.hid (HBj.out.trans (hb.mono HBj.out.size)); have y0 := HX4.out.c0; have y1 := HX4.out.c1; clear hb)
            | (go_at_call 14; (with_reducible refine (CB2.out _ HE4.out).mono ?_); rintro e w5 ⟨rfl, hb⟩; have HQ5 := Lib.hid (HQ4.out.grow hb); have HX5 := Lib.hid (HX4.out.below hb); have HE5 := Lib.hid (HE4.out.below hb (Nat.le_refl _)); have HB5 := Lib.hid (HB4.out.trans (hb.mono HB4.out.size)); clear hb))
          clear x0 x1 y0 y1 gz CB CB2
          rename_i K2 A2
          have CO1 := Lib.hid (fun w' (hu : EdgesAt w' (.slice xo ex.length xc) ex) => out_any (n := nx) (es := ex) (w := w') _ hu zn)
          have CO2 := Lib.hid (fun w' (hu : EdgesAt w' (.slice xo ex.length xc) ex) => rout_any (n := nx) (es := ex) (w := w') _ hu zn)
          have CR1 := Lib.hid (fun w' (hu : EdgesAt w' (.slice xo ex.length xc) ex) (hb : IntsAt w' (.slice ub bl.length uc) bl) => reach_any (n := nx) (es := ex) (w := w') _ _ hu bl hb zn)
          have CR2 := Lib.hid (fun w' (hu : EdgesAt w' (.slice xo ex.length xc) ex) (hb : IntsAt w' (.slice ub bl.length uc) bl) => rreach_any (n := nx) (es := ex) (w := w') _ _ hu bl hb zn)
          generalize outL nx ex zn = RO at *
          generalize reachL nx ex bl zn = RR at *
          have CI1 := Lib.hid (fun w' va vb (ha : IntsAt w' va RO) (hb : IntsAt w' vb RO) => ints_any RO RO va vb w' ha hb true (by simp))
          have CI2 := Lib.hid (fun w' va vb (ha : IntsAt w' va RR) (hb : IntsAt w' vb RR) => ints_any RR RR va vb w' ha hb true (by simp))
          clear CF CP
          refine wp_region_grow_all mixed (fun zs => { tmps := List.toArray (Value.agg #[Value.int .i64 nA, Value.slice ao eA.length ac] :: Value.int .i64 a :: rv :: Value.slice ub bl.length uc :: Value.int .i64 f :: Value.int .i64 g :: Value.pointer (some ⟨w.heap.size, 0, none⟩) :: undef :: undef :: undef :: undef :: undef :: u12 :: Value.bool true :: Value.pointer (some ⟨bx, 0, none⟩) :: undef :: Value.pointer (some ⟨b16, 0, none⟩) :: undef :: Value.int .i64 zn :: Value.int .i64 be :: Value.bool bp :: Value.int .i64 be :: Value.bool bp :: Value.bool true :: Value.int .i64 a :: rv :: Value.agg #[Value.int .i64 n, Value.slice eo es.length ec] :: Value.agg #[Value.int .i64 nA, Value.slice ao eA.length ac] :: Value.agg #[Value.int .i64 n, Value.slice eo es.length ec] :: Value.slice (some ⟨bs, 0, none⟩) 2 2 :: Value.int .i64 2 :: Value.int .i64 (k : Nat) :: Value.bool true :: Value.pointer (some ⟨bs, k * 2, none⟩) :: Value.agg #[Value.int .i64 nx, Value.slice xo ex.length xc] :: Value.int .i64 f :: Value.int .i64 f :: Value.pointer (some ⟨bx, 0, none⟩) :: Value.int .i64 n :: Value.int .i64 n :: Value.int .i64 pf :: Value.slice (some ⟨bi, 0, none⟩) 2 2 :: Value.int .i64 2 :: Value.int .i64 (j : Nat) :: Value.bool true :: Value.pointer (some ⟨bi, j, none⟩) :: Value.int .i64 zn :: Value.tuple #[Value.int .i64 be, Value.bool bp] :: Value.agg #[Value.int .i64 nx, Value.slice xo ex.length xc] :: Value.int .i64 zn :: Value.int .i64 g :: Value.tuple #[Value.int .i64 be, Value.bool bp] :: Value.int .i64 be :: Value.bool bp :: Value.tuple #[Value.int .i64 be, Value.bool bp] :: Value.agg #[Value.int .i64 nx, Value.slice xo ex.length xc] :: Value.int .i64 zn :: Value.int .i64 g :: Value.tuple #[Value.int .i64 be, Value.bool bp] :: Value.int .i64 be :: Value.bool bp :: zs.getD 0 undef :: zs.getD 1 undef :: zs.getD 2 undef :: zs.getD 3 undef :: zs.getD 4 undef :: zs.getD 5 undef :: zs.getD 6 undef :: zs.getD 7 undef :: zs.getD 8 undef :: zs.getD 9 undef :: zs.getD 10 undef :: zs.getD 11 undef :: zs.getD 12 undef :: zs.getD 13 undef :: zs.getD 14 undef :: zs.getD 15 undef :: zs.getD 16 undef :: zs.getD 17 undef :: zs.getD 18 undef :: zs.getD 19 undef :: zs.getD 20 undef :: zs.getD 21 undef :: zs.getD 22 undef :: zs.getD 23 undef :: zs.getD 24 undef :: zs.getD 25 undef :: zs.getD 26 undef :: zs.getD 27 undef :: zs.getD 28 undef :: zs.getD 29 undef :: u91 :: u92 :: u93 :: u94 :: u95 :: u96 :: u97 :: u98 :: u99 :: u100 :: u101 :: u102 :: u103 :: u104 :: undef :: undef :: undef :: undef :: undef :: []), defers := [] }) [(fun z _ => z = Value.int .i64 be), (fun z _ => z = Value.int .i64 be), (fun z _ => z = Value.bool false), (fun z _ => z = Value.bool false), (fun z _ => z = Value.bool bp), (fun z _ => z = Value.bool bp), (fun z _ => z = Value.bool false), (fun z _ => z = Value.bool false), (fun z _ => z = Value.bool false), (fun z _ => z = Value.agg #[Value.int .i64 nx, Value.slice xo ex.length xc]), (fun z _ => z = Value.int .i64 zn), (IntsV RO), (fun z _ => z = Value.agg #[Value.int .i64 nx, Value.slice xo ex.length xc]), (fun z _ => z = Value.int .i64 zn), (IntsV RO), (fun z _ => z = Value.bool true), (fun z _ => z = Value.bool false), (fun z _ => z = Value.bool false), (fun z _ => z = Value.bool false), (fun z _ => z = Value.agg #[Value.int .i64 nx, Value.slice xo ex.length xc]), (fun z _ => z = Value.slice ub bl.length uc), (fun z _ => z = Value.int .i64 zn), (IntsV RR), (fun z _ => z = Value.agg #[Value.int .i64 nx, Value.slice xo ex.length xc]), (fun z _ => z = Value.slice ub bl.length uc), (fun z _ => z = Value.int .i64 zn), (IntsV RR), (fun z _ => z = Value.bool true), (fun z _ => z = Value.bool false), (fun z _ => z = Value.bool false)] [u61, u62, u63, u64, u65, u66, u67, u68, u69, u70, u71, u72, u73, u74, u75, u76, u77, u78, u79, u80, u81, u82, u83, u84, u85, u86, u87, u88, u89, u90] rfl rfl rfl ?_ (by kernel_rfl) ?_ ?_
          · intro p hp
            simp only [List.mem_cons, List.not_mem_nil, or_false] at hp
            rcases hp with rfl | rfl | rfl | rfl | rfl | rfl | rfl | rfl | rfl | rfl | rfl | rfl | rfl | rfl | rfl | rfl | rfl | rfl | rfl | rfl | rfl | rfl | rfl | rfl | rfl | rfl | rfl | rfl | rfl | rfl
            all_goals first | exact stable_eq _ | exact IntsV.stable _
          · intro i hi zs l wz o hz hF ho hpre
            have hi' : i < 30 := hi
            clear A2
            have HQz := Lib.hid (HQ5.out.grow hF.bel)
            have HXz := Lib.hid (HX5.out.below hF.bel)
            have HEz := Lib.hid (HE5.out.below hF.bel (Nat.le_refl _))
            have x0 := HXz.out.c0
            have x1 := HXz.out.c1
            match zs, (show zs.length = 30 from hz) with
            | z0 :: z1 :: z2 :: z3 :: z4 :: z5 :: z6 :: z7 :: z8 :: z9 :: z10 :: z11 :: z12 :: z13 :: z14 :: z15 :: z16 :: z17 :: z18 :: z19 :: z20 :: z21 :: z22 :: z23 :: z24 :: z25 :: z26 :: z27 :: z28 :: z29 :: [], _ =>
              clear hz hi
              change wpOp _ _ _ _ _ { tmps := List.toArray (Value.agg #[Value.int .i64 nA, Value.slice ao eA.length ac] :: Value.int .i64 a :: rv :: Value.slice ub bl.length uc :: Value.int .i64 f :: Value.int .i64 g :: Value.pointer (some ⟨w.heap.size, 0, none⟩) :: undef :: undef :: undef :: undef :: undef :: u12 :: Value.bool true :: Value.pointer (some ⟨bx, 0, none⟩) :: undef :: Value.pointer (some ⟨b16, 0, none⟩) :: undef :: Value.int .i64 zn :: Value.int .i64 be :: Value.bool bp :: Value.int .i64 be :: Value.bool bp :: Value.bool true :: Value.int .i64 a :: rv :: Value.agg #[Value.int .i64 n, Value.slice eo es.length ec] :: Value.agg #[Value.int .i64 nA, Value.slice ao eA.length ac] :: Value.agg #[Value.int .i64 n, Value.slice eo es.length ec] :: Value.slice (some ⟨bs, 0, none⟩) 2 2 :: Value.int .i64 2 :: Value.int .i64 (k : Nat) :: Value.bool true :: Value.pointer (some ⟨bs, k * 2, none⟩) :: Value.agg #[Value.int .i64 nx, Value.slice xo ex.length xc] :: Value.int .i64 f :: Value.int .i64 f :: Value.pointer (some ⟨bx, 0, none⟩) :: Value.int .i64 n :: Value.int .i64 n :: Value.int .i64 pf :: Value.slice (some ⟨bi, 0, none⟩) 2 2 :: Value.int .i64 2 :: Value.int .i64 (j : Nat) :: Value.bool true :: Value.pointer (some ⟨bi, j, none⟩) :: Value.int .i64 zn :: Value.tuple #[Value.int .i64 be, Value.bool bp] :: Value.agg #[Value.int .i64 nx, Value.slice xo ex.length xc] :: Value.int .i64 zn :: Value.int .i64 g :: Value.tuple #[Value.int .i64 be, Value.bool bp] :: Value.int .i64 be :: Value.bool bp :: Value.tuple #[Value.int .i64 be, Value.bool bp] :: Value.agg #[Value.int .i64 nx, Value.slice xo ex.length xc] :: Value.int .i64 zn :: Value.int .i64 g :: Value.tuple #[Value.int .i64 be, Value.bool bp] :: Value.int .i64 be :: Value.bool bp :: z0 :: z1 :: z2 :: z3 :: z4 :: z5 :: z6 :: z7 :: z8 :: z9 :: z10 :: z11 :: z12 :: z13 :: z14 :: z15 :: z16 :: z17 :: z18 :: z19 :: z20 :: z21 :: z22 :: z23 :: z24 :: z25 :: z26 :: z27 :: z28 :: z29 :: u91 :: u92 :: u93 :: u94 :: u95 :: u96 :: u97 :: u98 :: u99 :: u100 :: u101 :: u102 :: u103 :: u104 :: undef :: undef :: undef :: undef :: undef :: []), defers := [] } _
              have hc : i = 0 ∨ i = 1 ∨ i = 2 ∨ i = 3 ∨ i = 4 ∨ i = 5 ∨ i = 6 ∨ i = 7 ∨ i = 8 ∨ i = 9 ∨ i = 10 ∨ i = 11 ∨ i = 12 ∨ i = 13 ∨ i = 14 ∨ i = 15 ∨ i = 16 ∨ i = 17 ∨ i = 18 ∨ i = 19 ∨ i = 20 ∨ i = 21 ∨ i = 22 ∨ i = 23 ∨ i = 24 ∨ i = 25 ∨ i = 26 ∨ i = 27 ∨ i = 28 ∨ i = 29 := by omega
              clear hi'
              rcases hc with rfl | rfl | rfl | rfl | rfl | rfl | rfl | rfl | rfl | rfl | rfl | rfl | rfl | rfl | rfl | rfl | rfl | rfl | rfl | rfl | rfl | rfl | rfl | rfl | rfl | rfl | rfl | rfl | rfl | rfl
              · clear ho hpre
                refine wpOp_here rfl (fun K' hK => ?_)
                go_simp
                exact hK _ _ ⟨_, rfl, Below.refl _ _, fun p hp => by cases (show some (fun z _ => z = Value.int .i64 be) = some p from hp); exact rfl⟩
              · clear ho hpre
                refine wpOp_here rfl (fun K' hK => ?_)
                go_simp
                exact hK _ _ ⟨_, rfl, Below.refl _ _, fun p hp => by cases (show some (fun z _ => z = Value.int .i64 be) = some p from hp); exact rfl⟩
              · have p0 := hF.fact 0 _ _ rfl rfl (hpre ⟨0, .data⟩ (by cases ho; simp) rfl)
                subst p0
                have p1 := hF.fact 1 _ _ rfl rfl (hpre ⟨1, .data⟩ (by cases ho; simp) rfl)
                subst p1
                clear ho hpre
                refine wpOp_here rfl (fun K' hK => ?_)
                go_simp
                exact hK _ _ ⟨_, rfl, Below.refl _ _, fun p hp => by cases (show some (fun z _ => z = Value.bool false) = some p from hp); exact rfl⟩
              · have p2 := hF.fact 2 _ _ rfl rfl (hpre ⟨2, .data⟩ (by cases ho; simp) rfl)
                subst p2
                clear ho hpre
                refine wpOp_here rfl (fun K' hK => ?_)
                go_simp
                exact hK _ _ ⟨_, rfl, Below.refl _ _, fun p hp => by cases (show some (fun z _ => z = Value.bool false) = some p from hp); exact rfl⟩
              · have p3 := hF.fact 3 _ _ rfl rfl (hpre ⟨3, .guard⟩ (by cases ho; simp) rfl)
                subst p3
                clear ho hpre
                refine wpOp_here rfl (fun K' hK => ?_)
                go_simp
                exact hK _ _ ⟨_, rfl, Below.refl _ _, fun p hp => by cases (show some (fun z _ => z = Value.bool bp) = some p from hp); exact rfl⟩
              · have p3 := hF.fact 3 _ _ rfl rfl (hpre ⟨3, .guard⟩ (by cases ho; simp) rfl)
                subst p3
                clear ho hpre
                refine wpOp_here rfl (fun K' hK => ?_)
                go_simp
                exact hK _ _ ⟨_, rfl, Below.refl _ _, fun p hp => by cases (show some (fun z _ => z = Value.bool bp) = some p from hp); exact rfl⟩
              · have p4 := hF.fact 4 _ _ rfl rfl (hpre ⟨4, .data⟩ (by cases ho; simp) rfl)
                subst p4
                have p5 := hF.fact 5 _ _ rfl rfl (hpre ⟨5, .data⟩ (by cases ho; simp) rfl)
                subst p5
                have p3 := hF.fact 3 _ _ rfl rfl (hpre ⟨3, .guard⟩ (by cases ho; simp) rfl)
                subst p3
                clear ho hpre
                refine wpOp_here rfl (fun K' hK => ?_)
                go_simp
                exact hK _ _ ⟨_, rfl, Below.refl _ _, fun p hp => by cases (show some (fun z _ => z = Value.bool false) = some p from hp); exact rfl⟩
              · have p3 := hF.fact 3 _ _ rfl rfl (hpre ⟨3, .data⟩ (by cases ho; simp) rfl)
                subst p3
                have p6 := hF.fact 6 _ _ rfl rfl (hpre ⟨6, .data⟩ (by cases ho; simp) rfl)
                subst p6
                clear ho hpre
                refine wpOp_here rfl (fun K' hK => ?_)
                go_simp
                exact hK _ _ ⟨_, rfl, Below.refl _ _, fun p hp => by cases (show some (fun z _ => z = Value.bool false) = some p from hp); exact rfl⟩
              · have p7 := hF.fact 7 _ _ rfl rfl (hpre ⟨7, .data⟩ (by cases ho; simp) rfl)
                subst p7
                clear ho hpre
                refine wpOp_here rfl (fun K' hK => ?_)
                go_simp
                exact hK _ _ ⟨_, rfl, Below.refl _ _, fun p hp => by cases (show some (fun z _ => z = Value.bool false) = some p from hp); exact rfl⟩
              · have p8 := hF.fact 8 _ _ rfl rfl (hpre ⟨8, .guard⟩ (by cases ho; simp) rfl)
                subst p8
                clear ho hpre
                refine wpOp_here rfl (fun K' hK => ?_)
                go_simp
                exact hK _ _ ⟨_, rfl, Below.refl _ _, fun p hp => by cases (show some (fun z _ => z = Value.agg #[Value.int .i64 nx, Value.slice xo ex.length xc]) = some p from hp); exact rfl⟩
              · have p8 := hF.fact 8 _ _ rfl rfl (hpre ⟨8, .guard⟩ (by cases ho; simp) rfl)
                subst p8
                clear ho hpre
                refine wpOp_here rfl (fun K' hK => ?_)
                go_simp
                exact hK _ _ ⟨_, rfl, Below.refl _ _, fun p hp => by cases (show some (fun z _ => z = Value.int .i64 zn) = some p from hp); exact rfl⟩
              · have p9 := hF.fact 9 _ _ rfl rfl (hpre ⟨9, .data⟩ (by cases ho; simp) rfl)
                subst p9
                have p10 := hF.fact 10 _ _ rfl rfl (hpre ⟨10, .data⟩ (by cases ho; simp) rfl)
                subst p10
                have p8 := hF.fact 8 _ _ rfl rfl (hpre ⟨8, .guard⟩ (by cases ho; simp) rfl)
                subst p8
                clear ho hpre
                refine wpOp_here rfl (fun K' hK => ?_)
                go_simp
                refine (CO1.out _ HEz.out).mono ?_
                rintro e6 w6' ⟨v6, rfl, hv6, hb6⟩
                exact hK _ _ ⟨_, rfl, hb6, fun p hp => by cases (show some (IntsV RO) = some p from hp); exact hv6⟩
              · have p8 := hF.fact 8 _ _ rfl rfl (hpre ⟨8, .guard⟩ (by cases ho; simp) rfl)
                subst p8
                clear ho hpre
                refine wpOp_here rfl (fun K' hK => ?_)
                go_simp
                exact hK _ _ ⟨_, rfl, Below.refl _ _, fun p hp => by cases (show some (fun z _ => z = Value.agg #[Value.int .i64 nx, Value.slice xo ex.length xc]) = some p from hp); exact rfl⟩
              · have p8 := hF.fact 8 _ _ rfl rfl (hpre ⟨8, .guard⟩ (by cases ho; simp) rfl)
                subst p8
                clear ho hpre
                refine wpOp_here rfl (fun K' hK => ?_)
                go_simp
                exact hK _ _ ⟨_, rfl, Below.refl _ _, fun p hp => by cases (show some (fun z _ => z = Value.int .i64 zn) = some p from hp); exact rfl⟩
              · have p12 := hF.fact 12 _ _ rfl rfl (hpre ⟨12, .data⟩ (by cases ho; simp) rfl)
                subst p12
                have p13 := hF.fact 13 _ _ rfl rfl (hpre ⟨13, .data⟩ (by cases ho; simp) rfl)
                subst p13
                have p8 := hF.fact 8 _ _ rfl rfl (hpre ⟨8, .guard⟩ (by cases ho; simp) rfl)
                subst p8
                clear ho hpre
                refine wpOp_here rfl (fun K' hK => ?_)
                go_simp
                refine (CO2.out _ HEz.out).mono ?_
                rintro e6 w6' ⟨v6, rfl, hv6, hb6⟩
                exact hK _ _ ⟨_, rfl, hb6, fun p hp => by cases (show some (IntsV RO) = some p from hp); exact hv6⟩
              · have p11 := hF.fact 11 _ _ rfl rfl (hpre ⟨11, .data⟩ (by cases ho; simp) rfl)
                have p14 := hF.fact 14 _ _ rfl rfl (hpre ⟨14, .data⟩ (by cases ho; simp) rfl)
                have p8 := hF.fact 8 _ _ rfl rfl (hpre ⟨8, .guard⟩ (by cases ho; simp) rfl)
                subst p8
                clear ho hpre
                refine wpOp_here rfl (fun K' hK => ?_)
                go_simp
                refine (CI1.out _ _ _ p11 p14).mono ?_
                rintro e6 w6' ⟨rfl, hb6⟩
                exact hK _ _ ⟨_, rfl, hb6, fun p hp => by cases (show some (fun z _ => z = Value.bool true) = some p from hp); exact rfl⟩
              · have p15 := hF.fact 15 _ _ rfl rfl (hpre ⟨15, .data⟩ (by cases ho; simp) rfl)
                subst p15
                have p8 := hF.fact 8 _ _ rfl rfl (hpre ⟨8, .guard⟩ (by cases ho; simp) rfl)
                subst p8
                clear ho hpre
                refine wpOp_here rfl (fun K' hK => ?_)
                go_simp
                exact hK _ _ ⟨_, rfl, Below.refl _ _, fun p hp => by cases (show some (fun z _ => z = Value.bool false) = some p from hp); exact rfl⟩
              · have p8 := hF.fact 8 _ _ rfl rfl (hpre ⟨8, .data⟩ (by cases ho; simp) rfl)
                subst p8
                have p16 := hF.fact 16 _ _ rfl rfl (hpre ⟨16, .data⟩ (by cases ho; simp) rfl)
                subst p16
                clear ho hpre
                refine wpOp_here rfl (fun K' hK => ?_)
                go_simp
                exact hK _ _ ⟨_, rfl, Below.refl _ _, fun p hp => by cases (show some (fun z _ => z = Value.bool false) = some p from hp); exact rfl⟩
              · have p17 := hF.fact 17 _ _ rfl rfl (hpre ⟨17, .data⟩ (by cases ho; simp) rfl)
                subst p17
                clear ho hpre
                refine wpOp_here rfl (fun K' hK => ?_)
                go_simp
                exact hK _ _ ⟨_, rfl, Below.refl _ _, fun p hp => by cases (show some (fun z _ => z = Value.bool false) = some p from hp); exact rfl⟩
              · have p18 := hF.fact 18 _ _ rfl rfl (hpre ⟨18, .guard⟩ (by cases ho; simp) rfl)
                subst p18
                clear ho hpre
                refine wpOp_here rfl (fun K' hK => ?_)
                go_simp
                exact hK _ _ ⟨_, rfl, Below.refl _ _, fun p hp => by cases (show some (fun z _ => z = Value.agg #[Value.int .i64 nx, Value.slice xo ex.length xc]) = some p from hp); exact rfl⟩
              · have p18 := hF.fact 18 _ _ rfl rfl (hpre ⟨18, .guard⟩ (by cases ho; simp) rfl)
                subst p18
                clear ho hpre
                refine wpOp_here rfl (fun K' hK => ?_)
                go_simp
                exact hK _ _ ⟨_, rfl, Below.refl _ _, fun p hp => by cases (show some (fun z _ => z = Value.slice ub bl.length uc) = some p from hp); exact rfl⟩
              · have p18 := hF.fact 18 _ _ rfl rfl (hpre ⟨18, .guard⟩ (by cases ho; simp) rfl)
                subst p18
                clear ho hpre
                refine wpOp_here rfl (fun K' hK => ?_)
                go_simp
                exact hK _ _ ⟨_, rfl, Below.refl _ _, fun p hp => by cases (show some (fun z _ => z = Value.int .i64 zn) = some p from hp); exact rfl⟩
              · have p19 := hF.fact 19 _ _ rfl rfl (hpre ⟨19, .data⟩ (by cases ho; simp) rfl)
                subst p19
                have p20 := hF.fact 20 _ _ rfl rfl (hpre ⟨20, .data⟩ (by cases ho; simp) rfl)
                subst p20
                have p21 := hF.fact 21 _ _ rfl rfl (hpre ⟨21, .data⟩ (by cases ho; simp) rfl)
                subst p21
                have p18 := hF.fact 18 _ _ rfl rfl (hpre ⟨18, .guard⟩ (by cases ho; simp) rfl)
                subst p18
                clear ho hpre
                refine wpOp_here rfl (fun K' hK => ?_)
                go_simp
                refine (CR1.out _ HEz.out HQz.out.ub).mono ?_
                rintro e6 w6' ⟨v6, rfl, hv6, hb6⟩
                exact hK _ _ ⟨_, rfl, hb6, fun p hp => by cases (show some (IntsV RR) = some p from hp); exact hv6⟩
              · have p18 := hF.fact 18 _ _ rfl rfl (hpre ⟨18, .guard⟩ (by cases ho; simp) rfl)
                subst p18
                clear ho hpre
                refine wpOp_here rfl (fun K' hK => ?_)
                go_simp
                exact hK _ _ ⟨_, rfl, Below.refl _ _, fun p hp => by cases (show some (fun z _ => z = Value.agg #[Value.int .i64 nx, Value.slice xo ex.length xc]) = some p from hp); exact rfl⟩
              · have p18 := hF.fact 18 _ _ rfl rfl (hpre ⟨18, .guard⟩ (by cases ho; simp) rfl)
                subst p18
                clear ho hpre
                refine wpOp_here rfl (fun K' hK => ?_)
                go_simp
                exact hK _ _ ⟨_, rfl, Below.refl _ _, fun p hp => by cases (show some (fun z _ => z = Value.slice ub bl.length uc) = some p from hp); exact rfl⟩
              · have p18 := hF.fact 18 _ _ rfl rfl (hpre ⟨18, .guard⟩ (by cases ho; simp) rfl)
                subst p18
                clear ho hpre
                refine wpOp_here rfl (fun K' hK => ?_)
                go_simp
                exact hK _ _ ⟨_, rfl, Below.refl _ _, fun p hp => by cases (show some (fun z _ => z = Value.int .i64 zn) = some p from hp); exact rfl⟩
              · have p23 := hF.fact 23 _ _ rfl rfl (hpre ⟨23, .data⟩ (by cases ho; simp) rfl)
                subst p23
                have p24 := hF.fact 24 _ _ rfl rfl (hpre ⟨24, .data⟩ (by cases ho; simp) rfl)
                subst p24
                have p25 := hF.fact 25 _ _ rfl rfl (hpre ⟨25, .data⟩ (by cases ho; simp) rfl)
                subst p25
                have p18 := hF.fact 18 _ _ rfl rfl (hpre ⟨18, .guard⟩ (by cases ho; simp) rfl)
                subst p18
                clear ho hpre
                refine wpOp_here rfl (fun K' hK => ?_)
                go_simp
                refine (CR2.out _ HEz.out HQz.out.ub).mono ?_
                rintro e6 w6' ⟨v6, rfl, hv6, hb6⟩
                exact hK _ _ ⟨_, rfl, hb6, fun p hp => by cases (show some (IntsV RR) = some p from hp); exact hv6⟩
              · have p22 := hF.fact 22 _ _ rfl rfl (hpre ⟨22, .data⟩ (by cases ho; simp) rfl)
                have p26 := hF.fact 26 _ _ rfl rfl (hpre ⟨26, .data⟩ (by cases ho; simp) rfl)
                have p18 := hF.fact 18 _ _ rfl rfl (hpre ⟨18, .guard⟩ (by cases ho; simp) rfl)
                subst p18
                clear ho hpre
                refine wpOp_here rfl (fun K' hK => ?_)
                go_simp
                refine (CI2.out _ _ _ p22 p26).mono ?_
                rintro e6 w6' ⟨rfl, hb6⟩
                exact hK _ _ ⟨_, rfl, hb6, fun p hp => by cases (show some (fun z _ => z = Value.bool true) = some p from hp); exact rfl⟩
              · have p27 := hF.fact 27 _ _ rfl rfl (hpre ⟨27, .data⟩ (by cases ho; simp) rfl)
                subst p27
                have p18 := hF.fact 18 _ _ rfl rfl (hpre ⟨18, .guard⟩ (by cases ho; simp) rfl)
                subst p18
                clear ho hpre
                refine wpOp_here rfl (fun K' hK => ?_)
                go_simp
                exact hK _ _ ⟨_, rfl, Below.refl _ _, fun p hp => by cases (show some (fun z _ => z = Value.bool false) = some p from hp); exact rfl⟩
              · have p18 := hF.fact 18 _ _ rfl rfl (hpre ⟨18, .data⟩ (by cases ho; simp) rfl)
                subst p18
                have p28 := hF.fact 28 _ _ rfl rfl (hpre ⟨28, .data⟩ (by cases ho; simp) rfl)
                subst p28
                clear ho hpre
                refine wpOp_here rfl (fun K' hK => ?_)
                go_simp
                exact hK _ _ ⟨_, rfl, Below.refl _ _, fun p hp => by cases (show some (fun z _ => z = Value.bool false) = some p from hp); exact rfl⟩
          · intro zs wz hz hbel hev
            match zs, (show zs.length = 30 from hz) with
            | z0 :: z1 :: z2 :: z3 :: z4 :: z5 :: z6 :: z7 :: z8 :: z9 :: z10 :: z11 :: z12 :: z13 :: z14 :: z15 :: z16 :: z17 :: z18 :: z19 :: z20 :: z21 :: z22 :: z23 :: z24 :: z25 :: z26 :: z27 :: z28 :: z29 :: [], _ =>
              have p0 := hev 0 _ _ rfl rfl
              have p1 := hev 1 _ _ rfl rfl
              have p2 := hev 2 _ _ rfl rfl
              have p3 := hev 3 _ _ rfl rfl
              have p4 := hev 4 _ _ rfl rfl
              have p5 := hev 5 _ _ rfl rfl
              have p6 := hev 6 _ _ rfl rfl
              have p7 := hev 7 _ _ rfl rfl
              have p8 := hev 8 _ _ rfl rfl
              have p9 := hev 9 _ _ rfl rfl
              have p10 := hev 10 _ _ rfl rfl
              have p11 := hev 11 _ _ rfl rfl
              have p12 := hev 12 _ _ rfl rfl
              have p13 := hev 13 _ _ rfl rfl
              have p14 := hev 14 _ _ rfl rfl
              have p15 := hev 15 _ _ rfl rfl
              have p16 := hev 16 _ _ rfl rfl
              have p17 := hev 17 _ _ rfl rfl
              have p18 := hev 18 _ _ rfl rfl
              have p19 := hev 19 _ _ rfl rfl
              have p20 := hev 20 _ _ rfl rfl
              have p21 := hev 21 _ _ rfl rfl
              have p22 := hev 22 _ _ rfl rfl
              have p23 := hev 23 _ _ rfl rfl
              have p24 := hev 24 _ _ rfl rfl
              have p25 := hev 25 _ _ rfl rfl
              have p26 := hev 26 _ _ rfl rfl
              have p27 := hev 27 _ _ rfl rfl
              have p28 := hev 28 _ _ rfl rfl
              have p29 := hev 29 _ _ rfl rfl
              subst p0 p1 p2 p3 p4 p5 p6 p7 p8 p9 p10 p12 p13 p15 p16 p17 p18 p19 p20 p21 p23 p24 p25 p27 p28 p29
              clear hz hev
              change Exit.then _ _ .normal { tmps := List.toArray (Value.agg #[Value.int .i64 nA, Value.slice ao eA.length ac] :: Value.int .i64 a :: rv :: Value.slice ub bl.length uc :: Value.int .i64 f :: Value.int .i64 g :: Value.pointer (some ⟨w.heap.size, 0, none⟩) :: undef :: undef :: undef :: undef :: undef :: u12 :: Value.bool true :: Value.pointer (some ⟨bx, 0, none⟩) :: undef :: Value.pointer (some ⟨b16, 0, none⟩) :: undef :: Value.int .i64 zn :: Value.int .i64 be :: Value.bool bp :: Value.int .i64 be :: Value.bool bp :: Value.bool true :: Value.int .i64 a :: rv :: Value.agg #[Value.int .i64 n, Value.slice eo es.length ec] :: Value.agg #[Value.int .i64 nA, Value.slice ao eA.length ac] :: Value.agg #[Value.int .i64 n, Value.slice eo es.length ec] :: Value.slice (some ⟨bs, 0, none⟩) 2 2 :: Value.int .i64 2 :: Value.int .i64 (k : Nat) :: Value.bool true :: Value.pointer (some ⟨bs, k * 2, none⟩) :: Value.agg #[Value.int .i64 nx, Value.slice xo ex.length xc] :: Value.int .i64 f :: Value.int .i64 f :: Value.pointer (some ⟨bx, 0, none⟩) :: Value.int .i64 n :: Value.int .i64 n :: Value.int .i64 pf :: Value.slice (some ⟨bi, 0, none⟩) 2 2 :: Value.int .i64 2 :: Value.int .i64 (j : Nat) :: Value.bool true :: Value.pointer (some ⟨bi, j, none⟩) :: Value.int .i64 zn :: Value.tuple #[Value.int .i64 be, Value.bool bp] :: Value.agg #[Value.int .i64 nx, Value.slice xo ex.length xc] :: Value.int .i64 zn :: Value.int .i64 g :: Value.tuple #[Value.int .i64 be, Value.bool bp] :: Value.int .i64 be :: Value.bool bp :: Value.tuple #[Value.int .i64 be, Value.bool bp] :: Value.agg #[Value.int .i64 nx, Value.slice xo ex.length xc] :: Value.int .i64 zn :: Value.int .i64 g :: Value.tuple #[Value.int .i64 be, Value.bool bp] :: Value.int .i64 be :: Value.bool bp :: Value.int .i64 be :: Value.int .i64 be :: Value.bool false :: Value.bool false :: Value.bool bp :: Value.bool bp :: Value.bool false :: Value.bool false :: Value.bool false :: Value.agg #[Value.int .i64 nx, Value.slice xo ex.length xc] :: Value.int .i64 zn :: z11 :: Value.agg #[Value.int .i64 nx, Value.slice xo ex.length xc] :: Value.int .i64 zn :: z14 :: Value.bool true :: Value.bool false :: Value.bool false :: Value.bool false :: Value.agg #[Value.int .i64 nx, Value.slice xo ex.length xc] :: Value.slice ub bl.length uc :: Value.int .i64 zn :: z22 :: Value.agg #[Value.int .i64 nx, Value.slice xo ex.length xc] :: Value.slice ub bl.length uc :: Value.int .i64 zn :: z26 :: Value.bool true :: Value.bool false :: Value.bool false :: u91 :: u92 :: u93 :: u94 :: u95 :: u96 :: u97 :: u98 :: u99 :: u100 :: u101 :: u102 :: u103 :: u104 :: undef :: undef :: undef :: undef :: undef :: []), defers := [] } _
              refine A2 _ _ ?_
              have HBn := Lib.hid (HB5.out.trans (hbel.mono HB5.out.size))
              clear hbel p11 p14 p22 p26
              go_wp2_with fail
              go_roundw
              case rel => exact ⟨j + 1, by omega, by go_num, HBn⟩
              case measure => simp [intOf]; omega
        · have dj : decide ((j : Int) < 2) = false := by simp; omega
          go_upto_region 14 with fail
          rename_i K2 A2
          obtain ⟨RX, hrx⟩ : ∃ r, rightB nx ex = r := ⟨_, rfl⟩
          obtain ⟨SX, hsx⟩ : ∃ r, strongB nx ex = r := ⟨_, rfl⟩
          have CX1 := Lib.hid (fun w' (hu : EdgesAt w' (.slice xo ex.length xc) ex) => right_any (n := nx) (es := ex) (w := w') _ hu RX hrx)
          have CX2 := Lib.hid (fun w' (hu : EdgesAt w' (.slice xo ex.length xc) ex) => rright_any (n := nx) (es := ex) (w := w') _ hu RX hrx)
          have CS1 := Lib.hid (fun w' (hu : EdgesAt w' (.slice xo ex.length xc) ex) => strong_any (n := nx) (es := ex) (w := w') _ hu SX hsx)
          have CS2 := Lib.hid (fun w' (hu : EdgesAt w' (.slice xo ex.length xc) ex) => rstrong_any (n := nx) (es := ex) (w := w') _ hu SX hsx)
          clear hrx hsx dj CF CP
          refine wp_region_grow_all mixed (fun zs => { tmps := List.toArray (Value.agg #[Value.int .i64 nA, Value.slice ao eA.length ac] :: Value.int .i64 a :: rv :: Value.slice ub bl.length uc :: Value.int .i64 f :: Value.int .i64 g :: Value.pointer (some ⟨w.heap.size, 0, none⟩) :: undef :: undef :: undef :: undef :: undef :: u12 :: Value.bool true :: Value.pointer (some ⟨bx, 0, none⟩) :: undef :: Value.pointer (some ⟨b16, 0, none⟩) :: undef :: u18 :: u19 :: u20 :: u21 :: u22 :: Value.bool true :: Value.int .i64 a :: rv :: Value.agg #[Value.int .i64 n, Value.slice eo es.length ec] :: Value.agg #[Value.int .i64 nA, Value.slice ao eA.length ac] :: Value.agg #[Value.int .i64 n, Value.slice eo es.length ec] :: Value.slice (some ⟨bs, 0, none⟩) 2 2 :: Value.int .i64 2 :: Value.int .i64 (k : Nat) :: Value.bool true :: Value.pointer (some ⟨bs, k * 2, none⟩) :: Value.agg #[Value.int .i64 nx, Value.slice xo ex.length xc] :: Value.int .i64 f :: Value.int .i64 f :: Value.pointer (some ⟨bx, 0, none⟩) :: Value.int .i64 n :: Value.int .i64 n :: Value.int .i64 pf :: Value.slice (some ⟨bi, 0, none⟩) 2 2 :: Value.int .i64 2 :: Value.int .i64 (j : Nat) :: Value.bool false :: u45 :: u46 :: u47 :: u48 :: u49 :: u50 :: u51 :: u52 :: u53 :: u54 :: u55 :: u56 :: u57 :: u58 :: u59 :: u60 :: u61 :: u62 :: u63 :: u64 :: u65 :: u66 :: u67 :: u68 :: u69 :: u70 :: u71 :: u72 :: u73 :: u74 :: u75 :: u76 :: u77 :: u78 :: u79 :: u80 :: u81 :: u82 :: u83 :: u84 :: u85 :: u86 :: u87 :: u88 :: u89 :: u90 :: u91 :: zs.getD 0 undef :: zs.getD 1 undef :: zs.getD 2 undef :: zs.getD 3 undef :: zs.getD 4 undef :: zs.getD 5 undef :: zs.getD 6 undef :: zs.getD 7 undef :: zs.getD 8 undef :: zs.getD 9 undef :: zs.getD 10 undef :: zs.getD 11 undef :: u104 :: undef :: undef :: undef :: undef :: undef :: []), defers := [] }) [(fun z _ => z = Value.agg #[Value.int .i64 nx, Value.slice xo ex.length xc]), (fun z _ => z = Value.bool RX), (fun z _ => z = Value.agg #[Value.int .i64 nx, Value.slice xo ex.length xc]), (fun z _ => z = Value.bool RX), (fun z _ => z = Value.bool false), (fun z _ => z = Value.bool false), (fun z _ => z = Value.agg #[Value.int .i64 nx, Value.slice xo ex.length xc]), (fun z _ => z = Value.bool SX), (fun z _ => z = Value.agg #[Value.int .i64 nx, Value.slice xo ex.length xc]), (fun z _ => z = Value.bool SX), (fun z _ => z = Value.bool false), (fun z _ => z = Value.bool false)] [u92, u93, u94, u95, u96, u97, u98, u99, u100, u101, u102, u103] rfl rfl rfl ?_ (by kernel_rfl) ?_ ?_
          · intro p hp
            simp only [List.mem_cons, List.not_mem_nil, or_false] at hp
            rcases hp with rfl | rfl | rfl | rfl | rfl | rfl | rfl | rfl | rfl | rfl | rfl | rfl
            all_goals first | exact stable_eq _ | exact IntsV.stable _
          · intro i hi zs l wz o hz hF ho hpre
            have hi' : i < 12 := hi
            clear A2
            have HEz := Lib.hid (HEj.out.below hF.bel (Nat.le_refl _))
            have HXz := Lib.hid (HXj.out.below hF.bel)
            have x0 := HXz.out.c0
            have x1 := HXz.out.c1
            match zs, (show zs.length = 12 from hz) with
            | z0 :: z1 :: z2 :: z3 :: z4 :: z5 :: z6 :: z7 :: z8 :: z9 :: z10 :: z11 :: [], _ =>
              clear hz hi
              change wpOp _ _ _ _ _ { tmps := List.toArray (Value.agg #[Value.int .i64 nA, Value.slice ao eA.length ac] :: Value.int .i64 a :: rv :: Value.slice ub bl.length uc :: Value.int .i64 f :: Value.int .i64 g :: Value.pointer (some ⟨w.heap.size, 0, none⟩) :: undef :: undef :: undef :: undef :: undef :: u12 :: Value.bool true :: Value.pointer (some ⟨bx, 0, none⟩) :: undef :: Value.pointer (some ⟨b16, 0, none⟩) :: undef :: u18 :: u19 :: u20 :: u21 :: u22 :: Value.bool true :: Value.int .i64 a :: rv :: Value.agg #[Value.int .i64 n, Value.slice eo es.length ec] :: Value.agg #[Value.int .i64 nA, Value.slice ao eA.length ac] :: Value.agg #[Value.int .i64 n, Value.slice eo es.length ec] :: Value.slice (some ⟨bs, 0, none⟩) 2 2 :: Value.int .i64 2 :: Value.int .i64 (k : Nat) :: Value.bool true :: Value.pointer (some ⟨bs, k * 2, none⟩) :: Value.agg #[Value.int .i64 nx, Value.slice xo ex.length xc] :: Value.int .i64 f :: Value.int .i64 f :: Value.pointer (some ⟨bx, 0, none⟩) :: Value.int .i64 n :: Value.int .i64 n :: Value.int .i64 pf :: Value.slice (some ⟨bi, 0, none⟩) 2 2 :: Value.int .i64 2 :: Value.int .i64 (j : Nat) :: Value.bool false :: u45 :: u46 :: u47 :: u48 :: u49 :: u50 :: u51 :: u52 :: u53 :: u54 :: u55 :: u56 :: u57 :: u58 :: u59 :: u60 :: u61 :: u62 :: u63 :: u64 :: u65 :: u66 :: u67 :: u68 :: u69 :: u70 :: u71 :: u72 :: u73 :: u74 :: u75 :: u76 :: u77 :: u78 :: u79 :: u80 :: u81 :: u82 :: u83 :: u84 :: u85 :: u86 :: u87 :: u88 :: u89 :: u90 :: u91 :: z0 :: z1 :: z2 :: z3 :: z4 :: z5 :: z6 :: z7 :: z8 :: z9 :: z10 :: z11 :: u104 :: undef :: undef :: undef :: undef :: undef :: []), defers := [] } _
              have hc : i = 0 ∨ i = 1 ∨ i = 2 ∨ i = 3 ∨ i = 4 ∨ i = 5 ∨ i = 6 ∨ i = 7 ∨ i = 8 ∨ i = 9 ∨ i = 10 ∨ i = 11 := by omega
              clear hi'
              rcases hc with rfl | rfl | rfl | rfl | rfl | rfl | rfl | rfl | rfl | rfl | rfl | rfl
              · clear ho hpre
                refine wpOp_here rfl (fun K' hK => ?_)
                go_simp
                exact hK _ _ ⟨_, rfl, Below.refl _ _, fun p hp => by cases (show some (fun z _ => z = Value.agg #[Value.int .i64 nx, Value.slice xo ex.length xc]) = some p from hp); exact rfl⟩
              · have p0 := hF.fact 0 _ _ rfl rfl (hpre ⟨0, .data⟩ (by cases ho; simp) rfl)
                subst p0
                clear ho hpre
                refine wpOp_here rfl (fun K' hK => ?_)
                go_simp
                refine (CX1.out _ HEz.out).mono ?_
                rintro e6 w6' ⟨rfl, hb6⟩
                exact hK _ _ ⟨_, rfl, hb6, fun p hp => by cases (show some (fun z _ => z = Value.bool RX) = some p from hp); exact rfl⟩
              · clear ho hpre
                refine wpOp_here rfl (fun K' hK => ?_)
                go_simp
                exact hK _ _ ⟨_, rfl, Below.refl _ _, fun p hp => by cases (show some (fun z _ => z = Value.agg #[Value.int .i64 nx, Value.slice xo ex.length xc]) = some p from hp); exact rfl⟩
              · have p2 := hF.fact 2 _ _ rfl rfl (hpre ⟨2, .data⟩ (by cases ho; simp) rfl)
                subst p2
                clear ho hpre
                refine wpOp_here rfl (fun K' hK => ?_)
                go_simp
                refine (CX2.out _ HEz.out).mono ?_
                rintro e6 w6' ⟨rfl, hb6⟩
                exact hK _ _ ⟨_, rfl, hb6, fun p hp => by cases (show some (fun z _ => z = Value.bool RX) = some p from hp); exact rfl⟩
              · have p1 := hF.fact 1 _ _ rfl rfl (hpre ⟨1, .data⟩ (by cases ho; simp) rfl)
                subst p1
                have p3 := hF.fact 3 _ _ rfl rfl (hpre ⟨3, .data⟩ (by cases ho; simp) rfl)
                subst p3
                clear ho hpre
                refine wpOp_here rfl (fun K' hK => ?_)
                go_simp
                exact hK _ _ ⟨_, rfl, Below.refl _ _, fun p hp => by cases (show some (fun z _ => z = Value.bool false) = some p from hp); exact rfl⟩
              · have p4 := hF.fact 4 _ _ rfl rfl (hpre ⟨4, .data⟩ (by cases ho; simp) rfl)
                subst p4
                clear ho hpre
                refine wpOp_here rfl (fun K' hK => ?_)
                go_simp
                exact hK _ _ ⟨_, rfl, Below.refl _ _, fun p hp => by cases (show some (fun z _ => z = Value.bool false) = some p from hp); exact rfl⟩
              · have p5 := hF.fact 5 _ _ rfl rfl (hpre ⟨5, .guard⟩ (by cases ho; simp) rfl)
                subst p5
                clear ho hpre
                refine wpOp_here rfl (fun K' hK => ?_)
                go_simp
                exact hK _ _ ⟨_, rfl, Below.refl _ _, fun p hp => by cases (show some (fun z _ => z = Value.agg #[Value.int .i64 nx, Value.slice xo ex.length xc]) = some p from hp); exact rfl⟩
              · have p6 := hF.fact 6 _ _ rfl rfl (hpre ⟨6, .data⟩ (by cases ho; simp) rfl)
                subst p6
                have p5 := hF.fact 5 _ _ rfl rfl (hpre ⟨5, .guard⟩ (by cases ho; simp) rfl)
                subst p5
                clear ho hpre
                refine wpOp_here rfl (fun K' hK => ?_)
                go_simp
                refine (CS1.out _ HEz.out).mono ?_
                rintro e6 w6' ⟨rfl, hb6⟩
                exact hK _ _ ⟨_, rfl, hb6, fun p hp => by cases (show some (fun z _ => z = Value.bool SX) = some p from hp); exact rfl⟩
              · have p5 := hF.fact 5 _ _ rfl rfl (hpre ⟨5, .guard⟩ (by cases ho; simp) rfl)
                subst p5
                clear ho hpre
                refine wpOp_here rfl (fun K' hK => ?_)
                go_simp
                exact hK _ _ ⟨_, rfl, Below.refl _ _, fun p hp => by cases (show some (fun z _ => z = Value.agg #[Value.int .i64 nx, Value.slice xo ex.length xc]) = some p from hp); exact rfl⟩
              · have p8 := hF.fact 8 _ _ rfl rfl (hpre ⟨8, .data⟩ (by cases ho; simp) rfl)
                subst p8
                have p5 := hF.fact 5 _ _ rfl rfl (hpre ⟨5, .guard⟩ (by cases ho; simp) rfl)
                subst p5
                clear ho hpre
                refine wpOp_here rfl (fun K' hK => ?_)
                go_simp
                refine (CS2.out _ HEz.out).mono ?_
                rintro e6 w6' ⟨rfl, hb6⟩
                exact hK _ _ ⟨_, rfl, hb6, fun p hp => by cases (show some (fun z _ => z = Value.bool SX) = some p from hp); exact rfl⟩
              · have p7 := hF.fact 7 _ _ rfl rfl (hpre ⟨7, .data⟩ (by cases ho; simp) rfl)
                subst p7
                have p9 := hF.fact 9 _ _ rfl rfl (hpre ⟨9, .data⟩ (by cases ho; simp) rfl)
                subst p9
                have p5 := hF.fact 5 _ _ rfl rfl (hpre ⟨5, .guard⟩ (by cases ho; simp) rfl)
                subst p5
                clear ho hpre
                refine wpOp_here rfl (fun K' hK => ?_)
                go_simp
                exact hK _ _ ⟨_, rfl, Below.refl _ _, fun p hp => by cases (show some (fun z _ => z = Value.bool false) = some p from hp); exact rfl⟩
              · have p5 := hF.fact 5 _ _ rfl rfl (hpre ⟨5, .data⟩ (by cases ho; simp) rfl)
                subst p5
                have p10 := hF.fact 10 _ _ rfl rfl (hpre ⟨10, .data⟩ (by cases ho; simp) rfl)
                subst p10
                clear ho hpre
                refine wpOp_here rfl (fun K' hK => ?_)
                go_simp
                exact hK _ _ ⟨_, rfl, Below.refl _ _, fun p hp => by cases (show some (fun z _ => z = Value.bool false) = some p from hp); exact rfl⟩
          · intro zs wz hz hbel hev
            match zs, (show zs.length = 12 from hz) with
            | z0 :: z1 :: z2 :: z3 :: z4 :: z5 :: z6 :: z7 :: z8 :: z9 :: z10 :: z11 :: [], _ =>
              have p0 := hev 0 _ _ rfl rfl
              have p1 := hev 1 _ _ rfl rfl
              have p2 := hev 2 _ _ rfl rfl
              have p3 := hev 3 _ _ rfl rfl
              have p4 := hev 4 _ _ rfl rfl
              have p5 := hev 5 _ _ rfl rfl
              have p6 := hev 6 _ _ rfl rfl
              have p7 := hev 7 _ _ rfl rfl
              have p8 := hev 8 _ _ rfl rfl
              have p9 := hev 9 _ _ rfl rfl
              have p10 := hev 10 _ _ rfl rfl
              have p11 := hev 11 _ _ rfl rfl
              subst p0 p1 p2 p3 p4 p5 p6 p7 p8 p9 p10 p11
              clear hz hev
              change Exit.then _ _ .normal { tmps := List.toArray (Value.agg #[Value.int .i64 nA, Value.slice ao eA.length ac] :: Value.int .i64 a :: rv :: Value.slice ub bl.length uc :: Value.int .i64 f :: Value.int .i64 g :: Value.pointer (some ⟨w.heap.size, 0, none⟩) :: undef :: undef :: undef :: undef :: undef :: u12 :: Value.bool true :: Value.pointer (some ⟨bx, 0, none⟩) :: undef :: Value.pointer (some ⟨b16, 0, none⟩) :: undef :: u18 :: u19 :: u20 :: u21 :: u22 :: Value.bool true :: Value.int .i64 a :: rv :: Value.agg #[Value.int .i64 n, Value.slice eo es.length ec] :: Value.agg #[Value.int .i64 nA, Value.slice ao eA.length ac] :: Value.agg #[Value.int .i64 n, Value.slice eo es.length ec] :: Value.slice (some ⟨bs, 0, none⟩) 2 2 :: Value.int .i64 2 :: Value.int .i64 (k : Nat) :: Value.bool true :: Value.pointer (some ⟨bs, k * 2, none⟩) :: Value.agg #[Value.int .i64 nx, Value.slice xo ex.length xc] :: Value.int .i64 f :: Value.int .i64 f :: Value.pointer (some ⟨bx, 0, none⟩) :: Value.int .i64 n :: Value.int .i64 n :: Value.int .i64 pf :: Value.slice (some ⟨bi, 0, none⟩) 2 2 :: Value.int .i64 2 :: Value.int .i64 (j : Nat) :: Value.bool false :: u45 :: u46 :: u47 :: u48 :: u49 :: u50 :: u51 :: u52 :: u53 :: u54 :: u55 :: u56 :: u57 :: u58 :: u59 :: u60 :: u61 :: u62 :: u63 :: u64 :: u65 :: u66 :: u67 :: u68 :: u69 :: u70 :: u71 :: u72 :: u73 :: u74 :: u75 :: u76 :: u77 :: u78 :: u79 :: u80 :: u81 :: u82 :: u83 :: u84 :: u85 :: u86 :: u87 :: u88 :: u89 :: u90 :: u91 :: Value.agg #[Value.int .i64 nx, Value.slice xo ex.length xc] :: Value.bool RX :: Value.agg #[Value.int .i64 nx, Value.slice xo ex.length xc] :: Value.bool RX :: Value.bool false :: Value.bool false :: Value.agg #[Value.int .i64 nx, Value.slice xo ex.length xc] :: Value.bool SX :: Value.agg #[Value.int .i64 nx, Value.slice xo ex.length xc] :: Value.bool SX :: Value.bool false :: Value.bool false :: u104 :: undef :: undef :: undef :: undef :: undef :: []), defers := [] } _
              refine A2 _ _ ?_
              have HQn := Lib.hid (HQj.out.grow hbel)
              clear hbel
              go_wp2_with fail
              go_roundw
              case rel => exact ⟨k + 1, by omega, by go_num, HQn⟩
              case measure => simp [intOf]; omega
    · have dk : decide ((k : Int) < 2) = false := by simp; omega
      have CRt := Lib.hid (right_any (n := n) (es := es) (w := wr) _ HQr.out.kx.ed true (rightB_true HR.out))
      have c0 := HQr.out.kx.box.c0
      have c1 := HQr.out.kx.box.c1
      go_wp2_with (go_at_call 20; (with_reducible refine (CRt.out).mono ?_); rintro e w5 ⟨rfl, hb⟩; have HQz := Lib.hid (HQr.out.grow hb); clear hb)
      rw [← HQ.out]
      exact ⟨rfl, HQz.out.kx.below⟩
/-- As the row hands it over. -/
theorem ltells_row (v0 : Value) (z0 : Int × List Ed) (a : Int) (rv : Value) (L : List Ed) (bv : Value) (bl : List Int) (f g : Int) (w : World) (hz : ∃ s, v0 = .agg #[.int .i64 z0.1, s] ∧ EdgesAt w s z0.2 ∧ i64B z0.1) (h0 : -9223372036854775808 ≤ a) (h1 : a ≤ 9223372036854775807) (hL : EdgesAt w rv L ∧ RawB L) (hb : IntsAt w bv bl ∧ bl.length * 8 ≤ 140737488351232) (f0 : -9223372036854775808 ≤ f) (f1 : f ≤ 9223372036854775807) (g0 : -9223372036854775808 ≤ g) (g1 : g ≤ 9223372036854775807) :
    Calls Try.prog 3 #[v0, .int .i64 a, rv, bv, .int .i64 f, .int .i64 g] w (Ret (.bool true) w) := by
  obtain ⟨s, rfl, hs, _⟩ := hz
  exact ltells_walk z0.1 s z0.2 hs a ⟨h0, h1⟩ rv L hL.1 hL.2 bv bl hb.1 f g ⟨f0, f1⟩
end Go.Proofs.Ytcbfjkigmlmohaa.Ly
