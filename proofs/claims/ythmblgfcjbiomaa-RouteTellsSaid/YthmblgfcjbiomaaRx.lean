import Derived.Test.YthmblgfcjbiomaaRw
/- The document's Tour and Cost. -/
set_option linter.unusedVariables false
set_option linter.unusedSimpArgs false
namespace Go.Proofs.Ythmblgfcjbiomaa.Rt
open Go.RowKit Go.Shelf Ly
attribute [local go_sem] Oper.semAt_some

set_option maxHeartbeats 4000000 in
theorem rtour_any {n : Int} {es : List Ed} {w : World} (v bv : Value) (hv : EdgesAt w v es) (bl : List Int) (hb : IntsAt w bv bl) (a b c : Int) :
    Calls Try.prog 15 #[.agg #[.int .i64 n, v], bv, .int .i64 a, .int .i64 b, .int .i64 c] w (RetTwo (tourS n es bl a b c) w) := by
  have HB0 : Hid (Below w.heap.size w (w.alloc (.cells #[.int .i64 n, v] 24))) := (Below.refl _ w).alloc (Nat.le_refl _) _
  have HX0 := Lib.hid (BoxAt.new n v w)
  have HE := Lib.hid (hv.below HB0.out (Nat.le_refl _))
  have HI := Lib.hid (hb.below HB0.out (Nat.le_refl _))
  obtain ⟨Q, HQ⟩ : ∃ Q, Hid (RetTwo (tourS n es bl a b c) w = Q) := ⟨_, rfl⟩
  rw [HQ.out]
  have C1 := Lib.hid (rroute_any (n := n) v bv HE.out bl HI.out a b)
  have C2 := Lib.hid (fun w' (he : EdgesAt w' v es) (hi : IntsAt w' bv bl) => rroute_any (n := n) v bv he bl hi b c)
  have L1 := routeS_len n es bl a b
  have L2 := routeS_len n es bl b c
  have HTS : Hid (tourS n es bl a b c = (if (routeS n es bl a b).2 = 0 then (if (routeS n es bl b c).2 = 0 then ((routeS n es bl a b).1 ++ (routeS n es bl b c).1, 0) else ([], (routeS n es bl b c).2)) else ([], (routeS n es bl a b).2))) := rfl
  generalize routeS n es bl a b = r1 at *
  generalize routeS n es bl b c = r2 at *
  obtain ⟨l1, e1⟩ := r1
  obtain ⟨l2, e2⟩ := r2
  dsimp only at *
  obtain ⟨eo, ce, rfl⟩ := slE hv
  obtain ⟨bo, cb, rfl⟩ := slI hb
  have c0 := HX0.out.c0
  have c1 := HX0.out.c1
  clear hv hb
  have hlw : w.heap.size < (w.alloc (.cells #[.int .i64 n, .slice eo es.length ce] 24)).heap.size := by simp
  go_enter Try.func15, Try.ntmps15
  go_upto_region 1 with fail
  generalize w.alloc (.cells #[.int .i64 n, .slice eo es.length ce] 24) = w0 at *
  go_upto_region 2 with (go_at_call 13; (with_reducible refine (C1.out).mono ?_); rintro e w1 ⟨v1, rfl, ho1, hb1⟩)
  have HX1 := Lib.hid (HX0.out.below hb1)
  have HB1 := Lib.hid (HB0.out.trans (hb1.mono HB0.out.size))
  have HO1 := Lib.hid ho1
  have HE1 := Lib.hid (HE.out.below hb1 (Nat.le_refl _))
  have HI1 := Lib.hid (HI.out.below hb1 (Nat.le_refl _))
  have hb1s := hb1.size
  clear ho1 hb1 c0 c1
  have c0 := HX1.out.c0
  have c1 := HX1.out.c1
  by_cases h1 : e1 = 0
  · subst h1
    go_upto_region 5 with (go_at_call 13; (with_reducible refine (C2.out _ HE1.out HI1.out).mono ?_); rintro e w2 ⟨v2, rfl, ho2, hb2⟩)
    have HB2 := Lib.hid (HB1.out.trans (hb2.mono HB1.out.size))
    have HO2 := Lib.hid ho2
    have HO12 := Lib.hid (own_below HO1.out hb2 (Nat.le_refl _))
    have hb2s := hb2.size
    clear ho2 hb2 c0 c1
    by_cases h2 : e2 = 0
    · subst h2
      obtain ⟨i0, hi0, hz0, hz1, hz2⟩ := info_parts int_info
      go_wp2_with (at_builtin; (refine wpList_append_rows rfl _ _ 26 rfl w0.heap.size w1.heap.size 3 i0 _ 1 8 Try.underlying26 hi0 hz0 hz1 hz2 rfl (by omega) v1 l1.length (intC l1) rfl HO12.out v2 l2.length (intC l2) rfl HO2.out intC_ones (by unfold maxLen; omega) (by omega) (by omega) ?_); intro v3 w3 ho3 hg3)
      have HB3 : Hid (Below w.heap.size w w3) := HB2.out.grown hg3 (by omega) (fun k e => by have := (HO12.out.lt k e).1; omega)
      have HO3 : Hid (w3.ownsRow w.heap.size 3 1 v3 (l1 ++ l2).length (intC (l1 ++ l2))) := by
        show World.ownsRow _ _ _ _ _ _ _
        rw [intC_append, List.length_append]
        exact own_below ho3 (Below.refl _ _) (by omega)
      clear ho3 hg3
      go_wp2_with fail
      rw [← HQ.out, HTS.out]
      exact ⟨_, rfl, HO3.out, HB3.out⟩
    · have d2 : (e2 == 0) = false := by simpa using h2
      have HF : Hid (tourS n es bl a b c = ([], e2)) := by
        show _ = _
        rw [HTS.out, if_pos trivial, if_neg h2]
      go_wp2_with fail
      rw [← HQ.out, HF.out]
      exact ⟨_, rfl, World.ownsRow_nil _ _ _ _, HB2.out⟩
  · have d1 : (e1 == 0) = false := by simpa using h1
    have HF : Hid (tourS n es bl a b c = ([], e1)) := by
      show _ = _
      rw [HTS.out, if_neg h1]
    go_wp2_with fail
    rw [← HQ.out, HF.out]
    exact ⟨_, rfl, World.ownsRow_nil _ _ _ _, HB1.out⟩
set_option maxRecDepth 100000 in
set_option maxHeartbeats 8000000 in
theorem rcost_any {n : Int} {es : List Ed} {w : World} (v bv : Value) (hv : EdgesAt w v es) (ks : List Int) (hb : IntsAt w bv ks) (hr : RightL n es) (hks : ks.length ≤ 1000000000000000) :
    Calls Try.prog 20 #[.agg #[.int .i64 n, v], bv] w (Ret (.int .i64 (costI es ks)) w) := by
  have HB0 : Hid (Below w.heap.size w (w.alloc (.cells #[.int .i64 n, v] 24))) := (Below.refl _ w).alloc (Nat.le_refl _) _
  have HX0 := Lib.hid (BoxAt.new n v w)
  have HE := Lib.hid (hv.below HB0.out (Nat.le_refl _))
  have HI := Lib.hid (hb.below HB0.out (Nat.le_refl _))
  obtain ⟨Q, HQ⟩ : ∃ Q, Hid (Ret (.int .i64 (costI es ks)) w = Q) := ⟨_, rfl⟩
  rw [HQ.out]
  have HC := Lib.hid fun k => costI_le hr ks k
  have HR : Hid (∀ j, j < es.length → 1 ≤ (ate es j).2.2 ∧ (ate es j).2.2 ≤ 1000) := fun j hj => (hr.at hj).2.2.2
  obtain ⟨eo, ce, rfl⟩ := slE hv
  obtain ⟨bo, cb, rfl⟩ := slI hb
  have h120 : es.length ≤ 120 := hr.2.2.1
  clear hv hb hr
  go_enter Try.func20, Try.ntmps20
  go_upto_region 1 with fail
  generalize w.alloc (.cells #[.int .i64 n, .slice eo es.length ce] 24) = w0 at *
  go_wp2_with fail
  go_loopw [5, 6] (fun s i wr => ∃ k : Nat, k ≤ ks.length ∧ i = .int .i64 k ∧ s = .int .i64 (costI es (ks.take k)) ∧ Hid (Below w0.heap.size w0 wr)) (fun _ i _ => ks.length - (intOf i).toNat)
  case atStart => exact ⟨0, Nat.zero_le _, rfl, rfl, Below.refl _ _⟩
  case round =>
    obtain ⟨k, hk, rfl, rfl, HBW⟩ := hrel
    have hsum := HC.out k
    have c1 := (HX0.out.below HBW.out).c1
    by_cases hlt : k < ks.length
    · obtain ⟨ba, bc, hb1, hb2, hb3⟩ := HI.out
      cases hb1
      obtain ⟨bb, bof, rfl, lb, hbs⟩ := hb3 (by omega)
      have g0 := (HBW.out.cell (p := ⟨bb, bof + k, none⟩) lb).trans (hbs k hlt)
      have GK := Lib.hid (hbs k hlt)
      have HT := Lib.hid (costI_take es hlt)
      clear hb2 hb3 hbs
      generalize costI es (ks.take k) = s at *
      generalize ati ks k = x at *
      have HBn : Hid (∀ u, Below w0.heap.size w0 (wr.drewN u)) := fun u => HBW.out.trans ⟨rfl, rfl, rfl, Nat.le_refl _, fun _ _ => rfl⟩
      go_upto_region 5 with fail
      by_cases hx : 0 ≤ x ∧ x < es.length
      · obtain ⟨hx0, hx1⟩ := hx
        obtain ⟨xn, rfl⟩ : ∃ xn : Nat, x = (xn : Int) := ⟨x.toNat, by omega⟩
        have hxn : xn < es.length := by omega
        obtain ⟨ea, ec, he1, he2, he3⟩ := HE.out
        cases he1
        obtain ⟨eb, eof, rfl, le, hes⟩ := he3 (by omega)
        have G2 := Lib.hid (hes xn hxn).2.2
        have hr2 := HR.out xn hxn
        have HT2 : Hid (costI es (ks.take (k + 1)) = s + (ate es xn).2.2) := by
          show _ = _
          rw [HT.out, if_pos ⟨by omega, by simpa using hxn⟩, Int.toNat_natCast]
        clear he2 he3 hes HT
        generalize (ate es xn).2.2 = y at *
        have d1 : decide ((0 : Int) ≤ xn) = true := by simp
        have d2 : decide (xn < es.length) = true := by simpa using hxn
        have hwr : IntKind.i64.wrap (s + y) = s + y := by rw [IntKind.wrap_i64]; omega
        go_quiet (fail)
        go_upto_region 6 with fail
        have hbq := HBn.out nq
        have c3 := (HX0.out.below hbq).c1
        have g3 := (hbq.cell (p := ⟨bb, bof + k, none⟩) lb).trans GK.out
        have g4 := (hbq.cell (p := ⟨eb, eof + xn * 3 + 2, none⟩) le).trans G2.out
        have HBQ := Lib.hid hbq
        clear c1 g0 hbq HBn
        generalize wr.drewN nq = wq at *
        go_quiet (fail)
        go_wp2_with fail
        go_roundw
        case rel => exact ⟨k + 1, by omega, by go_num, by rw [HT2.out], ⟨HBQ.out.os, HBQ.out.tape, HBQ.out.output, HBQ.out.size, HBQ.out.block⟩⟩
        case measure => simp [intOf]; omega
      · have HT2 : Hid (costI es (ks.take (k + 1)) = s) := by
          show _ = _
          rw [HT.out, if_neg (by omega)]
          omega
        by_cases hx0 : 0 ≤ x
        · have d1 : decide (0 ≤ x) = true := by simpa using hx0
          have d2 : decide (x < es.length) = false := by simp; omega
          clear hx0 hx
          go_quiet (fail)
          go_wp2_with fail
          have HBQ := Lib.hid (HBn.out nq)
          go_roundw
          case rel => exact ⟨k + 1, by omega, by go_num, by rw [HT2.out], ⟨HBQ.out.os, HBQ.out.tape, HBQ.out.output, HBQ.out.size, HBQ.out.block⟩⟩
          case measure => simp [intOf]; omega
        · have d1 : decide (0 ≤ x) = false := by simpa using hx0
          clear hx0 hx
          go_quiet (fail)
          go_wp2_with fail
          have HBQ := Lib.hid (HBn.out nq)
          go_roundw
          case rel => exact ⟨k + 1, by omega, by go_num, by rw [HT2.out], ⟨HBQ.out.os, HBQ.out.tape, HBQ.out.output, HBQ.out.size, HBQ.out.block⟩⟩
          case measure => simp [intOf]; omega
    · have hkk : costI es (ks.take k) = costI es ks := by rw [List.take_of_length_le (by omega)]
      have hke : k = ks.length := by omega
      subst hke
      rw [hkk]
      have HF : Hid (Q (.returned (.int .i64 (costI es ks))) wr) := by
        show Q _ _
        rw [← HQ.out]
        exact ⟨rfl, HB0.out.trans (HBW.out.mono HB0.out.size)⟩
      clear hkk
      go_wp2_with fail
      exact HF.out
end Go.Proofs.Ythmblgfcjbiomaa.Rt
