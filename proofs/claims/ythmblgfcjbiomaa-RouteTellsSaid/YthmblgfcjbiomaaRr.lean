import Derived.Test.YthmblgfcjbiomaaRp
import Derived.Deep.RegionLaw
import Derived.StillTailTactics
/- The law RouteMore. -/
set_option linter.unusedVariables false
set_option linter.unusedSimpArgs false
namespace Go.Proofs.Ythmblgfcjbiomaa.Rt
open Go.RowKit Ly

/-- One edge made dearer. -/
def dear (es : List Ed) (k : Nat) (x : Int) : List Ed := es.set k ((ate es k).1, (ate es k).2.1, (ate es k).2.2 + 1 + x)
theorem dear_len (es : List Ed) (k : Nat) (x : Int) : (dear es k x).length = es.length := by simp [dear]
theorem ate_dear {es : List Ed} {k : Nat} {x : Int} (hk : k < es.length) (i : Nat) : ate (dear es k x) i = if i = k then ((ate es k).1, (ate es k).2.1, (ate es k).2.2 + 1 + x) else ate es i := by
  unfold dear
  show ((es.set k _).getD i _) = _
  rw [List.getD_eq_getElem?_getD, List.getElem?_set]
  by_cases e : k = i
  · subst e; simp [hk]
  · rw [if_neg e, if_neg (fun h => e h.symm)]
    unfold ate
    rw [List.getD_eq_getElem?_getD]
theorem dear_ends {es : List Ed} {k : Nat} {x : Int} (hk : k < es.length) (i : Nat) : (ate (dear es k x) i).1 = (ate es i).1 ∧ (ate (dear es k x) i).2.1 = (ate es i).2.1 := by
  rw [ate_dear hk]
  by_cases e : i = k
  · subst e; simp
  · rw [if_neg e]; exact ⟨rfl, rfl⟩
theorem right_dear {n : Int} {es : List Ed} {k : Nat} {x : Int} (hr : RightL n es) (hc : Cheap es) (hk : k < es.length) (x0 : 0 ≤ x) (x1 : x ≤ 4) : RightL n (dear es k x) := by
  obtain ⟨h1, h2, h3, h4⟩ := hr
  refine ⟨h1, h2, by rwa [dear_len], fun i hi => ?_⟩
  rw [dear_len] at hi
  obtain ⟨⟨ha, hb, hd, he, hf⟩, hs⟩ := h4 i hi
  have hee := dear_ends (x := x) hk i
  refine ⟨⟨by rw [hee.1]; exact ha, by rw [hee.2]; exact hb, by rw [hee.1, hee.2]; exact hd, ?_, ?_⟩, fun j hj hx => hs j hj ?_⟩
  · rw [ate_dear hk]
    by_cases e : i = k
    · subst e; simp; omega
    · rw [if_neg e]; exact he
  · rw [ate_dear hk]
    by_cases e : i = k
    · subst e
      have := hc i hi
      simp; omega
    · rw [if_neg e]; exact hf
  · have hej := dear_ends (x := x) hk j
    exact ⟨by rw [← hej.1, ← hee.1]; exact hx.1, by rw [← hej.2, ← hee.2]; exact hx.2⟩
/-- Nothing is made cheaper. -/
structure NoLess (n : Int) (F G H : List Int) : Prop where
  a : ∀ v, 0 ≤ v → v < n → 0 ≤ gi G v → 0 ≤ gi F v ∧ gi F v ≤ gi G v
  b : ∀ v, 0 ≤ v → v < n → 0 ≤ gi H v → gi F v ≤ gi H v
  c : ∀ v, 0 ≤ v → v < n → (0 ≤ gi H v ↔ 0 ≤ gi F v)
theorem no_less {n : Int} {es fs : List Ed} {bl : List Int} {kk b : Int} (hr : RightL n es) (hrf : RightL n fs) (hl : fs.length = es.length) (he : ∀ k, k < es.length → (ate fs k).1 = (ate es k).1 ∧ (ate fs k).2.1 = (ate es k).2.1 ∧ (ate es k).2.2 ≤ (ate fs k).2.2) (b0 : 0 ≤ b) (b1 : b < n) :
    NoLess n (farL n es bl b) (farL n es (bl ++ [kk]) b) (farL n fs bl b) := by
  have hF := (farL_spec (bl := bl) hr b0 b1).2.1
  have hG := (farL_spec (bl := bl ++ [kk]) hr b0 b1).2.1
  have hH := (farL_spec (bl := bl) hrf b0 b1).2.1
  refine ⟨fun v v0 v1 hv => ?_, fun v v0 v1 hv => ?_, fun v v0 v1 => ⟨fun hv => ?_, fun hv => ?_⟩⟩
  · exact hF.more hG (fun x hx => List.mem_append_left _ hx) (Nat.le_refl _) (fun k hk => ⟨rfl, rfl, Int.le_refl _⟩) v0 v1 hv
  · exact (hF.more hH (fun x hx => hx) (by omega) (fun k hk => by obtain ⟨h1, h2, h3⟩ := he k (by omega); exact ⟨h1.symm, h2.symm, h3⟩) v0 v1 hv).2
  · obtain ⟨ks, hk, _⟩ := hH.way v v0 v1 hv
    exact (hF.least (hk.alike (by omega) fun k hk => by obtain ⟨h1, h2, _⟩ := he k (by omega); exact ⟨h1.symm, h2.symm⟩)).1
  · obtain ⟨ks, hk, _⟩ := hF.way v v0 v1 hv
    exact (hH.least (hk.alike (by omega) fun k hk => by obtain ⟨h1, h2, _⟩ := he k hk; exact ⟨h1, h2⟩)).1
/-- The second layout: its box, its edges. -/
structure MBox (n : Int) (es : List Ed) (w w4 wx : World) (mb : Nat) (v : Value) : Prop where
  k : KX w wx mb n v es
  row : wx.ownsRow w4.heap.size 41 3 v es.length (flatE es)
  bel : Below w4.heap.size w4 wx
  mge : w4.heap.size ≤ mb
theorem own_set {W : World} {B n j : Nat} {e : TypeId} {sz : Nat} {v : Value} {xs : List Value} {b : Nat} {u : Value} (h : W.ownsRow B e sz v n xs) (hne : v.ownBlock ≠ some b) : (W.setCell ⟨b, j, none⟩ u).ownsRow B e sz v n xs := by
  refine ⟨h.1, ?_⟩
  rcases h.2 with hn | ⟨g, cap, cur, hv, hbg, hh, hr⟩
  · exact .inl hn
  · exact .inr ⟨g, cap, cur, hv, hbg, (heap_setCell_other W ⟨b, j, none⟩ g u (fun e => hne (by rw [hv]; exact congrArg some e))).trans hh, hr⟩
theorem KX.grow2 {w0 w w' : World} {b : Nat} {n : Int} {v : Value} {es : List Ed} {B : Nat} (h : KX w0 w b n v es) (hb : Below B w w') (h1 : w.heap.size ≤ B) : KX w0 w' b n v es :=
  h.grow (hb.mono h1)
theorem mbox_a {n : Int} {es : List Ed} {w wc wA : World} {xb mc : Nat} {v0 : Value} {mo : Option Addr} (h : KX w wc xb n v0 es) (hb : Below wc.heap.size wc wA) (ho : wA.ownsRow wc.heap.size 41 3 (.slice mo es.length mc) es.length (flatE es)) (hl : es.length ≤ 1000) :
    MBox n es w wc (wA.alloc (.cells #[.int .i64 n, .slice mo es.length mc] 24)) wA.heap.size (.slice mo es.length mc) := by
  have h1 : Below wA.heap.size wA (wA.alloc (.cells #[.int .i64 n, .slice mo es.length mc] 24)) := (Below.refl _ _).alloc (Nat.le_refl _) _
  have h2 := own_below ho h1 (Nat.le_refl _)
  exact ⟨⟨(h.below.trans (hb.mono h.below.size)).trans (h1.mono (Nat.le_trans h.below.size hb.size)), BoxAt.new n _ wA, edges_own h2 rfl (by omega)⟩, h2, hb.alloc hb.size _, hb.size⟩
theorem mbox_b {n : Int} {es : List Ed} {w wc wA : World} {xb mc : Nat} {v0 : Value} {mo : Option Addr} (h : KX w wc xb n v0 es) (hb : Below wc.heap.size wc wA) (ho : wA.ownsRow wc.heap.size 41 3 (.slice mo es.length mc) es.length (flatE es)) (hl : es.length ≤ 1000)
    (hz : wA.heap[wc.heap.size]? = some (.cells #[.int .i64 0, .slice none 0 0] 24 (0, 0))) :
    MBox n es w wc ((wA.setCell ⟨wc.heap.size, 0, none⟩ (.int .i64 n)).setCell ⟨wc.heap.size, 1, none⟩ (.slice mo es.length mc)) wc.heap.size (.slice mo es.length mc) := by
  have hne : (Value.slice mo es.length mc).ownBlock ≠ some wc.heap.size := fun e => by
    rcases ho.2 with ⟨hn, _⟩ | ⟨g, cap, cur, hv, hbg, hh, hr⟩
    · rw [hn] at e; cases e
    · rw [hv] at e
      have e2 : g = wc.heap.size := by simpa [Value.ownBlock] using e
      rw [e2, hz] at hh
      simp at hh
  have h1 := heap_setCell_same wA wc.heap.size 0 _ _ (.int .i64 n) hz
  have h2 := heap_setCell_same _ wc.heap.size 1 _ _ (.slice mo es.length mc) h1
  have h3 := own_set (j := 1) (u := .slice mo es.length mc) (own_set (j := 0) (u := .int .i64 n) ho hne) hne
  have h4 : Below wc.heap.size wc ((wA.setCell ⟨wc.heap.size, 0, none⟩ (.int .i64 n)).setCell ⟨wc.heap.size, 1, none⟩ (.slice mo es.length mc)) := (hb.setCell (p := ⟨wc.heap.size, 0, none⟩) (Nat.le_refl _) _).setCell (p := ⟨wc.heap.size, 1, none⟩) (Nat.le_refl _) _
  refine ⟨⟨h.below.trans (h4.mono h.below.size), ⟨?_, ?_, ?_⟩, edges_own h3 rfl (by omega)⟩, h3, h4, Nat.le_refl _⟩
  · rw [cell_of_row _ _ 0 _ _ _ h2]; rfl
  · rw [cell_of_row _ _ 1 _ _ _ h2]; rfl
  · exact (Array.getElem?_eq_some_iff.1 h2).1
/-- The third cell of an edge is written. -/
theorem edges_dear {w : World} {b : Nat} {c : Nat} {es : List Ed} (h : EdgesAt w (.slice (some ⟨b, 0, none⟩) es.length c) es) {k : Nat} (hk : k < es.length) (x : Int) (hb : b < w.heap.size) :
    EdgesAt (w.setCell ⟨b, k * 3 + 2, none⟩ (.int .i64 ((ate es k).2.2 + 1 + x))) (.slice (some ⟨b, 0, none⟩) es.length c) (dear es k x) := by
  obtain ⟨ao, cap, hv, hl, hc⟩ := h
  cases hv
  obtain ⟨b', o', e, lb, hcs⟩ := hc (by omega)
  cases e
  refine ⟨_, c, by rw [dear_len], by rw [dear_len]; exact hl, fun _ => ⟨b, 0, rfl, by simpa [World.setCell] using hb, fun j hj => ?_⟩⟩
  rw [dear_len] at hj
  obtain ⟨h1, h2, h3⟩ := hcs j hj
  obtain ⟨d1, d2⟩ := dear_ends (x := x) hk j
  refine ⟨?_, ?_, ?_⟩
  · rw [World.cell?_setCell_other _ _ _ _ (by simp <;> omega), d1]; exact h1
  · rw [World.cell?_setCell_other _ _ _ _ (by simp <;> omega), d2]; exact h2
  · rw [ate_dear hk]
    by_cases e : j = k
    · subst e
      rw [if_pos rfl, Nat.zero_add]
      rw [Nat.zero_add] at h3
      exact World.cell?_setCell_same' _ _ _ (by rw [h3]; rfl)
    · rw [World.cell?_setCell_other _ _ _ _ (by simp <;> omega), if_neg e]; exact h3
theorem MBox.grow {n : Int} {es : List Ed} {w w4 wx wy : World} {mb : Nat} {v : Value} (h : MBox n es w w4 wx mb v) (hb : Below wx.heap.size wx wy) : MBox n es w w4 wy mb v :=
  ⟨h.k.grow hb, own_below h.row hb (Nat.le_refl _), h.bel.trans (hb.mono h.bel.size), h.mge⟩
theorem slN {w : World} {v : Value} {l : List Int} {N : Nat} (h : IntsAt w v l) (hn : l.length = N) : ∃ ao cap, v = .slice ao N cap := by
  subst hn
  exact slI h
theorem far_read {n : Int} {es : List Ed} {w : World} (v bv : Value) (hv : EdgesAt w v es) (bl : List Int) (hb : IntsAt w bv bl) (b : Int) (hr : RightL n es) (hn : nodeB n b = true) :
    Calls Try.prog 17 #[.agg #[.int .i64 n, v], bv, .int .i64 b] w (RetInts (farL n es bl b) w) := by
  obtain ⟨b0, b1⟩ := nodeB_iff.1 hn
  have := far_any (n := n) v bv hv bl hb b
  rwa [farS_yes hr b0 b1] at this
theorem ints_far {n : Int} {es : List Ed} {bl : List Int} {b : Int} (hr : RightL n es) (hn : nodeB n b = true) : (((farL n es bl b).length : Nat) : Int) = n := by
  obtain ⟨b0, b1⟩ := nodeB_iff.1 hn
  have := (farL_spec (bl := bl) hr b0 b1).1
  omega
theorem ati_gi {o : List Int} {v : Nat} (h : v < o.length) : ati o v = gi o v := by
  rw [ati_lt h, gi_at (by simpa using h)]
  simp

set_option maxRecDepth 100000 in
set_option maxHeartbeats 16000000 in
theorem lmore12_walk {w : World} (a : Int) (ha : i64B a) (rv : Value) (L : List Ed) (hL : EdgesAt w rv L) (hB : RawB L) (bv : Value) (bl : List Int) (hb : IntsAt w bv bl) (hbs : bl.length * 8 ≤ 140737488351232) (z1 z2 z3 : Int) (hz1 : i64B z1) (hz2 : i64B z2) (hz3 : i64B z3) :
    Calls Try.prog 6 #[.int .i64 a, rv, bv, .int .i64 z1, .int .i64 z2, .int .i64 z3] w (Ret (.bool true) w) := by
  have CF := Lib.hid (fun w' (h : EdgesAt w' rv L) => fit_cheap a ha rv L h hB)
  obtain ⟨Q, HQ⟩ : ∃ Q, Hid (Ret (.bool true) w = Q) := ⟨_, rfl⟩
  rw [HQ.out]
  have HL0 := Lib.hid hL
  have HI0 := Lib.hid hb
  clear hL hb
  go_enter Try.func6, Try.ntmps6
  go_upto_region 2 with (go_at_call 9; (with_reducible refine (awake12_any w).mono ?_); rintro e w1 ⟨rfl, hb1⟩)
  have HB1 := Lib.hid hb1
  have HL1 := Lib.hid (HL0.out.below hb1 (Nat.le_refl _))
  have HI1 := Lib.hid (HI0.out.below hb1 (Nat.le_refl _))
  clear hb1
  go_upto_region 3 with (go_at_call 10; (with_reducible refine (CF.out _ HL1.out).mono ?_); rintro e w2 ⟨n, v, es, rfl, n1, n8, hr, hel, he, hb2, hch⟩; obtain ⟨eo, ec, rfl⟩ := slE he)
  have HK2 := Lib.hid (KX.start (w0 := w) (n := n) (HB1.out.trans (hb2.mono HB1.out.size)) he)
  have hb3 : Below w1.heap.size w1 (w2.alloc (.cells #[.int .i64 n, .slice eo es.length ec] 24)) := hb2.alloc hb2.size _
  have HI2 := Lib.hid (HI1.out.below hb3 (Nat.le_refl _))
  clear hb2 hb3 he
  generalize w2.heap.size = xb at *
  generalize w2.alloc (.cells #[.int .i64 n, .slice eo es.length ec] 24) = w3 at *
  have c0 := HK2.out.box.c0
  have c1 := HK2.out.box.c1
  have P1 := Lib.hid (pick12_any z1 n w3 hz1.1 hz1.2 (by omega) (by omega))
  have P2 := Lib.hid (fun w' => pick12_any z2 n w' hz2.1 hz2.2 (by omega) (by omega))
  have P5 := Lib.hid (fun w' => pick12_any z2 5 w' hz2.1 hz2.2 (by omega) (by omega))
  have nb := pick_node (c := z1) (n := n) (by omega)
  generalize pickS z1 n = b at *
  generalize pickS z2 n = kk at *
  have x0 := pickS_nonneg (c := z2) (n := 5) (by omega)
  have x1 := pickS_lt (c := z2) (n := 5) (by omega)
  generalize pickS z2 5 = x at *
  have C1 := Lib.hid (fun w' (he : EdgesAt w' (.slice eo es.length ec) es) (hi : IntsAt w' bv bl) => far_read (n := n) _ bv he bl hi b hr nb)
  have C2 := Lib.hid (fun w' v (he : EdgesAt w' (.slice eo es.length ec) es) (hi : IntsAt w' v (bl ++ [kk])) => far_read (n := n) _ v he (bl ++ [kk]) hi b hr nb)
  go_upto_region 5 with (first
    | (go_at_call 11; (with_reducible refine (P1.out).mono ?_); rintro e w4 ⟨rfl, rfl⟩)
    | (go_at_call 17; (with_reducible refine (C1.out _ HK2.out.ed HI2.out).mono ?_); rintro e w4 ⟨v4, rfl, hv4, hb⟩; have HK4 := Lib.hid (HK2.out.grow hb); have HI4 := Lib.hid (HI2.out.below hb (Nat.le_refl _)); have HV4 := Lib.hid hv4; clear hb hv4))
  clear c0 c1 P1 C1
  have c0 := HK4.out.box.c0
  have c1 := HK4.out.box.c1
  have hb4 := HK4.out.box.lt
  obtain ⟨i0, hi0, hz0', hz1', hz2'⟩ := info_parts int_info
  obtain ⟨ub, uc, rfl⟩ := slI HI4.out
  have HCI := Lib.hid (fun W (h : Below w4.heap.size w4 W) => ints_cells (HI4.out.below h (Nat.le_refl _)))
  have hlm : (intC bl).length = bl.length * 1 := by simp [intC]
  have HLM := Lib.hid hlm
  clear hlm CF
  generalize hG : farL n es (bl ++ [kk]) b = G at *
  have HKA : Hid (∀ W v, Below w4.heap.size w4 W → IntsAt W v (bl ++ [kk]) → Calls Try.prog 17 #[.agg #[.int .i64 n, .slice eo es.length ec], v, .int .i64 b] W (RetInts G W)) := fun W v h hi => C2.out W v (HK4.out.grow h).ed hi
  have HG := Lib.hid hG
  clear C2 hG
  go_cut [17] from 34 to 44 (fun s wx => Hid (IntsAt wx s G) ∧ Hid (Below w4.heap.size w4 wx))
  case first =>
    rename_i J1 K1 hJ1 hK1
    go_region_law (first
      | (refine step_nil_append rfl _ _ 26 rfl w4.heap.size 3 i0 _ 1 8 Try.underlying26 hi0 hz0' hz1' hz2' rfl (by omega) rfl ub bl.length uc rfl (intC bl) HLM.out (HCI.out _ (by first | exact Below.refl _ _ | exact (Below.refl _ _).drew | exact ((Below.refl _ _).alloc (Nat.le_refl _) _) | exact ((Below.refl _ _).drew.alloc (Nat.le_refl _) _) | exact ((Below.refl _ _).alloc (Nat.le_refl _) _).drew)) intC_ones (by unfold maxLen; omega) (by omega) (by simp; try omega) ?_; intro vA wA hown1 hgrow1; have HBA : Below w4.heap.size w4 wA := Below.grown (by first | exact Below.refl _ _ | exact (Below.refl _ _).drew | exact ((Below.refl _ _).alloc (Nat.le_refl _) _) | exact ((Below.refl _ _).drew.alloc (Nat.le_refl _) _) | exact ((Below.refl _ _).alloc (Nat.le_refl _) _).drew) hgrow1 (by simp; try omega) (fun k e => by cases e); have hbA := Nat.lt_of_lt_of_le hb4 HBA.size; have xA0 := (HBA.cell (p := ⟨xb, 0, none⟩) hb4).trans c0; have xA1 := (HBA.cell (p := ⟨xb, 1, none⟩) hb4).trans c1)
      | (go_simp; go_at_call 11; (with_reducible refine (P2.out _).mono ?_); rintro e wp ⟨rfl, rfl⟩)
      | (refine step_append_lies _ rfl _ _ 26 rfl w4.heap.size 3 i0 _ 1 8 Try.underlying26 hi0 hz0' hz1' hz2' rfl (by omega) vA bl.length (intC bl) rfl (hown1.alloc _) ⟨wA.heap.size, 0, none⟩ 1 1 [.int .i64 kk] rfl rfl (World.news_of_block (cs := #[.int .i64 kk]) (t := 3) (fr := (0, 0)) (heap_alloc_new wA _)) (by simp [Value.oneCell']) (by omega) (by unfold maxLen; omega) (by omega) (by have := HBA.size; simp; omega) (wA.heap.size + 1) (by simp) ?_; intro g' cp wB2 hown2 hgrow2 hat hlt; have HB2 := Lib.hid (row_below hown1 hgrow2 HBA HBA.size); have HI2 : Hid (IntsAt wB2 (.slice (some ⟨g', 0, none⟩) (bl.length + 1) cp) (bl ++ [kk])) := ints_own (by rw [intC_append]; exact hown2) (by simp) (by omega); have hbB := Nat.lt_of_lt_of_le hb4 HB2.out.size; have xB0 := (HB2.out.cell (p := ⟨xb, 0, none⟩) hb4).trans c0; have xB1 := (HB2.out.cell (p := ⟨xb, 1, none⟩) hb4).trans c1; clear hown1 hgrow1 hown2 hgrow2 hat hlt HBA)
      | (refine step_append_lies _ rfl _ _ 26 rfl w4.heap.size 3 i0 _ 1 8 Try.underlying26 hi0 hz0' hz1' hz2' rfl (by omega) vA bl.length (intC bl) rfl hown1 ⟨w4.heap.size, 0, none⟩ 1 1 [.int .i64 kk] rfl rfl (World.news_of_block (cs := #[.int .i64 kk]) (t := 3) (fr := (0, 0)) ((hgrow1.block w4.heap.size (by simp) (fun e => by cases e)).trans (heap_alloc_new w4 _))) (by simp [Value.oneCell']) (by omega) (by unfold maxLen; omega) (by omega) HBA.size wA.heap.size rfl ?_; intro g' cp wB2 hown2 hgrow2 hat hlt; have HB2 := Lib.hid (HBA.grown hgrow2 HBA.size (fun k hk => (hown1.lt k hk).1)); have HI2 : Hid (IntsAt wB2 (.slice (some ⟨g', 0, none⟩) (bl.length + 1) cp) (bl ++ [kk])) := ints_own (by rw [intC_append]; exact hown2) (by simp) (by omega); have hbB := Nat.lt_of_lt_of_le hb4 HB2.out.size; have xB0 := (HB2.out.cell (p := ⟨xb, 0, none⟩) hb4).trans c0; have xB1 := (HB2.out.cell (p := ⟨xb, 1, none⟩) hb4).trans c1; clear hown1 hgrow1 hown2 hgrow2 hat hlt HBA)
      | (go_simp; refine (HKA.out _ _ HB2.out HI2.out).mono ?_; rintro e8 w8 ⟨v8, rfl, hv8, hb8⟩; have HB8 := Lib.hid (HB2.out.trans (hb8.mono HB2.out.size)); have HV8 := Lib.hid hv8; clear hb8 hv8))
    all_goals
      refine hK1 _ _ ?_
      go_meet
      exact ⟨HV8, HB8⟩
  case rest =>
    obtain ⟨HV5, HB5⟩ := hcut
    generalize u17 = v5 at *
    generalize wc = w5 at *
    have HK5 := Lib.hid (HK4.out.grow HB5.out)
    have HV45 := Lib.hid (HV4.out.below HB5.out (Nat.le_refl _))
    have HI5 := Lib.hid (HI4.out.below HB5.out (Nat.le_refl _))
    clear c0 c1 HCI HKA
    have c0 := HK5.out.box.c0
    have c1 := HK5.out.box.c1
    have hb5 := HK5.out.box.lt
    obtain ⟨i1, hi1, hy0, hy1, hy2⟩ := info_parts edge_info
    have HCE := Lib.hid (fun W (h : Below w5.heap.size w5 W) => edges_cells (HK5.out.ed.below h (Nat.le_refl _)))
    have HLE : Hid ((flatE es).length = es.length * 3) := flatE_len es
    have HOE : Hid (∀ u ∈ flatE es, u.oneCell' = true) := flatE_one
    go_upto_region 6 with fail
    go_cut [18] from 45 to 50 (fun s wx => ∃ mb mv, s = .pointer (some ⟨mb, 0, none⟩) ∧ Hid (MBox n es w w5 wx mb mv))
    case first =>
      rename_i J1 K1 hJ1 hK1
      go_region_law (refine step_nil_append rfl _ _ 22 rfl w5.heap.size 41 i1 _ 3 24 Try.underlying22 hi1 hy0 hy1 hy2 rfl (by omega) rfl eo es.length ec rfl (flatE es) HLE.out (HCE.out _ (by first | exact Below.refl _ _ | exact (Below.refl _ _).drew | exact ((Below.refl _ _).alloc (Nat.le_refl _) _) | exact ((Below.refl _ _).drew.alloc (Nat.le_refl _) _) | exact ((Below.refl _ _).alloc (Nat.le_refl _) _).drew)) HOE.out (by unfold maxLen; omega) (by omega) (by simp; try omega) ?_; intro vA wA hown1 hgrow1; obtain ⟨mo, mc, rfl⟩ := row_form hown1; have HBA : Below w5.heap.size w5 wA := Below.grown (by first | exact Below.refl _ _ | exact (Below.refl _ _).drew | exact ((Below.refl _ _).alloc (Nat.le_refl _) _) | exact ((Below.refl _ _).drew.alloc (Nat.le_refl _) _) | exact ((Below.refl _ _).alloc (Nat.le_refl _) _).drew) hgrow1 (by simp; try omega) (fun k e => by cases e); have hbA := Nat.lt_of_lt_of_le hb5 HBA.size; have xA0 := (HBA.cell (p := ⟨xb, 0, none⟩) hb5).trans c0; have xA1 := (HBA.cell (p := ⟨xb, 1, none⟩) hb5).trans c1; first | (have kz : wA.heap[w5.heap.size]? = some (.cells #[.int .i64 0, .slice none 0 0] 24 (0, 0)) := (hgrow1.block w5.heap.size (by simp) (fun e => by cases e)).trans (by first | exact heap_alloc_new _ _); have kz0 := cell_of_row _ _ 0 _ _ _ kz; have kz1 := cell_of_row _ _ 1 _ _ _ kz; have kf0 := frozen_of_row wA w5.heap.size 0 _ _ kz; have kf1 := frozen_of_row wA w5.heap.size 1 _ _ kz) | skip)
      all_goals
        refine hK1 _ _ ?_
        go_meet
        first
          | exact ⟨_, _, rfl, mbox_a HK5.out HBA hown1 (by omega)⟩
          | exact ⟨_, _, rfl, mbox_b HK5.out HBA hown1 (by omega) kz⟩
    case rest =>
      obtain ⟨mb, mv, rfl, HM⟩ := hcut
      have HK6 := Lib.hid (HK5.out.grow HM.out.bel)
      have HV46 := Lib.hid (HV45.out.below HM.out.bel (Nat.le_refl _))
      have HV56 := Lib.hid (HV5.out.below HM.out.bel (Nat.le_refl _))
      have HI6 := Lib.hid (HI5.out.below HM.out.bel (Nat.le_refl _))
      clear c0 c1 HCE HLE HOE
      obtain ⟨mo, mc, rfl⟩ := slE HM.out.k.ed
      have d1 := HM.out.k.box.c1
      generalize wc = w6 at *
      have hml := HM.out.k.box.lt
      go_upto_if 54 with fail
      go_cut [18, 19] from 51 to 74 (fun s _ wx => s = .pointer (some ⟨mb, 0, none⟩) ∧ ∃ fs, Hid (RightL n fs ∧ fs.length = es.length ∧ ∀ k, k < es.length → (ate fs k).1 = (ate es k).1 ∧ (ate fs k).2.1 = (ate es k).2.1 ∧ (ate es k).2.2 ≤ (ate fs k).2.2) ∧ Hid (KX w wx mb n (.slice mo es.length mc) fs) ∧ Hid (Below w5.heap.size w5 wx))
      case first =>
        by_cases h0 : es.length = 0
        · go_wp2_with fail
          go_meet
          exact ⟨rfl, es, ⟨hr, rfl, fun k hk => ⟨rfl, rfl, Int.le_refl _⟩⟩, HM.out.k, HM.out.bel⟩
        · have hpos : 0 < es.length := by omega
          have PE := Lib.hid (pick12_any z3 es.length w6 hz3.1 hz3.2 (by omega) (by omega))
          have k0 := pickS_nonneg (c := z3) (n := es.length) (by omega)
          have k1 := pickS_lt (c := z3) (n := es.length) (by omega)
          generalize pickS z3 es.length = ki at *
          obtain ⟨k, rfl⟩ : ∃ k : Nat, ki = (k : Int) := ⟨ki.toNat, by omega⟩
          have hk : k < es.length := by omega
          go_upto_region 9 with (go_at_call 11; (with_reducible refine (PE.out).mono ?_); rintro e w7 ⟨rfl, rfl⟩)
          have hrow := HM.out.row
          rcases hrow.2 with ⟨hn, h00⟩ | ⟨g, cap, cur, hv, hbg, hgr, hq⟩
          · omega
          · cases hv
            have HGR := Lib.hid hgr
            have hgl : g < w6.heap.size := (Array.getElem?_eq_some_iff.1 hgr).1
            have hed := HM.out.k.ed
            obtain ⟨ea, ec2, he1, he2, he3⟩ := hed
            cases he1
            obtain ⟨b', o', he4, lb, hcs⟩ := he3 hpos
            cases he4
            have g2 := (hcs k hk).2.2
            rw [Nat.zero_add] at g2
            have gf := frozen_of_row w6 g (k * 3 + 2) _ _ hgr
            have hcost := (hr.at hk).2.2.2
            have hc9 := hch k hk
            have HD := Lib.hid (edges_dear HM.out.k.ed hk x hgl)
            have HRD := Lib.hid (right_dear hr hch hk x0 (by omega))
            have hgm : g ≠ mb := fun e => by
              have h1 := HM.out.k.box.c0
              rw [← e] at h1
              rw [cell_of_row w6 g 0 _ _ _ hgr] at h1
              have h2 := hcs 0 hpos
              have h3 := HM.out.k.box.c1
              rw [← e] at h3
              have h4 := (hcs 0 hpos).2.1
              simp only [Nat.zero_mul, Nat.zero_add] at h4
              rw [h3] at h4
              cases h4
            have HDR : Hid (∀ q, q < es.length → (ate (dear es k x) q).1 = (ate es q).1 ∧ (ate (dear es k x) q).2.1 = (ate es q).2.1 ∧ (ate es q).2.2 ≤ (ate (dear es k x) q).2.2) := fun q hq => by
              obtain ⟨y1, y2⟩ := dear_ends (x := x) hk q
              refine ⟨y1, y2, ?_⟩
              rw [ate_dear hk]
              by_cases e : q = k
              · subst e; rw [if_pos rfl]; dsimp only; omega
              · rw [if_neg e]; exact Int.le_refl _
            clear hgr hq hrow he2 he3 hcs PE
            generalize (ate es k).2.2 = c at *
            have hw1 : IntKind.i64.wrap (c + 1) = c + 1 := by rw [IntKind.wrap_i64]; omega
            have hw2 : IntKind.i64.wrap (c + 1 + x) = c + 1 + x := by rw [IntKind.wrap_i64]; omega
            go_still_tail 15, (by kernel_rfl)
            still_call ((P5.out _).mono fun e w' ⟨h1, h2⟩ => (⟨h1, h2.symm⟩ : e = _ ∧ w' = _))
            repeat still_step
            refine wpStill_nil ?_
            change wpList _ _ _ _ _ w6.drew
            go_wp2_with fail
            go_meet
            have hbd : Below w6.heap.size w6 w6.drew := (Below.refl _ _).drew
            have HB7 := HM.out.bel.setCell (p := ⟨g, k * 3 + 2, none⟩) hbg (.int .i64 (c + 1 + x))
            refine ⟨rfl, dear es k x, ⟨HRD.out, dear_len _ _ _, HDR.out⟩, ⟨?_, ⟨?_, ?_, ?_⟩, ?_⟩, ⟨HB7.os, HB7.tape, HB7.output, HB7.size, HB7.block⟩⟩
            · have h1 := (HM.out.k.below).setCell (p := ⟨g, k * 3 + 2, none⟩) (Nat.le_trans HK5.out.below.size hbg) (.int .i64 (c + 1 + x))
              exact ⟨h1.os, h1.tape, h1.output, h1.size, h1.block⟩
            · exact (World.cell?_setCell_other w6 _ _ _ (fun h => hgm (congrArg Addr.block h))).trans HM.out.k.box.c0
            · exact (World.cell?_setCell_other w6 _ _ _ (fun h => hgm (congrArg Addr.block h))).trans HM.out.k.box.c1
            · have := HM.out.k.box.lt
              simpa [World.setCell] using this
            · exact HD.out
      case rest =>
        obtain ⟨rfl, fs, HFS, HM7, HB57⟩ := hcut
        generalize wc = w7 at *
        generalize u19 = s19 at *
        obtain ⟨hrf, hlf, hef⟩ := HFS.out
        have HN := Lib.hid (no_less (bl := bl) (kk := kk) hr hrf hlf hef (nodeB_iff.1 nb).1 (nodeB_iff.1 nb).2)
        have lF := ints_far (bl := bl) hr nb
        have lG := ints_far (bl := bl ++ [kk]) hr nb
        have lH := ints_far (bl := bl) hrf nb
        have C9 := Lib.hid (fun w' (he : EdgesAt w' (.slice mo es.length mc) fs) (hi : IntsAt w' (.slice ub bl.length uc) bl) => far_read (n := n) _ _ he bl hi b hrf nb)
        rw [HG.out] at HN lG
        generalize farL n es bl b = F at *
        generalize farL n fs bl b = H at *
        have HK7 := Lib.hid (HK5.out.grow HB57.out)
        have HF7 := Lib.hid (HV45.out.below HB57.out (Nat.le_refl _))
        have HG7 := Lib.hid (HV5.out.below HB57.out (Nat.le_refl _))
        have HI7 := Lib.hid (HI5.out.below HB57.out (Nat.le_refl _))
        clear HM HK6 HV46 HV56 HI6 d1 hml hrf hlf hef hr hch nb P2 P5 HFS HG
        have c0 := HM7.out.box.c0
        have c1 := HM7.out.box.c1
        go_upto_region 11 with (go_at_call 17; (with_reducible refine (C9.out _ HM7.out.ed HI7.out).mono ?_); rintro e w8 ⟨v8, rfl, hv8, hb⟩; have HK8 := Lib.hid (HK7.out.grow hb); have HF8 := Lib.hid (HF7.out.below hb (Nat.le_refl _)); have HG8 := Lib.hid (HG7.out.below hb (Nat.le_refl _)); have HH8 := Lib.hid hv8; clear hb hv8)
        clear c0 c1
        have c0 := HK8.out.box.c0
        obtain ⟨N, hN⟩ : ∃ N : Nat, n = (N : Int) := ⟨n.toNat, by omega⟩
        subst hN
        have lF' : F.length = N := by omega
        have lG' : G.length = N := by omega
        have lH' : H.length = N := by omega
        obtain ⟨fo, fc, rfl⟩ := slN HF8.out lF'
        obtain ⟨go, gc, rfl⟩ := slN HG8.out lG'
        obtain ⟨ho, hc, rfl⟩ := slN HH8.out lH'
        clear lF lG lH
        go_upto_region 13 with fail
        have HFIN : Hid (∀ wq, Below w8.heap.size w8 wq → Q (.returned (.bool true)) wq) := fun wq hq => by
          rw [← HQ.out]
          exact ⟨rfl, HK8.out.below.trans (hq.mono HK8.out.below.size)⟩
        go_wp2_with fail
        go_loopw [21] (fun i wr => ∃ k : Nat, k ≤ N ∧ i = .int .i64 k ∧ Hid (Below w8.heap.size w8 wr)) (fun i _ => N - (intOf i).toNat)
        case atStart => exact ⟨0, Nat.zero_le _, rfl, Below.refl _ _⟩
        case round =>
          obtain ⟨k, hk, rfl, HBW⟩ := hrel
          clear c0
          have c0 := (HK8.out.grow HBW.out).box.c0
          by_cases hlt : k < N
          · obtain ⟨_, _, hf1, hf2, hf3⟩ := HF8.out
            obtain ⟨_, _, hg1, hg2, hg3⟩ := HG8.out
            obtain ⟨_, _, hh1, hh2, hh3⟩ := HH8.out
            simp only [Value.slice.injEq] at hf1 hg1 hh1
            obtain ⟨rfl, -, -⟩ := hf1
            obtain ⟨rfl, -, -⟩ := hg1
            obtain ⟨rfl, -, -⟩ := hh1
            obtain ⟨fb, fof, rfl, lf, hfs⟩ := hf3 (by omega)
            obtain ⟨gb, gof, rfl, lg, hgs⟩ := hg3 (by omega)
            obtain ⟨hb', hof, rfl, lh, hhs⟩ := hh3 (by omega)
            have y1 := (HBW.out.cell (p := ⟨fb, fof + k, none⟩) lf).trans (hfs k (by omega))
            have y2 := (HBW.out.cell (p := ⟨gb, gof + k, none⟩) lg).trans (hgs k (by omega))
            have y3 := (HBW.out.cell (p := ⟨hb', hof + k, none⟩) lh).trans (hhs k (by omega))
            rw [ati_gi (by omega)] at y1 y2 y3
            have nA := HN.out.a k (by omega) (by omega)
            have nB := HN.out.b k (by omega) (by omega)
            have nC := HN.out.c k (by omega) (by omega)
            clear hf2 hf3 hg2 hg3 hh2 hh3 hfs hgs hhs
            generalize gi F k = f at *
            generalize gi G k = g at *
            generalize gi H k = h at *
            have HX : Hid ((f < 0 ∧ g < 0 ∧ h < 0) ∨ (0 ≤ f ∧ g < 0 ∧ 0 ≤ h ∧ f ≤ h) ∨ (0 ≤ f ∧ 0 ≤ g ∧ f ≤ g ∧ 0 ≤ h ∧ f ≤ h)) := by
              show _ ∨ _
              by_cases e : 0 ≤ f
              · have := nC.2 e
                have := nB this
                by_cases e2 : 0 ≤ g
                · exact .inr (.inr ⟨e, e2, (nA e2).2, by omega, by omega⟩)
                · exact .inr (.inl ⟨e, by omega, by omega, by omega⟩)
              · refine .inl ⟨by omega, ?_, ?_⟩
                · rcases Int.lt_or_le g 0 with q | q
                  · exact q
                  · exact absurd (nA q).1 e
                · rcases Int.lt_or_le h 0 with q | q
                  · exact q
                  · exact absurd (nC.1 q) e
            clear nA nB nC
            go_upto_region 16 with fail
            rcases HX.out with ⟨e1, e2, e3⟩ | ⟨e1, e2, e3, e4⟩ | ⟨e1, e2, e3, e4, e5⟩
            · have t1 : decide (0 ≤ g) = false := by simp; omega
              have t2 : decide (0 ≤ h) = false := by simp; omega
              have t3 : decide (h < 0) = true := by simpa using e3
              have t4 : decide (f < 0) = true := by simpa using e1
              clear e1 e2 e3
              go_quiet (fail)
              have HBn : Hid (Below w8.heap.size w8 (wr.drewN nq)) := HBW.out.trans ⟨rfl, rfl, rfl, Nat.le_refl _, fun _ _ => rfl⟩
              go_wp2_with fail
              go_roundw
              case rel => exact ⟨k + 1, hlt, by go_num, ⟨HBn.out.os, HBn.out.tape, HBn.out.output, HBn.out.size, HBn.out.block⟩⟩
              case measure => simp [intOf]; omega
            · have t1 : decide (0 ≤ g) = false := by simp; omega
              have t2 : decide (0 ≤ h) = true := by simpa using e3
              have t3 : decide (h < 0) = false := by simp; omega
              have t4 : decide (f < 0) = false := by simp; omega
              have t5 : decide (h < f) = false := by simp; omega
              clear e1 e2 e3 e4
              go_quiet (fail)
              have HBn : Hid (Below w8.heap.size w8 (wr.drewN nq)) := HBW.out.trans ⟨rfl, rfl, rfl, Nat.le_refl _, fun _ _ => rfl⟩
              go_wp2_with fail
              go_roundw
              case rel => exact ⟨k + 1, hlt, by go_num, ⟨HBn.out.os, HBn.out.tape, HBn.out.output, HBn.out.size, HBn.out.block⟩⟩
              case measure => simp [intOf]; omega
            · have t1 : decide (0 ≤ g) = true := by simpa using e2
              have t2 : decide (0 ≤ h) = true := by simpa using e4
              have t3 : decide (h < 0) = false := by simp; omega
              have t4 : decide (f < 0) = false := by simp; omega
              have t5 : decide (h < f) = false := by simp; omega
              have t6 : decide (g < f) = false := by simp; omega
              clear e1 e2 e3 e4 e5
              go_quiet (fail)
              have HBn : Hid (Below w8.heap.size w8 (wr.drewN nq)) := HBW.out.trans ⟨rfl, rfl, rfl, Nat.le_refl _, fun _ _ => rfl⟩
              go_wp2_with fail
              go_roundw
              case rel => exact ⟨k + 1, hlt, by go_num, ⟨HBn.out.os, HBn.out.tape, HBn.out.output, HBn.out.size, HBn.out.block⟩⟩
              case measure => simp [intOf]; omega
          · obtain rfl : k = N := by omega
            have hf := HFIN.out wr HBW.out
            have HF := Lib.hid hf
            clear hf
            go_wp2_with fail
            exact HF.out
theorem lmore12_row (x0 : Int) (v1 : Value) (z1 : List Ed) (v2 : Value) (z2 : List Int) (x3 x4 x5 : Int) (W : World) (b0 : -9223372036854775808 ≤ x0) (c0 : x0 ≤ 9223372036854775807) (h1 : EdgesAt W v1 z1 ∧ RawB z1) (h2 : IntsAt W v2 z2 ∧ z2.length * 8 ≤ 140737488351232)
    (b3 : -9223372036854775808 ≤ x3) (c3 : x3 ≤ 9223372036854775807) (b4 : -9223372036854775808 ≤ x4) (c4 : x4 ≤ 9223372036854775807) (b5 : -9223372036854775808 ≤ x5) (c5 : x5 ≤ 9223372036854775807) :
    Calls Try.prog 6 #[.int .i64 x0, v1, v2, .int .i64 x3, .int .i64 x4, .int .i64 x5] W (Ret (.bool true) W) :=
  lmore12_walk x0 ⟨b0, c0⟩ v1 z1 h1.1 h1.2 v2 z2 h2.1 h2.2 x3 x4 x5 ⟨b3, c3⟩ ⟨b4, c4⟩ ⟨b5, c5⟩
end Go.Proofs.Ythmblgfcjbiomaa.Rt
