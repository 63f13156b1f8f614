import Derived.Test.YtmlpefpjemiccaaGreatDoorSm
import Derived.Test.YtmlpefpjemiccaaGreatDoorDecB
import Derived.Lib.QuietBelow
import Derived.BigQuiet
/- The document's Same. -/
set_option linter.unusedVariables false
set_option linter.unusedSimpArgs false
namespace Go.Proofs.YtmlpefpjemiccaaGreatDoor.Js
open Go.RowKit Lex Go.Sort

/-- Two boxes of one's own, and all else as it was. -/
def Box2 (w : World) (c d : Array Value) (T : TypeId) (wr : World) : Prop := Below w.heap.size w wr ∧ wr.heap[w.heap.size]? = some (.cells c T (0, 0)) ∧ wr.heap[w.heap.size + 1]? = some (.cells d T (0, 0))
theorem Box2.begin (w : World) (c d : Array Value) (T : TypeId) : Box2 w c d T ((w.alloc (.cells c T)).alloc (.cells d T)) :=
  ⟨((Below.refl _ _).alloc (Nat.le_refl _) _).alloc (by simp) _, two_old w _ _, two_new w _ _⟩
theorem Box2.below {w : World} {c d : Array Value} {T : TypeId} {wr w' : World} (h : Box2 w c d T wr) (hb : Below wr.heap.size wr w') : Box2 w c d T w' :=
  ⟨h.1.trans (hb.mono h.1.size), (hb.block _ (Own.block_lt h.2.1)).trans h.2.1, (hb.block _ (Own.block_lt h.2.2)).trans h.2.2⟩
theorem six_of' {w : World} {b : Nat} {T : TypeId} {f : Nat × Nat} {c0 c1 c2 c3 c4 c5 : Value} (h : w.heap[b]? = some (.cells #[c0, c1, c2, c3, c4, c5] T f)) : w.cell? ⟨b, 4, none⟩ = some c4 ∧ w.cell? ⟨b, 5, none⟩ = some c5 := by
  have k : ∀ i, w.cell? ⟨b, i, none⟩ = (#[c0, c1, c2, c3, c4, c5] : Array Value)[i]? := fun i => cell_of_row _ _ _ _ _ _ h
  exact ⟨k 4, k 5⟩

set_option maxHeartbeats 8000000 in
set_option maxRecDepth 100000 in
theorem rsame_any (S S' : Nat → Prop) : ∀ (d d2 : Nat) (v1 v2 : Value) (j1 j2 : J) (w : World), JAt S w d v1 j1 → JAt S' w d2 v2 j2 → Calls Tryz.prog 12 #[v1, v2] w (Ret (.bool (sameJ j1 j2)) w) := by
  intro d
  induction d with
  | zero => intro d2 v1 v2 j1 j2 w h; exact h.elim
  | succ d ih =>
    intro d2 v1 v2 j1 j2 w h1 h2
    obtain ⟨k, m, e, t, ns, is⟩ := j1
    obtain ⟨k', m', e', t', ns', is'⟩ := j2
    obtain ⟨d', an, cn, ai, ci, hd', rfl, _, _, _, _, hns, _, hn, _, hi, hit⟩ := h1.open_
    obtain rfl : d' = d := by omega
    obtain ⟨d3, an', cn', ai', ci', hd3, rfl, _, _, _, _, hns', _, hn', _, hi', hit'⟩ := h2.open_
    have hb : ∀ o o', Below w.heap.size w ((w.alloc o).alloc o') := fun o o' => ((Below.refl _ _).alloc (Nat.le_refl _) _).alloc (by simp) _
    have HB := Lib.hid hb
    have IH := Lib.hid ih
    obtain ⟨_, _, e1, _, _, _, hc1⟩ := hns
    obtain ⟨_, _, e2, _, _, _, hc2⟩ := hns'
    cases e1
    cases e2
    have H1 := Lib.hid hc1
    have H2 := Lib.hid hc2
    have I1 := Lib.hid hit
    have I2 := Lib.hid hit'
    clear ih h1 h2 hc1 hc2 hit hit' hb hd' hd3
    rw [sameJ]
    by_cases hk : k = k'
    · subst hk
      by_cases hm : m = m' ∧ e = e'
      · obtain ⟨rfl, rfl⟩ := hm
        by_cases ht : t = t'
        · subst ht
          by_cases hln : ns.length = ns'.length
          · by_cases hli : is.length = is'.length
            · rw [← hln] at H2 hn' ⊢
              rw [← hli] at I2 hi' ⊢
              obtain ⟨nn, HN⟩ : ∃ n, Hid (ns.length = n) := ⟨_, rfl⟩
              have HN2 : Hid (ns'.length = nn) := hln.symm.trans HN.out
              obtain ⟨ni, HI⟩ : ∃ n, Hid (is.length = n) := ⟨_, rfl⟩
              have HI2 : Hid (is'.length = ni) := hli.symm.trans HI.out
              clear hln hli
              rw [HN.out] at H1 H2 hn hn' ⊢
              rw [HI.out] at I1 I2 hi hi' ⊢
              obtain ⟨R, HR⟩ : ∃ R, Hid ((ns == ns') = R) := ⟨_, rfl⟩
              obtain ⟨R2, HR2⟩ : ∃ R, Hid (sameL is is' = R) := ⟨_, rfl⟩
              rw [HR.out, HR2.out]
              have hres : ((k == k && (m == m && e == e)) && (t == t && (R && R2))) = (R && R2) := by simp
              rw [hres]
              clear hres
              go_enter Tryz.func12, Tryz.ntmps12
              go_wp2_with fail
              go_loopw [5] (fun i wr => ∃ q : Nat, q ≤ nn ∧ i = .int .i64 q ∧ Hid (Box2 w #[.int .i64 k, .int .i64 m, .int .i64 e, .string ⟨t.toArray⟩, .slice an nn cn, .slice ai ni ci] #[.int .i64 k, .int .i64 m, .int .i64 e, .string ⟨t.toArray⟩, .slice an' nn cn', .slice ai' ni ci'] 27 wr) ∧ Hid (R = (ns.drop q == ns'.drop q))) (fun i _ => nn - (intOf i).toNat)
              case atStart => exact ⟨0, Nat.zero_le _, rfl, Box2.begin _ _ _ _, HR.out.symm⟩
              case round =>
                obtain ⟨q, hq, rfl, HX, HK⟩ := hrel
                obtain ⟨c4, c5⟩ := six_of' HX.out.2.1
                obtain ⟨d4, d5⟩ := six_of' HX.out.2.2
                have hl1 := Own.block_lt HX.out.2.1
                have hl2 := Own.block_lt HX.out.2.2
                by_cases hlt : q < nn
                · obtain ⟨b1, o1, rfl, _, hb1, hx1⟩ := H1.out (by omega)
                  obtain ⟨b2, o2, rfl, _, hb2, hx2⟩ := H2.out (by omega)
                  have x1 := (HX.out.1.cell (p := ⟨b1, o1 + q, none⟩) hb1).trans (hx1 q hlt)
                  have x2 := (HX.out.1.cell (p := ⟨b2, o2 + q, none⟩) hb2).trans (hx2 q hlt)
                  have HS := Lib.hid (drop_beq ns ns' q [] (by rw [HN.out]; exact hlt) (by rw [HN2.out]; exact hlt))
                  unfold strW at x1 x2
                  have i1 : (q : Int) < (nn : Int) := by omega
                  clear hx1 hx2 H1 H2
                  generalize ns.getD q [] = X at *
                  generalize ns'.getD q [] = Y at *
                  by_cases hxy : X = Y
                  · subst hxy
                    go_wp2_with fail
                    go_quiet (fail)
                    go_wp2_with fail
                    go_roundw
                    case rel => exact ⟨q + 1, by omega, by go_num, HX.out.below (below_drewN (Below.refl _ _) _), by show _ = _; rw [HK.out, HS.out]; simp⟩
                    case measure => simp [intOf]; omega
                  · have hne : (X == Y) = false := by simpa using hxy
                    go_wp2_with fail
                    go_quiet (fail)
                    go_wp2_with fail
                    go_ret
                    exact ⟨Quo.ret_bool (by rw [HK.out, HS.out, hne]; rfl), below_drewN HX.out.1 _⟩
                · have HE : Hid (R = true) := by show _ = _; rw [HK.out, List.drop_of_length_le (by rw [HN.out]; omega), List.drop_of_length_le (by rw [HN2.out]; omega)]; rfl
                  have HE1 := Lib.hid HE.out
                  clear HE HK HR H1 H2
                  go_wp2_with fail
                  go_loopw [6] (fun i wr => ∃ q : Nat, q ≤ ni ∧ i = .int .i64 q ∧ Hid (Box2 w #[.int .i64 k, .int .i64 m, .int .i64 e, .string ⟨t.toArray⟩, .slice an nn cn, .slice ai ni ci] #[.int .i64 k, .int .i64 m, .int .i64 e, .string ⟨t.toArray⟩, .slice an' nn cn', .slice ai' ni ci'] 27 wr) ∧ Hid (R2 = sameL (is.drop q) (is'.drop q))) (fun i _ => ni - (intOf i).toNat)
                  case atStart => exact ⟨0, Nat.zero_le _, rfl, HX, HR2.out.symm⟩
                  case round =>
                    clear c4 c5 d4 d5 hl1 hl2 HX hlt hq
                    obtain ⟨q, hq, rfl, HX, HK⟩ := hrel
                    obtain ⟨c4, c5⟩ := six_of' HX.out.2.1
                    obtain ⟨d4, d5⟩ := six_of' HX.out.2.2
                    have hl1 := Own.block_lt HX.out.2.1
                    have hl2 := Own.block_lt HX.out.2.2
                    by_cases hlt : q < ni
                    · obtain ⟨b1, o1, rfl, _, hb1, hx1⟩ := I1.out (by omega)
                      obtain ⟨b2, o2, rfl, _, hb2, hx2⟩ := I2.out (by omega)
                      obtain ⟨u, hu1, hu2⟩ := hx1 q hlt
                      obtain ⟨v, hv1, hv2⟩ := hx2 q hlt
                      obtain ⟨k1, m1, e1, t1, an1, nn1, cn1, ai1, ni1, ci1, rfl⟩ := jAt_form hu2
                      obtain ⟨k2, m2, e2, t2, an2, nn2, cn2, ai2, ni2, ci2, rfl⟩ := jAt_form hv2
                      obtain ⟨x0, x1, x2, x3, x4, x5⟩ := (hu1.keep (HX.out.1.block b1 hb1)).six
                      obtain ⟨y0, y1, y2, y3, y4, y5⟩ := (hv1.keep (HX.out.1.block b2 hb2)).six
                      have HS := Lib.hid (sameL_step is is' q (by rw [HI.out]; exact hlt) (by rw [HI2.out]; exact hlt))
                      have hJ1 := hu2.below HX.out.1 (Nat.le_refl _)
                      have hJ2 := hv2.below HX.out.1 (Nat.le_refl _)
                      have C1 := Lib.hid (fun (dd : Nat) (os : Array Obj) => Calls.regrown_of (w := wr) (d := dd) (os := os) (IH.out _ _ _ _ _ _ (hJ1.below (below_regrown wr dd os) (Nat.le_refl _)) (hJ2.below (below_regrown wr dd os) (Nat.le_refl _))))
                      generalize sameJ (is.getD q j0) (is'.getD q j0) = r at *
                      have q1 : (q : Int) < (ni : Int) := by omega
                      have c5' := cell_regrown c5
                      have d5' := cell_regrown d5
                      have x0' := cell_regrown x0
                      have x1' := cell_regrown x1
                      have x2' := cell_regrown x2
                      have x3' := cell_regrown x3
                      have x4' := cell_regrown x4
                      have x5' := cell_regrown x5
                      have y0' := cell_regrown y0
                      have y1' := cell_regrown y1
                      have y2' := cell_regrown y2
                      have y3' := cell_regrown y3
                      have y4' := cell_regrown y4
                      have y5' := cell_regrown y5
                      clear hx1 hx2 I1 I2 hu1 hu2 hv1 hv2 hJ1 hJ2 IH
                      go_wp2_with fail
                      clear x0 x1 x2 x3 x4 x5 y0 y1 y2 y3 y4 y5 c4 c5 d4 d5
                      refine wp_region_quiet_below Dec.mixed (by kernel_rfl) ?_
                      repeat (quiet_step (with_reducible exact C1.out _ _))
                      refine wpQuiet_nil ?_
                      intro _ hw'
                      obtain ⟨⟨dq, osq⟩, hw''⟩ := hw'
                      subst hw''
                      have HX2 := Lib.hid (HX.out.below (below_regrown wr dq osq))
                      cases r with
                      | true =>
                        go_wp2_with fail
                        go_roundw
                        case rel => exact ⟨q + 1, by omega, by go_num, HX2, by show _ = _; rw [HK.out, HS.out]; simp⟩
                        case measure => simp [intOf]; omega
                      | false =>
                        go_wp2_with fail
                        go_ret
                        exact ⟨Quo.ret_bool (by rw [HE1.out, HK.out, HS.out]; rfl), HX2.out.1⟩
                    · have HE : Hid (R2 = true) := by show _ = _; rw [HK.out, List.drop_of_length_le (by rw [HI.out]; omega), List.drop_of_length_le (by rw [HI2.out]; omega)]; rfl
                      go_wp2_with fail
                      go_ret
                      exact ⟨Quo.ret_bool (by rw [HE1.out, HE.out]; rfl), HX.out.1⟩
            · have hres : ((k == k && (m == m && e == e)) && (t == t && (ns == ns' && sameL is is'))) = false := by rw [sameL_len hli]; simp
              rw [hres]
              have hl2 : ((is.length : Int) != (is'.length : Int)) = true := by simp; omega
              rw [← hln]
              clear hres
              generalize is.length = ni at *
              generalize is'.length = ni' at *
              generalize ns.length = nn at *
              go_enter Tryz.func12, Tryz.ntmps12
              go_wp2_with fail
              go_ret
              exact ⟨rfl, HB.out _ _⟩
          · have hres : ((k == k && (m == m && e == e)) && (t == t && (ns == ns' && sameL is is'))) = false := by rw [len_bne hln]; simp
            rw [hres]
            have hl2 : ((ns.length : Int) != (ns'.length : Int)) = true := by simp; omega
            clear hres
            generalize is.length = ni at *
            generalize is'.length = ni' at *
            generalize ns.length = nn at *
            generalize ns'.length = nn' at *
            go_enter Tryz.func12, Tryz.ntmps12
            go_wp2_with fail
            go_ret
            exact ⟨rfl, HB.out _ _⟩
        · have hne : (t == t') = false := by simpa using ht
          have hres : ((k == k && (m == m && e == e)) && (t == t' && (ns == ns' && sameL is is'))) = false := by rw [hne]; simp
          rw [hres]
          go_enter Tryz.func12, Tryz.ntmps12
          go_wp2_with fail
          go_ret
          exact ⟨rfl, HB.out _ _⟩
      · have hres : ((k == k && (m == m' && e == e')) && (t == t' && (ns == ns' && sameL is is'))) = false := by
          have : (m == m' && e == e') = false := by rw [Bool.eq_false_iff]; intro h; simp at h; exact hm h
          rw [this]; simp
        rw [hres]
        by_cases hm1 : m = m'
        · subst hm1
          have hne : (e == e') = false := by simpa using hm
          go_enter Tryz.func12, Tryz.ntmps12
          go_wp2_with fail
          go_ret
          exact ⟨rfl, HB.out _ _⟩
        · have hne : (m == m') = false := by simpa using hm1
          go_enter Tryz.func12, Tryz.ntmps12
          go_wp2_with fail
          go_ret
          exact ⟨rfl, HB.out _ _⟩
    · have hne : (k == k') = false := by simpa using hk
      have hres : ((k == k' && (m == m' && e == e')) && (t == t' && (ns == ns' && sameL is is'))) = false := by rw [hne]; simp
      rw [hres]
      go_enter Tryz.func12, Tryz.ntmps12
      go_wp2_with fail
      go_ret
      exact ⟨rfl, HB.out _ _⟩
theorem rsame_of (S S' : Nat → Prop) (v1 v2 : Value) (j1 j2 : J) (w : World) (h1 : JA S w v1 j1) (h2 : JA S' w v2 j2) : Calls Tryz.prog 12 #[v1, v2] w (Ret (.bool (sameJ j1 j2)) w) := by
  obtain ⟨d1, h1⟩ := h1
  obtain ⟨d2, h2⟩ := h2
  exact rsame_any S S' d1 d2 v1 v2 j1 j2 w h1 h2
end Go.Proofs.YtmlpefpjemiccaaGreatDoor.Js
