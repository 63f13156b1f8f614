import Derived.Test.YtkmiemaigalgpaaRm
/- The document's Make. -/
set_option linter.unusedVariables false
set_option linter.unusedSimpArgs false
namespace Go.Proofs.Ytkmiemaigalgpaa.Js
open Go.RowKit Lex

theorem Own3.jat7 {base n : Nat} {nv iv : Value} {ns : List (List UInt8)} {vs : List Value} {acc : List J} {w : World} (h : Own3 base n nv iv ns vs acc w) (hn : ns.length ≤ 1000000) (ha : acc.length ≤ 1000000) : JAt Any w (n + 1) (.agg #[.int .i64 7, .int .i64 0, .int .i64 0, .string ⟨#[]⟩, nv, iv]) (.mk 7 0 0 [] ns acc) := by
  obtain ⟨ai, ci, rfl⟩ := own_slice h.irow
  obtain ⟨_, hc, hI⟩ := h.its
  exact ⟨nv, ai, ci, rfl, ⟨by decide, by decide⟩, ⟨by decide, by decide⟩, ⟨by decide, by decide⟩, by unfold txtB; simp, h.strs hn, hc, by omega, hI⟩
theorem MR.fin {w : World} {d : Nat} {nv iv : Value} {ns : List (List UInt8)} {vs : List Value} {acc : List J} {wr : World} (h : MR w d nv iv ns vs acc wr) (hn : ns.length ≤ 1000000) (ha : acc.length ≤ 1000000) (c0 c1 c2 c3 c4 c5 : Value) :
    JAt Any (put6 wr w.heap.size 0 c0 c1 c2 c3 c4 c5) (d + 1) (.agg #[.int .i64 7, .int .i64 0, .int .i64 0, .string ⟨#[]⟩, nv, iv]) (.mk 7 0 0 [] ns acc) ∧ Below w.heap.size w (put6 wr w.heap.size 0 c0 c1 c2 c3 c4 c5) := by
  have hs := h.sz
  have hO : Own3 0 d nv iv ns vs acc (put6 wr w.heap.size 0 c0 c1 c2 c3 c4 c5) := ⟨row_keep h.own3.irow (fun g e hl => put6_block _ _ 0 _ _ _ _ _ _ g (by have := (h.irow.lt g e).1; omega)), row_keep h.own3.nrow (fun g e hl => put6_block _ _ 0 _ _ _ _ _ _ g (by have := (h.nrow.lt g e).1; omega)), h.vl, h.txt, fun i hi => by
    refine (h.items i hi).keep (fun b hb _ => ⟨Nat.zero_le _, fun e => ?_, fun e => ?_⟩) (fun b hb hl => (put6_block _ _ 0 _ _ _ _ _ _ b (by have h' : b < w.heap.size := hb; omega)).trans (h.bel.block b hl)) (by rw [put6_size]; omega)
    · have := (h.irow.lt b e.symm).1; omega
    · have := (h.nrow.lt b e.symm).1; omega⟩
  exact ⟨hO.jat7 hn ha, below_put6' h.bel (Nat.le_refl _) _ _ _ _ _ _⟩

set_option maxHeartbeats 8000000 in
set_option maxRecDepth 100000 in
theorem rmake5_any (d : Nat) (w : World) (an : Option Addr) (cn : Nat) (ai : Option Addr) (ci : Nat) (names : List (List UInt8)) (items : List J) (hN : StrsAt Any w (.slice an names.length cn) names) (hl : items.length ≤ 1599289640354) (hc : items.length ≤ ci) (hI : ItemsAt Any w d ai items)
    (hm : min names.length items.length ≤ 1000000) : Calls Try.prog 7 #[.slice an names.length cn, .slice ai items.length ci] w (fun e w' => ∃ nn cn' ni ci' a a', e = .returned (.agg #[.int .i64 7, .int .i64 0, .int .i64 0, .string ⟨#[]⟩, .slice a nn cn', .slice a' ni ci']) ∧ JAt Any w' (d + 1) (.agg #[.int .i64 7, .int .i64 0, .int .i64 0, .string ⟨#[]⟩, .slice a nn cn', .slice a' ni ci']) (mkJ names items) ∧ Below w.heap.size w w') := by
  obtain ⟨_, _, e1, hn1, hn2, htx, hcn⟩ := hN
  cases e1
  have HX := Lib.hid htx
  have HCN := Lib.hid hcn
  have HIT : Hid (ItemsAt Any w d ai items) := hI
  obtain ⟨i0, hi0, hz0, hz1, hz2⟩ := info_parts json_info
  obtain ⟨i1, hi1, hx0, hx1, hx2⟩ := info_parts str_info2
  obtain ⟨FN, HFN⟩ : ∃ FN, Hid (mkL names items [] [] = FN) := ⟨_, rfl⟩
  unfold mkJ
  rw [HFN.out]
  clear htx hcn hI
  obtain ⟨nn, HNN⟩ : ∃ n, Hid (names.length = n) := ⟨_, rfl⟩
  obtain ⟨ni, HNI⟩ : ∃ n, Hid (items.length = n) := ⟨_, rfl⟩
  rw [HNN.out] at hn1 hn2 hm ⊢
  rw [HNI.out] at hl hc hm ⊢
  go_enter Try.func7, Try.ntmps7
  go_wp2_with fail
  go_loopw [6] (fun i wr => ∃ (q : Nat) (nv iv : Value) (ns : List (List UInt8)) (vs : List Value) (acc : List J), q ≤ nn ∧ q ≤ ni ∧ i = .int .i64 (q : Int) ∧ Hid (mkL (names.drop q) (items.drop q) ns acc = FN) ∧ acc.length ≤ q ∧ ns.length = acc.length ∧ Hid (MR w d nv iv ns vs acc wr)) (fun i _ => nn - (intOf i).toNat)
  case atStart => exact ⟨0, _, _, [], [], [], Nat.zero_le _, Nat.zero_le _, rfl, HFN, by simp, by simp, MR.begin w d⟩
  case round =>
    clear HFN
    obtain ⟨q, nv, iv, ns, vs, acc, hq1, hq2, rfl, HF, hal, hnl, HI⟩ := hrel
    have HNL := Lib.hid hnl
    clear hnl
    have hsz := HI.out.sz
    by_cases hlt : q < nn ∧ q < ni
    · obtain ⟨hl1, hl2⟩ := hlt
      have a2 : (q : Int) < (nn : Int) := by omega
      have a3 : (q : Int) < (ni : Int) := by omega
      have hal1 : acc.length ≤ 1000000 := by omega
      have hnl1 : ns.length ≤ 1000000 := by rw [HNL.out]; omega
      obtain ⟨bn, on, rfl, _, hbn, hxn⟩ := HCN.out (by rw [HNN.out]; omega)
      have x1 := (World.cell?_of_block (w := wr) (a := ⟨bn, on + q, none⟩) rfl).trans ((World.cell?_of_block (w := w) (a := ⟨bn, on + q, none⟩) (HI.out.bel.block bn hbn)).trans (hxn q (by rw [HNN.out]; omega)))
      have HST := Lib.hid (mkL_step names items q (by rw [HNN.out]; exact hl1) (by rw [HNI.out]; exact hl2) ns acc)
      have HNM : Hid (txtB (names.getD q [])) := HX.out _ (by rw [List.getD_eq_getElem?_getD, List.getElem?_eq_getElem (by rw [HNN.out]; exact hl1)]; exact List.getElem_mem _)
      have hbnr : bn < wr.heap.size := Nat.lt_of_lt_of_le hbn HI.out.bel.size
      unfold strW at x1
      generalize names.getD q [] = nm at *
      obtain ⟨ano, capn, rfl⟩ := own_slice HI.out.nrow
      obtain ⟨aio, capi, rfl⟩ := own_slice HI.out.irow
      obtain ⟨y0, y1, y2, y3, y4, y5⟩ := six_of HI.out.blk
      have hvbl : w.heap.size + 1 < wr.heap.size := by omega
      have hJr : JAt (fun b => b < wr.heap.size) wr (d + 1) (.agg #[.int .i64 7, .int .i64 0, .int .i64 0, .string ⟨#[]⟩, .slice ano ns.length capn, .slice aio acc.length capi]) (.mk 7 0 0 [] ns acc) := (HI.out.jat hnl1 hal1).keep (fun b _ hb => hb) (fun _ _ _ => rfl) (Nat.le_refl _)
      have GA := Lib.hid (rget_any _ (d + 1) _ _ nm wr.drew (hJr.below (Below.refl _ _).drew (Nat.le_refl _)))
      have GB := Lib.hid (rget_any _ (d + 1) _ _ nm (wr.alloc (.cells #[.int .i64 0, .int .i64 0, .int .i64 0, .string ⟨#[]⟩, .slice none 0 0, .slice none 0 0] 27)).drew (hJr.below ((Below.refl _ _).alloc (Nat.le_refl _) _).drew (Nat.le_refl _)))
      have HG2 := Lib.hid (getS_two (k := 7) (m := 0) (e := 0) (t := []) rfl HNL.out nm)
      unfold RG at GA GB
      generalize getS (.mk 7 0 0 [] ns acc) nm = G at *
      clear hxn hJr
      go_upto_region 5 with fail
      go_cut [7, 8] from 22 to 30 (fun s6 s7 wy => Hid (XB wr (d + 1) G s6 s7 wy))
      case first =>
        go_region_law (first
          | (go_simp; go_at_call 9; (with_reducible refine (GA.out).mono ?_); rintro e5 w5 ⟨k5, m5, e5', t5, an5, nn5, cn5, ai5, ni5, ci5, rfl, hJ5, hb5⟩; have HB5 := Lib.hid (((Below.refl _ _).drew).trans hb5 : Below wr.heap.size wr w5); have HJ5 := Lib.hid (hJ5.below hb5 (Nat.le_refl _)))
          | (go_simp; go_at_call 9; (with_reducible refine (GB.out).mono ?_); rintro e5 w5 ⟨k5, m5, e5', t5, an5, nn5, cn5, ai5, ni5, ci5, rfl, hJ5, hb5⟩; have HZ5 := Lib.hid ((hb5.block _ (by show wr.heap.size < (wr.alloc (.cells #[.int .i64 0, .int .i64 0, .int .i64 0, .string ⟨#[]⟩, .slice none 0 0, .slice none 0 0] 27)).heap.size; simp)).trans (heap_alloc_new wr (.cells #[.int .i64 0, .int .i64 0, .int .i64 0, .string ⟨#[]⟩, .slice none 0 0, .slice none 0 0] 27)) : w5.heap[wr.heap.size]? = some (.cells #[.int .i64 0, .int .i64 0, .int .i64 0, .string ⟨#[]⟩, .slice none 0 0, .slice none 0 0] 27 (0, 0))); obtain ⟨⟨z0, z1, z2, z3, z4, z5⟩, g0, g1, g2, g3, g4, g5⟩ := twelve_of HZ5.out; have HB5 := Lib.hid ((((Below.refl _ _).alloc (Nat.le_refl _) _).drew).trans (hb5.mono (by show wr.heap.size ≤ (wr.alloc (.cells #[.int .i64 0, .int .i64 0, .int .i64 0, .string ⟨#[]⟩, .slice none 0 0, .slice none 0 0] 27)).heap.size; simp)) : Below wr.heap.size wr w5); have HJ5 := Lib.hid (hJ5.below hb5 (Nat.le_refl _))))
        all_goals go_wp2_with fail
        all_goals go_meet
        all_goals first
          | (with_reducible exact Lib.hid (XB.ofA HB5.out HJ5.out))
          | (with_reducible exact Lib.hid (XB.ofB HB5.out HZ5.out HJ5.out))
      case rest =>
        obtain ⟨bx, k6, m6, e6, t6, an6, nn6, cn6, ai6, ni6, ci6, rfl, rfl, hb6, _, _⟩ := hcut.out
        have HM := Lib.hid (HI.out.below hb6 (Nat.le_refl _))
        rw [HG2.out]
        have x2 := (hb6.cell (p := ⟨bn, on + q, none⟩) hbnr).trans x1
        have hbn1 : bn < wc.heap.size := Nat.lt_of_lt_of_le hbnr hb6.size
        clear x1 y0 y1 y2 y3 y4 y5 GA GB HI hcut hb6 hbnr
        cases hcc : ns.contains nm with
        | true =>
          have HCC := Lib.hid hcc
          clear hcc
          go_wp2_with fail
          go_roundw
          case rel => exact ⟨q + 1, _, _, ns, vs, acc, by omega, by omega, by go_num, by show _ = _; rw [← HF.out, HST.out, if_pos HCC.out], by omega, HNL.out, HM⟩
          case measure => simp [intOf]; omega
        | false =>
          have HCC := Lib.hid hcc
          clear hcc
          have hsz1 := HM.out.sz
          go_upto_region 7 with fail
          go_cut [33] from 33 to 41 (fun pv wx => Hid (∃ nv2, MR w d nv2 (.slice aio acc.length capi) (ns ++ [nm]) vs acc wx))
          case first =>
            obtain ⟨y0, y1, y2, y3, y4, y5⟩ := six_of HM.out.blk
            have yf := free_of HM.out.blk 4
            have hbl1 : w.heap.size + 1 < wc.heap.size := Own.block_lt HM.out.blk
            have hnbv : some (w.heap.size + 1) ≠ (Value.slice ano ns.length capn).ownBlock := fun h => by have := (HM.out.nrow.lt _ h.symm).1; omega
            have HNBV := Lib.hid hnbv
            clear hnbv
            go_region_law ((refine step_append_lies _ (by rfl) _ _ _ (by rfl) (w.heap.size + 2) 9 i1 _ 1 16 Try.underlying24 hi1 hx0 hx1 hx2 rfl (by omega) _ ns.length (ns.map strW) (by rfl) ((HM.out.nrow.drew).alloc _) ⟨wc.heap.size, 0, none⟩ 1 1 [.string ⟨nm.toArray⟩] (by rfl) (by rfl) (World.news_of_block (cs := #[.string ⟨nm.toArray⟩]) (t := 9) (fr := (0, 0)) (heap_alloc_new _ _)) (by simp [Value.oneCell']) (by omega) (by unfold maxLen; omega) (by omega) (by simp; omega) (wc.heap.size + 1) (by simp) ?_; intro g cp w3 hown hgrow hat hlt; have k4 := (hgrow.cell_far ⟨w.heap.size + 1, 4, none⟩ (by simp; omega) HNBV.out).trans ((World.cell?_of_block (w := wc) (a := ⟨w.heap.size + 1, 4, none⟩) (Below.heap_alloc _ _ _ (by show w.heap.size + 1 < wc.heap.size; omega))).trans y4); have kf := (hgrow.frozen_far ⟨w.heap.size + 1, 4, none⟩ (by simp; omega) HNBV.out).trans ((World.frozen?_of_block (w := wc) (a := ⟨w.heap.size + 1, 4, none⟩) (Below.heap_alloc _ _ _ (by show w.heap.size + 1 < wc.heap.size; omega))).trans yf)))
            all_goals go_wp2_with fail
            all_goals go_meet
            all_goals exact ⟨_, HM.out.name hgrow ((Below.refl _ _).drew.alloc (Nat.le_refl _) _) (hat.imp id (fun h => by omega)) HNM.out hown⟩
          case rest =>
            obtain ⟨nv2, hM2⟩ := hcut.out
            have HM2 := Lib.hid hM2
            have HF2 : Hid (mkL (names.drop (q + 1)) (items.drop (q + 1)) (ns ++ [nm]) (acc ++ [items.getD q j0]) = FN) := by
              show _ = _
              rw [← HF.out, HST.out, if_neg (by rw [HCC.out]; simp)]
            clear HM x2 hbn1 hsz hsz1 hM2 hcut
            obtain ⟨bi, oi, c0, c1, c2, c3, c4, c5, rfl, hbi, hli, hJi⟩ := item_at (P := (q : Int)) HIT.out (by omega) (by rw [HNI.out]; exact a3)
            rw [show ((q : Int)).toNat = q from rfl] at hli hJi
            have HJI := Lib.hid (hJi.keep (S' := fun b => b < w.heap.size) (fun b _ hb => hb) (fun _ _ _ => rfl) (Nat.le_refl _))
            obtain ⟨k3, m3, e3', t3, an3, nn3, cn3, ai3, ni3, ci3, ev⟩ := jAt_form hJi
            cases ev
            generalize items.getD q j0 = y at *
            generalize wc = w2 at *
            have hsz2 := HM2.out.sz
            obtain ⟨v0, v1, v2, v3, v4, v5⟩ := (hli.keep (HM2.out.bel.block bi hbi)).six
            have hbi2 : bi < w2.heap.size := by have := HM2.out.bel.size; omega
            obtain ⟨y0, y1, y2, y3, y4, y5⟩ := six_of HM2.out.blk
            have yf := free_of HM2.out.blk 5
            have hbl2 : w.heap.size + 1 < w2.heap.size := Own.block_lt HM2.out.blk
            have hnbv : some (w.heap.size + 1) ≠ (Value.slice aio acc.length capi).ownBlock := fun h => by have := (HM2.out.irow.lt _ h.symm).1; omega
            have HNBV := Lib.hid hnbv
            clear hnbv hli hJi
            go_wp2_with fail
            go_region_law ((refine step_append_lies _ (by rfl) _ _ _ (by rfl) (w.heap.size + 2) 27 i0 _ 6 88 Try.underlying25 hi0 hz0 hz1 hz2 rfl (by omega) _ acc.length (vs.flatMap aggC) (by rfl) ((HM2.out.irow.drew).alloc _) ⟨w2.heap.size, 0, none⟩ 1 1 [.int .i64 k3, .int .i64 m3, .int .i64 e3', .string t3, .slice an3 nn3 cn3, .slice ai3 ni3 ci3] (by rfl) (by rfl) (World.news_of_block (cs := #[.int .i64 k3, .int .i64 m3, .int .i64 e3', .string t3, .slice an3 nn3 cn3, .slice ai3 ni3 ci3]) (t := 27) (fr := (0, 0)) (heap_alloc_new _ _)) (by simp [Value.oneCell']) (by omega) (by unfold maxLen; omega) (by omega) (by simp; omega) (w2.heap.size + 1) (by simp) ?_; intro g cp w4 hown hgrow hat hlt; have k5 := (hgrow.cell_far ⟨w.heap.size + 1, 5, none⟩ (by simp; omega) HNBV.out).trans ((World.cell?_of_block (w := w2) (a := ⟨w.heap.size + 1, 5, none⟩) (Below.heap_alloc _ _ _ (by show w.heap.size + 1 < w2.heap.size; omega))).trans y5); have kf := (hgrow.frozen_far ⟨w.heap.size + 1, 5, none⟩ (by simp; omega) HNBV.out).trans ((World.frozen?_of_block (w := w2) (a := ⟨w.heap.size + 1, 5, none⟩) (Below.heap_alloc _ _ _ (by show w.heap.size + 1 < w2.heap.size; omega))).trans yf)))
            all_goals go_wp2_with fail
            all_goals go_roundw
            all_goals first
              | exact ⟨q + 1, _, _, ns ++ [nm], _, acc ++ [y], by omega, by omega, by go_num, HF2, by simp; omega, by simp [HNL.out], HM2.out.item hgrow ((Below.refl _ _).drew.alloc (Nat.le_refl _) _) (hat.imp id (fun h => by omega)) hown HJI.out⟩
              | (simp [intOf]; omega)
    · have HEQ : Hid (FN = (ns, acc)) := by
        show _ = _
        rw [← HF.out, mkL_end _ _ _ (by rw [HNN.out, HNI.out]; omega)]
      have hal1 : acc.length ≤ 1000000 := by omega
      have hnl1 : ns.length ≤ 1000000 := by rw [HNL.out]; omega
      obtain ⟨ano, capn, rfl⟩ := own_slice HI.out.nrow
      obtain ⟨aio, capi, rfl⟩ := own_slice HI.out.irow
      obtain ⟨y0, y1, y2, y3, y4, y5⟩ := six_of HI.out.blk
      have hres := HI.out.bres
      unfold zero6 at hres
      obtain ⟨z0, z1, z2, z3, z4, z5⟩ := six_of hres
      have HRES := Lib.hid hres
      have g0 := free_of hres 0
      have g1 := free_of hres 1
      have g2 := free_of hres 2
      have g3 := free_of hres 3
      have g4 := free_of hres 4
      have g5 := free_of hres 5
      clear hres
      have fin := Lib.hid (HI.out.fin hnl1 hal1)
      by_cases h : q < nn
      · have i1 : (q : Int) < (nn : Int) := by omega
        have i2 : ¬ (q : Int) < (ni : Int) := by omega
        go_wp2_with fail
        refine bodyPost_ret (v := .agg #[.int .i64 7, .int .i64 0, .int .i64 0, .string ⟨#[]⟩, .slice ano ns.length capn, .slice aio acc.length capi]) (by simp [results, Try.results7, go_sem, z0, z1, z2, z3, z4, z5]) rfl ?_
        rw [HEQ.out]
        exact ⟨_, _, _, _, _, _, rfl, fin.out _ _ _ _ _ _⟩
      · have i1 : ¬ (q : Int) < (nn : Int) := by omega
        go_wp2_with fail
        refine bodyPost_ret (v := .agg #[.int .i64 7, .int .i64 0, .int .i64 0, .string ⟨#[]⟩, .slice ano ns.length capn, .slice aio acc.length capi]) (by simp [results, Try.results7, go_sem, z0, z1, z2, z3, z4, z5]) rfl ?_
        rw [HEQ.out]
        exact ⟨_, _, _, _, _, _, rfl, fin.out _ _ _ _ _ _⟩
end Go.Proofs.Ytkmiemaigalgpaa.Js
