import Derived.Test.YtkmiemaigalgpaaFh
import Derived.Deep.DeepCutAuto
import Derived.Deep.CutRange
/- Layer 5: the contract of Make. -/
set_option linter.unusedVariables false
set_option linter.unusedSimpArgs false
namespace Go.Proofs.Ytkmiemaigalgpaa.Js
open Go.RowKit Lex

theorem mkL_step (names : List (List UInt8)) (items : List J) (q : Nat) (h1 : q < names.length) (h2 : q < items.length) (ns : List (List UInt8)) (is : List J) :
    mkL (names.drop q) (items.drop q) ns is = if ns.contains (names.getD q []) = true then mkL (names.drop (q + 1)) (items.drop (q + 1)) ns is else mkL (names.drop (q + 1)) (items.drop (q + 1)) (ns ++ [names.getD q []]) (is ++ [items.getD q j0]) := by
  rw [drop_getD0 [] h1, drop_getD0 j0 h2, mkL]
theorem mkL_end (names : List (List UInt8)) (items : List J) (q : Nat) (h : names.length ≤ q ∨ items.length ≤ q) (ns : List (List UInt8)) (is : List J) : mkL (names.drop q) (items.drop q) ns is = (ns, is) := by
  rcases h with h | h
  · rw [List.drop_of_length_le h, mkL]
  · rw [List.drop_of_length_le h]
    cases names.drop q <;> rfl

set_option maxHeartbeats 8000000 in
set_option maxRecDepth 100000 in
theorem make5_any (S1 S2 : Nat → Prop) (d : Nat) (w : World) (an : Option Addr) (cn : Nat) (ai : Option Addr) (ci : Nat) (names : List (List UInt8)) (items : List J) (hN : StrsAt S1 w (.slice an names.length cn) names) (hl : items.length ≤ 1599289640354) (hc : items.length ≤ ci) (hI : ItemsAt S2 w d ai items)
    (hm : min names.length items.length ≤ 1000000) : Calls Try.prog 5 #[.slice an names.length cn, .slice ai items.length ci] w (CRet w (d + 1) (mkJ names items)) := by
  obtain ⟨_, _, e1, hn1, hn2, htx, hcn⟩ := hN
  cases e1
  have HX := Lib.hid htx
  have HCN := Lib.hid hcn
  have HIT : Hid (ItemsAt S2 w d ai items) := hI
  obtain ⟨i0, hi0, hz0, hz1, hz2⟩ := info_parts json_info
  obtain ⟨i1, hi1, hx0, hx1, hx2⟩ := info_parts str_info2
  obtain ⟨FN, HFN⟩ : ∃ FN, Hid (mkL names items [] [] = FN) := ⟨_, rfl⟩
  unfold mkJ
  rw [HFN.out]
  clear htx hcn hI
  obtain ⟨nn, HNN⟩ : ∃ n, Hid (names.length = n) := ⟨_, rfl⟩
  obtain ⟨ni, HNI⟩ : ∃ n, Hid (items.length = n) := ⟨_, rfl⟩
  rw [HNN.out] at hn1 hn2 hm ⊢
  rw [HNI.out] at hl hc hm ⊢
  have hmm := @run_makeMap Try.prog
  go_enter Try.func5, Try.ntmps5
  go_wp2_with fail
  go_loopw [17] (fun i wr => ∃ (q : Nat) (ns : List (List UInt8)) (acc : List J), q ≤ nn ∧ q ≤ ni ∧ i = .int .i64 (q : Int) ∧ Hid (mkL (names.drop q) (items.drop q) ns acc = FN) ∧ acc.length ≤ q ∧ ns.length ≤ q ∧ Hid (MI w d ns ns acc wr)) (fun i _ => nn - (intOf i).toNat)
  case atStart => exact ⟨0, [], [], Nat.zero_le _, Nat.zero_le _, rfl, HFN, by simp, by simp, MI.begin⟩
  case round =>
    clear HFN
    obtain ⟨q, ns, acc, hq1, hq2, rfl, HF, hal, hnl, HI⟩ := hrel
    have hsz := HI.out.sz
    by_cases hlt : q < nn ∧ q < ni
    · obtain ⟨hl1, hl2⟩ := hlt
      have a1 : (q : Int) < min (nn : Int) (ni : Int) := by omega
      have a2 : (q : Int) < (nn : Int) := by omega
      have a3 : (q : Int) < (ni : Int) := by omega
      obtain ⟨bn, on, rfl, _, hbn, hxn⟩ := HCN.out (by rw [HNN.out]; omega)
      have x1 := (World.cell?_of_block (w := w) (a := ⟨bn, on + q, none⟩) (HI.out.bel.block bn hbn)).trans (hxn q (by rw [HNN.out]; omega))
      have HST := Lib.hid (mkL_step names items q (by rw [HNN.out]; exact hl1) (by rw [HNI.out]; exact hl2) ns acc)
      have HNM : Hid (txtB (names.getD q [])) := HX.out _ (by rw [List.getD_eq_getElem?_getD, List.getElem?_eq_getElem (by rw [HNN.out]; exact hl1)]; exact List.getElem_mem _)
      have hbnr : bn < wr.heap.size := Nat.lt_of_lt_of_le hbn HI.out.bel.size
      unfold strW at x1
      generalize names.getD q [] = nm at *
      have hkey : keyOf Try.prog 9 (.string ⟨nm.toArray⟩) = some (.string nm) := Go.WideMaps.keyOf_string_mk Try.underlying9 (by have hn := HNM.out; unfold txtB at hn; show (⟨nm.toArray⟩ : ByteArray).size ≤ maxLen; rw [bs_size]; unfold maxLen; omega)
      have hH := set_has ns nm
      have h := HI.out.set
      have HS : Hid (SetIs wr (w.heap.size + 2) ns) := h
      have HB0 := HI.out.own
      cases hcc : ns.contains nm with
      | true =>
        rw [hcc] at hH
        have HCC := Lib.hid hcc
        clear hcc hxn HB0
        go_wp2_with (at_lookup; refine wpList_lookup_own_unit _ rfl _ _ 51 rfl 9 52 law_str Try.underlying51 (zero_unit _) (w.heap.size + 2) ns.length _ rfl h _ _ rfl hkey ?_)
        go_roundw
        case rel => exact ⟨q + 1, ns, acc, by omega, by omega, by go_num, by show _ = _; rw [← HF.out, HST.out, if_pos HCC.out], by omega, by omega, HI.out.below (belowOne _ _) (Nat.le_refl _)⟩
        case measure => simp [intOf]; omega
      | false =>
        rw [hcc] at hH
        have HCC := Lib.hid hcc
        clear hcc hxn HB0
        go_wp2_with (first
          | (at_lookup; refine wpList_lookup_own_unit _ rfl _ _ 51 rfl 9 52 law_str Try.underlying51 (zero_unit _) (w.heap.size + 2) ns.length _ rfl h _ _ rfl hkey ?_)
          | (at_mapUpdate; refine wpList_mapUpdate_own _ rfl _ _ _ 51 rfl 9 52 law_str Try.underlying51 (unitElem (H := Unit)) (w.heap.size + 2) ns.length _ rfl (World.ownsMap.alloc h _) (by unfold maxLen; omega) _ _ _ rfl rfl hkey _ [] unitElem_mk ?_; intro w1 hown1 hgrow1))
        have hS1 : SetIs w1 (w.heap.size + 2) (ns ++ [nm]) := by
          show World.ownsMap _ _ _ _ _ _ _
          simp only [List.length_append, List.length_cons, List.length_nil, List.map_append, List.map_cons, List.map_nil, Maps.setOf_snoc]
          exact hown1
        have hm1 : Moves wr.heap.size (w.heap.size + 2) wr w1 := ((Moves.refl _ _ _).alloc (Nat.le_refl _) _).grown hgrow1 (by simp) (fun k hk => .inr (by cases hk; rfl))
        have hM1 := HI.out.seen hm1 hS1
        have hs1 := hm1.size
        have x2 := (hm1.cell (p := ⟨bn, on + q, none⟩) hbnr (by show bn ≠ _; omega)).trans x1
        have hbn1 : bn < w1.heap.size := by omega
        clear hown1 hgrow1 hS1 hm1 x1 h hH hkey HS HI
        have HM1 := Lib.hid hM1
        clear hM1
        simp only [Act.put]
        go_cut [36] from 36 to 44 (fun pv wx => Hid (MI w d (ns ++ [nm]) (ns ++ [nm]) acc wx))
        case first =>
          obtain ⟨nv, iv, vs, hO⟩ := HM1.out.own
          obtain ⟨ao, cap, rfl⟩ := own_slice hO.irow
          obtain ⟨ano, cap2, rfl⟩ := own_slice hO.nrow
          obtain ⟨y0, y1, y2, y3, y4, y5⟩ := six_of hO.blk
          have yf := free_of hO.blk 4
          have hbl1 : w.heap.size + 1 < w1.heap.size := Own.block_lt hO.blk
          have hnb : ∀ b, (Value.slice ano ns.length cap2).ownBlock = some b → w.heap.size + 3 ≤ b ∧ b < w1.heap.size := fun b hb => hO.nrow.lt b hb
          have hnbv : some (w.heap.size + 1) ≠ (Value.slice ano ns.length cap2).ownBlock := fun h => by have := (hnb _ h.symm).1; omega
          have HNBV := Lib.hid hnbv
          have HO := Lib.hid hO
          clear hO hnb hnbv
          go_region_law ((refine step_append_lies _ (by rfl) _ _ _ (by rfl) (w.heap.size + 3) 9 i1 _ 1 16 Try.underlying24 hi1 hx0 hx1 hx2 rfl (by omega) _ ns.length (ns.map strW) (by rfl) ((HO.out.nrow.drew).alloc _) ⟨w1.heap.size, 0, none⟩ 1 1 [.string ⟨nm.toArray⟩] (by rfl) (by rfl) (World.news_of_block (cs := #[.string ⟨nm.toArray⟩]) (t := 9) (fr := (0, 0)) (heap_alloc_new _ _)) (by simp [Value.oneCell']) (by omega) (by unfold maxLen; omega) (by omega) (by simp; omega) (w1.heap.size + 1) (by simp) ?_; intro g cp w3 hown hgrow hat hlt; have k4 := (hgrow.cell_far ⟨w.heap.size + 1, 4, none⟩ (by simp; omega) HNBV.out).trans ((World.cell?_of_block (w := w1) (a := ⟨w.heap.size + 1, 4, none⟩) (Below.heap_alloc _ _ _ (by show w.heap.size + 1 < w1.heap.size; omega))).trans y4); have kf := (hgrow.frozen_far ⟨w.heap.size + 1, 4, none⟩ (by simp; omega) HNBV.out).trans ((World.frozen?_of_block (w := w1) (a := ⟨w.heap.size + 1, 4, none⟩) (Below.heap_alloc _ _ _ (by show w.heap.size + 1 < w1.heap.size; omega))).trans yf)))
          all_goals go_wp2_with fail
          all_goals go_meet
          all_goals exact HM1.out.name HO.out ((Below.refl _ _).drew.alloc (Nat.le_refl _) _) hgrow (hat.imp id (fun h => by omega)) HNM.out hown
        case rest =>
          clear HM1 x2 hbn1 hs1 hbnr hsz
          have HM2 := hcut
          have HF2 : Hid (mkL (names.drop (q + 1)) (items.drop (q + 1)) (ns ++ [nm]) (acc ++ [items.getD q j0]) = FN) := by
            show _ = _
            rw [← HF.out, HST.out, if_neg (by rw [HCC.out]; simp)]
          obtain ⟨bi, oi, c0, c1, c2, c3, c4, c5, rfl, hbi, hli, hJi⟩ := item_at (P := (q : Int)) HIT.out (by omega) (by rw [HNI.out]; exact a3)
          rw [show ((q : Int)).toNat = q from rfl] at hli hJi
          have IC0 := fun (w' : World) (hb : Below w.heap.size w w') => copied_ok d S2 w' _ _ (hJi.below hb (Nat.le_refl _))
          unfold CRet at IC0
          have IC := Lib.hid IC0
          clear IC0 hJi
          generalize items.getD q j0 = y at *
          generalize wc = w2 at *
          have hsz2 := HM2.out.sz
          obtain ⟨v0, v1, v2, v3, v4, v5⟩ := (hli.keep (HM2.out.bel.block bi hbi)).six
          have hbi2 : bi < w2.heap.size := by have := HM2.out.bel.size; omega
          obtain ⟨nv, iv, vs, hO⟩ := HM2.out.own
          obtain ⟨ao2, cap2, rfl⟩ := own_slice hO.irow
          obtain ⟨y0, y1, y2, y3, y4, y5⟩ := six_of hO.blk
          have hbl2 : w.heap.size + 1 < w2.heap.size := Own.block_lt hO.blk
          have HO := Lib.hid hO
          clear hO hli hcut
          have IC1 := Lib.hid (IC.out w2.drew HM2.out.bel.drew)
          clear IC
          go_wp2_with fail
          go_region_law (first
            | (go_simp; go_at_call 29; (with_reducible refine (IC1.out).mono ?_); rintro e3 w3 ⟨k3, m3, e3', t3, an3, nn3, cn3, ai3, ni3, ci3, rfl, hJ3, hb3⟩; have hb3' : Below w2.heap.size w2 w3 := ((Below.refl _ _).drew).trans hb3; have hs3 := hb3'.size; have hl3 : w.heap.size + 1 < w3.heap.size := (by omega); have HO3 := Lib.hid (HO.out.below5 hb3' (Nat.le_refl _)); have y5' := (six_of HO3.out.blk).2.2.2.2.2; have yf := free_of HO3.out.blk 5; have HNE := Lib.hid HO3.out.ine)
            | (refine step_append_lies _ (by rfl) _ _ _ (by rfl) (w.heap.size + 3) 27 i0 _ 6 88 Try.underlying25 hi0 hz0 hz1 hz2 rfl (by omega) _ acc.length (vs.flatMap aggC) (by rfl) (HO3.out.irow.alloc _) ⟨w3.heap.size, 0, none⟩ 1 1 [.int .i64 k3, .int .i64 m3, .int .i64 e3', .string t3, .slice an3 nn3 cn3, .slice ai3 ni3 ci3] (by rfl) (by rfl) (World.news_of_block (cs := #[.int .i64 k3, .int .i64 m3, .int .i64 e3', .string t3, .slice an3 nn3 cn3, .slice ai3 ni3 ci3]) (t := 27) (fr := (0, 0)) (heap_alloc_new _ _)) (by simp [Value.oneCell']) (by omega) (by unfold maxLen; omega) (by omega) (by simp; omega) (w3.heap.size + 1) (by simp) ?_; intro g cp w4 hown hgrow hat hlt; have k5 := (hgrow.cell_far ⟨w.heap.size + 1, 5, none⟩ (by simp; omega) (fun h => HNE.out h.symm)).trans ((World.cell?_of_block (w := w3) (a := ⟨w.heap.size + 1, 5, none⟩) (Below.heap_alloc _ _ _ (by show w.heap.size + 1 < w3.heap.size; omega))).trans y5'); have kf := (hgrow.frozen_far ⟨w.heap.size + 1, 5, none⟩ (by simp; omega) (fun h => HNE.out h.symm)).trans ((World.frozen?_of_block (w := w3) (a := ⟨w.heap.size + 1, 5, none⟩) (Below.heap_alloc _ _ _ (by show w.heap.size + 1 < w3.heap.size; omega))).trans yf)))
          all_goals go_wp2_with fail
          all_goals go_roundw
          all_goals first
            | exact ⟨q + 1, ns ++ [nm], acc ++ [y], by omega, by omega, by go_num, HF2, by simp; omega, by simp; omega, HM2.out.item HO.out hb3' ((Below.refl _ _).alloc (Nat.le_refl _) _) hgrow (hat.imp id (fun h => by omega)) hown hJ3⟩
            | (simp [intOf]; omega)
    · have a1 : ¬ (q : Int) < min (nn : Int) (ni : Int) := by omega
      have HEQ : Hid (FN = (ns, acc)) := by
        show _ = _
        rw [← HF.out, mkL_end _ _ _ (by rw [HNN.out, HNI.out]; omega)]
      obtain ⟨a, nn', c, a', nn'', c', hblk, hfin⟩ := HI.out.fin (by omega) (by omega)
      obtain ⟨y0, y1, y2, y3, y4, y5⟩ := six_of hblk
      have hres := HI.out.bres
      unfold zero6 at hres
      obtain ⟨z0, z1, z2, z3, z4, z5⟩ := six_of hres
      have g0 := free_of hres 0
      have g1 := free_of hres 1
      have g2 := free_of hres 2
      have g3 := free_of hres 3
      have g4 := free_of hres 4
      have g5 := free_of hres 5
      have HFIN := Lib.hid hfin
      clear hfin hblk hres HI HF
      go_wp2_with fail
      refine bodyPost_ret (v := .agg #[.int .i64 7, .int .i64 0, .int .i64 0, .string ⟨#[]⟩, .slice a nn' c, .slice a' nn'' c']) (by simp [results, Try.results5, go_sem, z0, z1, z2, z3, z4, z5]) rfl ?_
      rw [HEQ.out]
      exact HFIN.out _ _ _ _ _ _
end Go.Proofs.Ytkmiemaigalgpaa.Js
