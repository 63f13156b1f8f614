import Derived.Test.YtafmnoeljefpaaaFt5
/- The contract of Fit: objects. -/
set_option linter.unusedVariables false
set_option linter.unusedSimpArgs false
namespace Go.Proofs.Ytafmnoeljefpaaa.Js
open Go.RowKit Lex
open Quo (pickS pickS_nonneg pickS_lt IntsAt textR)

/-- A round that appends a name. -/
theorem FI.name {w : World} {n : Nat} {K : Int} {X : Array Value} {ns : List (List UInt8)} {acc : List J} {wq wS w2 : World} {nv iv : Value} {vs : List Value} {g cp : Nat} {nm : List UInt8}
    (h : FI w n K X ns acc wq) (hO : Own2 (w.heap.size + 3) (w.heap.size + 2) (n + 1) K nv iv ns vs acc wq) (hBS : Below wq.heap.size wq wS) (hgrow : wS.grownBy w2 nv.ownBlock) (hat : nv.ownBlock = some g ∨ wq.heap.size ≤ g) (ht : txtB nm)
    (hown : w2.ownsRow (w.heap.size + 3) 9 1 (.slice (some ⟨g, 0, none⟩) (ns.length + 1) cp) (ns.length + 1) (ns.map strW ++ [strW nm])) :
    FI w n K X (ns ++ [nm]) acc (w2.setCell ⟨w.heap.size + 2, 4, none⟩ (.slice (some ⟨g, 0, none⟩) (ns.length + 1) cp)) ∧
      ∀ b, b < wq.heap.size → some b ≠ nv.ownBlock → b ≠ w.heap.size + 2 → (w2.setCell ⟨w.heap.size + 2, 4, none⟩ (.slice (some ⟨g, 0, none⟩) (ns.length + 1) cp)).heap[b]? = wq.heap[b]? := by
  have hsq := h.sz
  obtain ⟨F1, F2, F3, F4, F5⟩ := name_frame (bv := w.heap.size + 2) (nv := nv) hgrow hBS (.slice (some ⟨g, 0, none⟩) (ns.length + 1) cp)
  have hnb : ∀ b, nv.ownBlock = some b → w.heap.size + 3 ≤ b ∧ b < wq.heap.size := fun b hb => hO.nrow.lt b hb
  refine ⟨⟨⟨F3.trans h.bel.os, F4.trans h.bel.tape, F5.trans h.bel.output, by omega, fun b hb => ?_⟩, ?_, ?_, ⟨_, iv, vs, step_name hO (by omega) hgrow hBS hat ht hown⟩, by omega⟩, F1⟩
  · rw [F1 b (by omega) (fun h => by have := (hnb b h.symm).1; omega) (by omega)]; exact h.bel.block b hb
  · rw [F1 _ (by omega) (fun h => by have := (hnb _ h.symm).1; omega) (by omega)]; exact h.bx
  · rw [F1 _ (by omega) (fun h => by have := (hnb _ h.symm).1; omega) (by omega)]; exact h.bres
theorem any_mem {ns : List (List UInt8)} {nm : List UInt8} : ns.any (· == nm) = true ↔ nm ∈ ns := by
  simp [List.any_eq_true]
theorem any_take {ns : List (List UInt8)} {nm : List UInt8} {p : Nat} (h : p < ns.length) : (ns.take (p + 1)).any (· == nm) = ((ns.take p).any (· == nm) || (ns.getD p [] == nm)) := by
  rw [List.take_succ_eq_append_getElem h, List.any_append, List.getD_eq_getElem?_getD, List.getElem?_eq_getElem h]
  simp
theorem names_cell {w : World} {base : Nat} {ano : Option Addr} {cap : Nat} {ns : List (List UInt8)} (h : w.ownsRow base 9 1 (.slice ano ns.length cap) ns.length (ns.map strW)) : ∀ p, p < ns.length → ∃ g, ano = some ⟨g, 0, none⟩ ∧ w.cell? ⟨g, p, none⟩ = some (strW (ns.getD p [])) ∧ g < w.heap.size := by
  intro p hp
  rcases h.2 with ⟨e, h0⟩ | ⟨g, cp, cur, hv, hbg, hg, hnc, hcm, hcs, htake⟩
  · omega
  · cases hv
    refine ⟨g, rfl, ?_, Own.block_lt hg⟩
    have := h.cellAt p (by omega)
    rw [this, List.getElem?_map, List.getElem?_eq_getElem hp, List.getD_eq_getElem?_getD, List.getElem?_eq_getElem hp]
    rfl

set_option maxHeartbeats 8000000 in
set_option maxRecDepth 100000 in
theorem fit_obj (n : Nat) (hn : n ≤ 14) (ih : FitOk n) (w : World) (k m e : Int) (t : List Int) (is : List RT) (v : Value) (hR : RAt w (n + 1) v (.mk k m e t is)) (hK : pickS k 7 = 6) :
    Calls Try.prog 5 #[v, .int .i64 ((16 - (n + 1) : Nat) : Int)] w (FRet w (n + 2) (.mk 7 0 0 [] (fitL (fitJ n) true (is.take 12) [] []).1 (fitL (fitJ n) true (is.take 12) [] []).2)) := by
  obtain ⟨vt, ai, ci, rfl, hk, hm, he, ht, hni, hit⟩ := hR
  have P1 := Lib.hid (fun w => pick_any k 7 w hk (by decide) (by decide))
  rw [hK] at P1
  have hD : ((16 - n : Nat) : Int) = ((16 - (n + 1) : Nat) : Int) + 1 := by omega
  have hD1 : ((16 - (n + 1) : Nat) : Int) < 16 := by omega
  have hD0 : (0 : Int) ≤ ((16 - (n + 1) : Nat) : Int) := by omega
  have IH : Hid (∀ (w' : World) (u : Value) (y : RT), RAt w n u y → Below w.heap.size w w' → Calls Try.prog 5 #[u, .int .i64 (((16 - (n + 1) : Nat) : Int) + 1)] w' (FRet w' (n + 1) (fitJ n y))) := fun w' u y hu hb => by rw [← hD]; exact ih w' u y (hu.below hb)
  generalize ((16 - (n + 1) : Nat) : Int) = D at *
  clear hK hD ih hk hm he ht
  have HIT := Lib.hid hit
  have HL : Hid ((is.take 12).length = min is.length 12) := by show _ = _; simp; omega
  obtain ⟨FN, HFN⟩ : ∃ FN, Hid (fitL (fitJ n) true (is.take 12) [] [] = FN) := ⟨_, rfl⟩
  rw [HFN.out]
  obtain ⟨i0, hi0, hz0, hz1, hz2⟩ := info_parts json_info
  obtain ⟨i1, hi1, hx0, hx1, hx2⟩ := info_parts str_info2
  clear hit
  go_enter Try.func5, Try.ntmps5
  go_wp2_with (go_at_call 13; (with_reducible refine (P1.out _).mono ?_); rintro e1 w1 ⟨rfl, rfl⟩)
  go_loopw [7] (fun i wr => ∃ (q : Nat) (ns : List (List UInt8)) (acc : List J), q ≤ 12 ∧ q ≤ is.length ∧ i = .int .i64 (q : Int) ∧ Hid (fitL (fitJ n) true ((is.take 12).drop q) ns acc = FN) ∧ acc.length ≤ q ∧ ns.length ≤ q ∧ Hid (FI w n 7 #[.int .i64 k, .int .i64 m, .int .i64 e, vt, .slice ai is.length ci] ns acc wr)) (fun i _ => 13 - (intOf i).toNat)
  case atStart => exact ⟨0, [], [], by omega, by omega, rfl, HFN, by simp, by simp, FI.begin⟩
  case round =>
    obtain ⟨q, ns, acc, hq12, hqn, rfl, HF, hal, hnl, HI⟩ := hrel
    have hsz := HI.out.sz
    obtain ⟨xx0, xx1, xx2, xx3, xx4⟩ := five_of HI.out.bx
    by_cases hlt : q < is.length ∧ q < 12
    · obtain ⟨hl1, hl2⟩ := hlt
      have a1 : (q : Int) < (is.length : Int) := by omega
      have a2 : (q : Int) < 12 := by omega
      obtain ⟨b, off, rfl, hbl, hel⟩ := HIT.out (by omega)
      obtain ⟨u, hlies, hu⟩ := hel q hl1
      obtain ⟨k', m', e', ao, tl, c, ai', ni', ci', rfl, htx, htl, hc1, hc2⟩ := hu.form
      obtain ⟨v0, v1, v2, v3, v4⟩ := five_cells (hlies.keep (HI.out.bel.block b hbl))
      have T1 : Hid (∀ w', Below w.heap.size w w' → Calls Try.prog 15 #[.slice ao (min (tl : Int) 8).toNat c] w' (Ret (.string ⟨(nameR (is.getD q rt0)).toArray⟩) w')) := fun w' hb => by
        subst htl
        exact text_of _ _ w' ((htx.take 8).below hb)
      have HU : Hid (RAt w n (.agg #[.int .i64 k', .int .i64 m', .int .i64 e', .slice ao tl c, .slice ai' ni' ci']) (is.getD q rt0)) := hu
      have HS : Hid ((is.take 12).drop q = is.getD q rt0 :: (is.take 12).drop (q + 1)) := drop_getD (by rw [HL.out]; omega)
      clear hel hlies htx hu htl
      generalize is.getD q rt0 = y at *
      have HBW : Hid (∀ o, Below w.heap.size w (wr.alloc o)) := fun o => HI.out.bel.alloc HI.out.bel.size o
      have hblr : b < wr.heap.size := by have := HI.out.bel.size; omega
      go_wp2_with (go_at_call 15; (with_reducible refine (T1.out _ (HBW.out _)).mono ?_); rintro e1 w2 ⟨rfl, hb2⟩)
      have HNM : Hid (txtB (nameR y)) := by
        have := textR_lenN 8 y.txt
        show _ ≤ _
        unfold nameR
        omega
      have HF3 : Hid (ns.any (· == nameR y) = true → fitL (fitJ n) true ((is.take 12).drop (q + 1)) ns acc = FN) := fun hin => by
        have h1 := HF.out
        rw [HS.out, fitL, if_pos ⟨rfl, any_mem.1 hin⟩] at h1
        exact h1
      have HF2 : Hid (ns.any (· == nameR y) = false → fitL (fitJ n) true ((is.take 12).drop (q + 1)) (ns ++ [nameR y]) (acc ++ [fitJ n y]) = FN) := fun hin => by
        have h1 := HF.out
        rw [HS.out, fitL, if_neg (fun h => by rw [any_mem.2 h.2] at hin; cases hin), if_pos rfl] at h1
        exact h1
      have hs2 := hb2.size
      simp only [World.size_alloc] at hs2
      have hFI0 := (HI.out.below ((Below.refl _ _).alloc (Nat.le_refl _) _) (Nat.le_refl _)).below hb2 (Nat.le_refl _)
      have hby0 : w2.heap[wr.heap.size]? = some (.cells #[.int .i64 k', .int .i64 m', .int .i64 e', .slice ao tl c, .slice ai' ni' ci'] 26 (0, 0)) := (hb2.block _ (by simp)).trans (heap_alloc_new wr _)
      obtain ⟨nv, iv, vs, hOr⟩ := HI.out.own
      have hO0 := (hOr.below ((Below.refl _ _).alloc (Nat.le_refl _) _) (Nat.le_refl _)).below hb2 (Nat.le_refl _)
      have hnb : ∀ b, nv.ownBlock = some b → w.heap.size + 3 ≤ b ∧ b < wr.heap.size := fun b hb => hOr.nrow.lt b hb
      have HNB := Lib.hid hnb
      clear HI HBW T1 hb2 v0 v1 v2 v3 v4 xx0 xx1 xx2 xx3 xx4 hblr hOr hnb
      obtain ⟨ano, cap0, rfl⟩ := own_slice hO0.nrow
      obtain ⟨y0, y1, y2, y3, y4, y5⟩ := six_of hO0.blk
      have hNC : ∀ p, p < ns.length → ∃ g, ano = some ⟨g, 0, none⟩ ∧ w2.cell? ⟨g, p, none⟩ = some (strW (ns.getD p [])) ∧ g < w2.heap.size := names_cell hO0.nrow
      have HNC := Lib.hid hNC
      have HFI0 := Lib.hid hFI0
      have HO0 := Lib.hid hO0
      have HBY := Lib.hid hby0
      clear hNC hFI0 hO0 hby0
      generalize nameR y = nm at *
      go_loopw [10, 11] (fun a j wx => ∃ (p : Nat), p ≤ ns.length ∧ a = .bool ((ns.take p).any (· == nm)) ∧ j = .int .i64 (p : Int) ∧ w2 = wx) (fun _ j _ => 13 - (intOf j).toNat)
      case atStart => exact ⟨0, by omega, by simp, rfl, rfl⟩
      case round =>
        obtain ⟨p, hp, rfl, rfl, rfl⟩ := hrel
        by_cases hpl : p < ns.length
        · obtain ⟨g, rfl, hc, hgl⟩ := HNC.out p hpl
          have a3 : (p : Int) < (ns.length : Int) := by omega
          have HANY := Lib.hid (any_take hpl (nm := nm))
          generalize (ns.take p).any (· == nm) = bo at *
          generalize ns.getD p [] = xn at *
          unfold strW at hc
          cases bo with
          | false =>
            by_cases heq : (xn == nm) = true
            · go_wp2_with fail
              go_roundw
              case rel => exact ⟨p + 1, by omega, by rw [HANY.out, heq]; rfl, by go_num, trivial⟩
              case measure => simp [intOf]; omega
            · have heq' : (xn == nm) = false := by simpa using heq
              clear heq
              go_wp2_with fail
              go_roundw
              case rel => exact ⟨p + 1, by omega, by rw [HANY.out, heq']; rfl, by go_num, trivial⟩
              case measure => simp [intOf]; omega
          | true =>
            go_wp2_with fail
            go_roundw
            case rel => exact ⟨p + 1, by omega, by rw [HANY.out]; rfl, by go_num, trivial⟩
            case measure => simp [intOf]; omega
        · obtain rfl : p = ns.length := by omega
          rw [List.take_length]
          obtain ⟨bo, hbo⟩ : ∃ bo, ns.any (· == nm) = bo := ⟨_, rfl⟩
          rw [hbo]
          have HBO := Lib.hid hbo
          clear hbo
          cases bo with
          | true =>
            go_wp2_with fail
            go_roundw
            case rel => exact ⟨q + 1, ns, acc, by omega, by omega, by go_num, HF3.out HBO.out, by omega, by omega, HFI0⟩
            case measure => simp [intOf]; omega
          | false =>
            have hnbv : some (w.heap.size + 2) ≠ (Value.slice ano ns.length cap0).ownBlock := fun h => by have := (HNB.out _ h.symm).1; omega
            have hbl0 : w.heap.size + 2 < w2.heap.size := by have := HFI0.out.sz; omega
            have HNV := Lib.hid hnbv
            have yf4 := free_of HO0.out.blk 4
            clear hnbv
            go_wp2_with (at_builtin; (refine wpList_append_lies _ rfl _ _ 28 rfl (w.heap.size + 3) 9 i1 _ 1 16 Try.underlying28 hi1 hx0 hx1 hx2 rfl (by omega) _ ns.length (ns.map strW) rfl (HO0.out.nrow.alloc _) ⟨w2.heap.size, 0, none⟩ 1 1 [.string ⟨nm.toArray⟩] rfl rfl (World.news_of_block (cs := #[.string ⟨nm.toArray⟩]) (t := 9) (fr := (0, 0)) (heap_alloc_new _ _)) (by simp [Value.oneCell']) (by omega) (by unfold maxLen; omega) (by omega) (by simp; omega) (w2.heap.size + 1) (by simp) ?_); intro g cp w3 hown hgrow hat hlt; have k4 := (hgrow.cell_far ⟨w.heap.size + 2, 4, none⟩ (by simp; omega) HNV.out).trans ((World.cell?_of_block (w := w2) (a := ⟨w.heap.size + 2, 4, none⟩) (Below.heap_alloc _ _ _ hbl0)).trans y4); have kf := (hgrow.frozen_far ⟨w.heap.size + 2, 4, none⟩ (by simp; omega) HNV.out).trans ((World.frozen?_of_block (w := w2) (a := ⟨w.heap.size + 2, 4, none⟩) (Below.heap_alloc _ _ _ hbl0)).trans yf4))
            obtain ⟨hFI, hFr⟩ := FI.name HFI0.out HO0.out ((Below.refl _ _).alloc (Nat.le_refl _) _) hgrow (hat.imp id (fun h => by omega)) HNM.out hown
            have hbyl := (hFr wr.heap.size (Own.block_lt HBY.out) (fun h => by have := (HNB.out _ h.symm).2; omega) (by omega)).trans HBY.out
            clear hFr hown hgrow hat hlt k4 kf yf4 y0 y1 y2 y3 y4 y5 HFI0 HO0 HNC HBY
            have hbo := HBO.out
            clear HBO
            change Code.wp _ _ _ _ (w3.setCell ⟨w.heap.size + 2, 4, none⟩ _)
            generalize w3.setCell ⟨w.heap.size + 2, 4, none⟩ (.slice (some ⟨g, 0, none⟩) (ns.length + 1) cp) = w6 at *
            have HBB : Hid (Below w.heap.size w w6) := hFI.bel
            obtain ⟨nv6, iv6, vs6, hO⟩ := hFI.own
            obtain ⟨p0, p1, p2, p3, p4⟩ := five_of hbyl
            have hpl6 : wr.heap.size < w6.heap.size := Own.block_lt hbyl
            have HBO2 := Lib.hid hbo
            clear hbo
            have HFI := Lib.hid hFI
            have HO := Lib.hid hO
            have hsz2 := hFI.sz
            have hbl2 : w.heap.size + 2 < w6.heap.size := by omega
            obtain ⟨ao2, cap2, rfl⟩ := own_slice hO.irow
            obtain ⟨y0, y1, y2, y3, y4, y5⟩ := six_of hO.blk
            clear hFI hO hbyl
            have IC := Lib.hid (IH.out w6.drew _ y HU.out HBB.out.drew)
            unfold FRet at IC
            rw [show D + 1 = IntKind.i64.wrap (D + 1) by rw [IntKind.wrap_i64]; omega] at IC
            clear IH HU
            go_region_law (first
              | (go_simp; go_at_call 5; (with_reducible refine (IC.out).mono ?_); rintro e3 w3 ⟨k3, m3, e3', t3, an3, nn3, cn3, ai3, ni3, ci3, rfl, hJ3, hb3⟩; have hb3' : Below w6.heap.size w6 w3 := ((Below.refl _ _).drew).trans hb3; have hs3 := hb3'.size; have hl3 : w.heap.size + 2 < w3.heap.size := (by omega); have hl3' : w.heap.size + 1 + 1 < w3.heap.size := (by omega); have HO3 := Lib.hid (HO.out.below hb3' (Nat.le_refl _)); have y5' := (six_of HO3.out.blk).2.2.2.2.2; have yf := free_of HO3.out.blk 5; have HNE := Lib.hid HO3.out.ine)
              | (refine step_append_lies _ (by rfl) _ _ _ (by rfl) (w.heap.size + 3) 35 i0 _ 6 88 Try.underlying29 hi0 hz0 hz1 hz2 rfl (by omega) _ acc.length (vs6.flatMap aggC) (by rfl) (HO3.out.irow.alloc _) ⟨w3.heap.size, 0, none⟩ 1 1 [.int .i64 k3, .int .i64 m3, .int .i64 e3', .string t3, .slice an3 nn3 cn3, .slice ai3 ni3 ci3] (by rfl) (by rfl) (World.news_of_block (cs := #[.int .i64 k3, .int .i64 m3, .int .i64 e3', .string t3, .slice an3 nn3 cn3, .slice ai3 ni3 ci3]) (t := 35) (fr := (0, 0)) (heap_alloc_new _ _)) (by simp [Value.oneCell']) (by omega) (by unfold maxLen; omega) (by omega) (by simp; omega) (w3.heap.size + 1) (by simp) ?_; intro g cp w4 hown hgrow hat hlt; have k5 := (hgrow.cell_far ⟨w.heap.size + 2, 5, none⟩ (by simp; omega) (fun h => HNE.out h.symm)).trans ((World.cell?_of_block (w := w3) (a := ⟨w.heap.size + 2, 5, none⟩) (Below.heap_alloc _ _ _ (by show w.heap.size + 2 < w3.heap.size; omega))).trans y5'); have kf := (hgrow.frozen_far ⟨w.heap.size + 2, 5, none⟩ (by simp; omega) (fun h => HNE.out h.symm)).trans ((World.frozen?_of_block (w := w3) (a := ⟨w.heap.size + 2, 5, none⟩) (Below.heap_alloc _ _ _ (by show w.heap.size + 2 < w3.heap.size; omega))).trans yf)))
            all_goals go_wp2_with fail
            all_goals go_roundw
            all_goals first
              | exact ⟨q + 1, ns ++ [nm], acc ++ [fitJ n y], by omega, by omega, by go_num, HF2.out HBO2.out, by simp; omega, by simp; omega, HFI.out.item HO.out hb3' ((Below.refl _ _).alloc (Nat.le_refl _) _) hgrow (hat.imp id (fun h => by omega)) hown hJ3⟩
              | (simp [intOf]; omega)
    · obtain ⟨a, nn, c, a', nn', c', hblk, hfin⟩ := HI.out.fin ⟨by decide, by decide⟩ (by omega) (by omega)
      obtain ⟨y0, y1, y2, y3, y4, y5⟩ := six_of hblk
      have hres := HI.out.bres
      unfold zero6 at hres
      obtain ⟨z0, z1, z2, z3, z4, z5⟩ := six_of hres
      have g0 := free_of hres 0
      have g1 := free_of hres 1
      have g2 := free_of hres 2
      have g3 := free_of hres 3
      have g4 := free_of hres 4
      have g5 := free_of hres 5
      have HEQ : Hid (FN = (ns, acc)) := by
        have h1 := HF.out
        rw [List.drop_eq_nil_of_le (by rw [HL.out]; omega), fitL] at h1
        exact h1.symm
      have HFIN := Lib.hid hfin
      clear hfin hblk hres HI
      by_cases hl : q < is.length
      · have a1 : (q : Int) < (is.length : Int) := by omega
        obtain rfl : q = 12 := by omega
        go_wp2_with fail
        refine bodyPost_ret (v := .agg #[.int .i64 7, .int .i64 0, .int .i64 0, .string ⟨#[]⟩, .slice a nn c, .slice a' nn' c']) (by simp [results, Try.results5, go_sem, z0, z1, z2, z3, z4, z5]) rfl ?_
        rw [HEQ.out]
        exact HFIN.out _ _ _ _ _ _
      · obtain rfl : q = is.length := by omega
        go_wp2_with fail
        refine bodyPost_ret (v := .agg #[.int .i64 7, .int .i64 0, .int .i64 0, .string ⟨#[]⟩, .slice a nn c, .slice a' nn' c']) (by simp [results, Try.results5, go_sem, z0, z1, z2, z3, z4, z5]) rfl ?_
        rw [HEQ.out]
        exact HFIN.out _ _ _ _ _ _
end Go.Proofs.Ytafmnoeljefpaaa.Js

/- The contract of Fit. -/
set_option linter.unusedVariables false
set_option linter.unusedSimpArgs false
namespace Go.Proofs.Ytafmnoeljefpaaa.Js
open Go.RowKit Lex
open Quo (pickS pickS_nonneg pickS_lt IntsAt textR)

theorem fit_ok : ∀ n, n ≤ 15 → FitOk n
  | 0, _ => fun w v r hR => by
    obtain ⟨k, m, e, t, is⟩ := r
    obtain ⟨vt, ai, ci, rfl, hk, hm, he, ht, hni⟩ := hR
    have h0 := pickS_nonneg (c := k) (n := 7) (by decide)
    have h1 := pickS_lt (c := k) (n := 7) (by decide)
    rw [fitJ]
    by_cases c4 : pickS k 7 = 3
    · rw [if_pos (by omega)]; exact fit_num _ _ _ _ _ _ _ _ 0 w hk hm he c4
    · rw [if_neg (by omega)]
      by_cases c5 : pickS k 7 = 4
      · rw [if_pos (by omega)]; exact fit_text _ _ _ _ _ _ _ _ _ 0 w hk ht c5
      · rw [if_neg (by omega)]
        by_cases c6 : pickS k 7 = 5 ∨ pickS k 7 = 6
        · exact fit_empty _ _ _ _ _ _ _ 0 w hk hni c6
        · exact fit_kind _ _ _ _ _ _ _ _ 0 w hk (by omega)
  | n + 1, hn => fun w v r hR => by
    obtain ⟨k, m, e, t, is⟩ := r
    have hR' := hR
    obtain ⟨vt, ai, ci, rfl, hk, hm, he, ht, hni, _⟩ := hR'
    have h0 := pickS_nonneg (c := k) (n := 7) (by decide)
    have h1 := pickS_lt (c := k) (n := 7) (by decide)
    rw [fitJ]
    by_cases c4 : pickS k 7 = 3
    · rw [if_pos (by omega)]; exact fit_num _ _ _ _ _ _ _ _ (n + 1) w hk hm he c4
    · rw [if_neg (by omega)]
      by_cases c5 : pickS k 7 = 4
      · rw [if_pos (by omega)]; exact fit_text _ _ _ _ _ _ _ _ _ (n + 1) w hk ht c5
      · rw [if_neg (by omega)]
        by_cases c6 : pickS k 7 = 5
        · rw [if_pos (by omega), c6]
          exact fit_arr n (by omega) (fit_ok n (by omega)) w k m e t is _ hR c6
        · by_cases c7 : pickS k 7 = 6
          · rw [if_pos (by omega), c7]
            exact fit_obj n (by omega) (fit_ok n (by omega)) w k m e t is _ hR c7
          · rw [if_neg (by omega)]
            exact fit_kind _ _ _ _ _ _ _ _ (n + 1) w hk (by omega)
/-- Fit at a depth. -/
theorem fit_at (n : Nat) (hn : n ≤ 15) (D : Int) (hD : ((16 - n : Nat) : Int) = D) (w : World) (v : Value) (r : RT) (h : RAt w n v r) :
    Calls Try.prog 5 #[v, .int .i64 D] w fun e w' => ∃ k m e1 t an nn cn ai ni ci, e = .returned (.agg #[.int .i64 k, .int .i64 m, .int .i64 e1, .string t, .slice an nn cn, .slice ai ni ci]) ∧
      JA Any w' (.agg #[.int .i64 k, .int .i64 m, .int .i64 e1, .string t, .slice an nn cn, .slice ai ni ci]) (fitJ n r) ∧ Below w.heap.size w w' := by
  subst hD
  refine (fit_ok n hn w v r h).mono ?_
  rintro e w' ⟨k, m, e1, t, an, nn, cn, ai, ni, ci, rfl, hJ, hb⟩
  exact ⟨k, m, e1, t, an, nn, cn, ai, ni, ci, rfl, ⟨_, hJ.any⟩, hb⟩
end Go.Proofs.Ytafmnoeljefpaaa.Js
