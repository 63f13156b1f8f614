import Derived.Test.YtafmnoeljefpaaaFt4
/- The contract of Fit: arrays. -/
set_option linter.unusedVariables false
set_option linter.unusedSimpArgs false
namespace Go.Proofs.Ytafmnoeljefpaaa.Js
open Go.RowKit Lex
open Quo (pickS pickS_nonneg pickS_lt IntsAt textR)

theorem five_cells {w : World} {b o : Nat} {c0 c1 c2 c3 c4 : Value} (h : LiesAt w b o (.agg #[c0, c1, c2, c3, c4])) :
    w.cell? ⟨b, o, none⟩ = some c0 ∧ w.cell? ⟨b, o + 1, none⟩ = some c1 ∧ w.cell? ⟨b, o + 2, none⟩ = some c2 ∧ w.cell? ⟨b, o + 3, none⟩ = some c3 ∧ w.cell? ⟨b, o + 4, none⟩ = some c4 :=
  ⟨h 0 c0 rfl, h 1 c1 rfl, h 2 c2 rfl, h 3 c3 rfl, h 4 c4 rfl⟩
theorem five_of {w : World} {b : Nat} {T : TypeId} {f : Nat × Nat} {c0 c1 c2 c3 c4 : Value} (h : w.heap[b]? = some (.cells #[c0, c1, c2, c3, c4] T f)) :
    w.cell? ⟨b, 0, none⟩ = some c0 ∧ w.cell? ⟨b, 1, none⟩ = some c1 ∧ w.cell? ⟨b, 2, none⟩ = some c2 ∧ w.cell? ⟨b, 3, none⟩ = some c3 ∧ w.cell? ⟨b, 4, none⟩ = some c4 := by
  have k : ∀ i, w.cell? ⟨b, i, none⟩ = (#[c0, c1, c2, c3, c4] : Array Value)[i]? := fun i => cell_of_row _ _ _ _ _ _ h
  exact ⟨k 0, k 1, k 2, k 3, k 4⟩
theorem RAt.form {w : World} {n : Nat} {v : Value} {r : RT} (h : RAt w n v r) : ∃ k m e ao tl c ai ni ci, v = .agg #[.int .i64 k, .int .i64 m, .int .i64 e, .slice ao tl c, .slice ai ni ci] ∧ TxtAt w (.slice ao tl c) r.txt ∧ tl = r.txt.length ∧ tl ≤ c ∧ tl ≤ 9223372036854775807 := by
  obtain ⟨k, m, e, t, is⟩ := r
  obtain ⟨vt, ai, ci, rfl, _, _, _, ht, _⟩ := h.zero
  obtain ⟨_, ao, c, rfl, h1, h2⟩ := id ht
  exact ⟨_, _, _, _, _, _, _, _, _, rfl, ht, rfl, h1, h2⟩
theorem drop_getD {l : List RT} {q : Nat} (h : q < (l.take 12).length) : (l.take 12).drop q = l.getD q rt0 :: (l.take 12).drop (q + 1) := by
  rw [List.drop_eq_getElem_cons h]
  congr 1
  rw [List.getElem_take, List.getD_eq_getElem?_getD, List.getElem?_eq_getElem (by simp at h; omega)]
  rfl

set_option maxHeartbeats 8000000 in
set_option maxRecDepth 100000 in
theorem fit_arr (n : Nat) (hn : n ≤ 14) (ih : FitOk n) (w : World) (k m e : Int) (t : List Int) (is : List RT) (v : Value) (hR : RAt w (n + 1) v (.mk k m e t is)) (hK : pickS k 7 = 5) :
    Calls Try.prog 5 #[v, .int .i64 ((16 - (n + 1) : Nat) : Int)] w (FRet w (n + 2) (.mk 6 0 0 [] (fitL (fitJ n) false (is.take 12) [] []).1 (fitL (fitJ n) false (is.take 12) [] []).2)) := by
  obtain ⟨vt, ai, ci, rfl, hk, hm, he, ht, hni, hit⟩ := hR
  have P1 := Lib.hid (fun w => pick_any k 7 w hk (by decide) (by decide))
  rw [hK] at P1
  have hD : ((16 - n : Nat) : Int) = ((16 - (n + 1) : Nat) : Int) + 1 := by omega
  have hD1 : ((16 - (n + 1) : Nat) : Int) < 16 := by omega
  have hD0 : (0 : Int) ≤ ((16 - (n + 1) : Nat) : Int) := by omega
  have IH : Hid (∀ (w' : World) (u : Value) (y : RT), RAt w n u y → Below w.heap.size w w' → Calls Try.prog 5 #[u, .int .i64 (((16 - (n + 1) : Nat) : Int) + 1)] w' (FRet w' (n + 1) (fitJ n y))) := fun w' u y hu hb => by rw [← hD]; exact ih w' u y (hu.below hb)
  generalize ((16 - (n + 1) : Nat) : Int) = D at *
  clear hK hD ih hk hm he ht
  have HIT := Lib.hid hit
  have HL : Hid ((is.take 12).length = min is.length 12) := by show _ = _; simp; omega
  obtain ⟨FN, HFN⟩ : ∃ FN, Hid (fitL (fitJ n) false (is.take 12) [] [] = FN) := ⟨_, rfl⟩
  rw [HFN.out]
  obtain ⟨i0, hi0, hz0, hz1, hz2⟩ := info_parts json_info
  clear hit
  go_enter Try.func5, Try.ntmps5
  go_wp2_with (go_at_call 13; (with_reducible refine (P1.out _).mono ?_); rintro e1 w1 ⟨rfl, rfl⟩)
  go_loopw [7] (fun i wr => ∃ (q : Nat) (acc : List J), q ≤ 12 ∧ q ≤ is.length ∧ i = .int .i64 (q : Int) ∧ Hid (fitL (fitJ n) false ((is.take 12).drop q) [] acc = FN) ∧ acc.length ≤ q ∧ Hid (FI w n 6 #[.int .i64 k, .int .i64 m, .int .i64 e, vt, .slice ai is.length ci] [] acc wr)) (fun i _ => 13 - (intOf i).toNat)
  case atStart => exact ⟨0, [], by omega, by omega, rfl, HFN, by simp, FI.begin⟩
  case round =>
    obtain ⟨q, acc, hq12, hqn, rfl, HF, hal, HI⟩ := hrel
    have hsz := HI.out.sz
    obtain ⟨xx0, xx1, xx2, xx3, xx4⟩ := five_of HI.out.bx
    by_cases hlt : q < is.length ∧ q < 12
    · obtain ⟨hl1, hl2⟩ := hlt
      have a1 : (q : Int) < (is.length : Int) := by omega
      have a2 : (q : Int) < 12 := by omega
      obtain ⟨b, off, rfl, hbl, hel⟩ := HIT.out (by omega)
      obtain ⟨u, hlies, hu⟩ := hel q hl1
      obtain ⟨k', m', e', ao, tl, c, ai', ni', ci', rfl, htx, htl, hc1, hc2⟩ := hu.form
      obtain ⟨v0, v1, v2, v3, v4⟩ := five_cells (hlies.keep (HI.out.bel.block b hbl))
      have T1 : Hid (∀ w', Below w.heap.size w w' → Calls Try.prog 15 #[.slice ao (min (tl : Int) 8).toNat c] w' (Ret (.string ⟨(nameR (is.getD q rt0)).toArray⟩) w')) := fun w' hb => by
        subst htl
        exact text_of _ _ w' ((htx.take 8).below hb)
      have HU : Hid (RAt w n (.agg #[.int .i64 k', .int .i64 m', .int .i64 e', .slice ao tl c, .slice ai' ni' ci']) (is.getD q rt0)) := hu
      have HS : Hid ((is.take 12).drop q = is.getD q rt0 :: (is.take 12).drop (q + 1)) := drop_getD (by rw [HL.out]; omega)
      clear hel hlies htx hu htl
      generalize is.getD q rt0 = y at *
      have HBW : Hid (∀ o, Below w.heap.size w (wr.alloc o)) := fun o => HI.out.bel.alloc HI.out.bel.size o
      have hblr : b < wr.heap.size := by have := HI.out.bel.size; omega
      go_wp2_with (go_at_call 15; (with_reducible refine (T1.out _ (HBW.out _)).mono ?_); rintro e1 w2 ⟨rfl, hb2⟩)
      have HF2 : Hid (fitL (fitJ n) false ((is.take 12).drop (q + 1)) [] (acc ++ [fitJ n y]) = FN) := by
        have h1 := HF.out
        rw [HS.out, fitL, if_neg (by simp), if_neg (by decide)] at h1
        exact h1
      have hs2 := hb2.size
      simp only [World.size_alloc] at hs2
      have hFI := (HI.out.below ((Below.refl _ _).alloc (Nat.le_refl _) _) (Nat.le_refl _)).below hb2 (Nat.le_refl _)
      have hbyl : w2.heap[wr.heap.size]? = some (.cells #[.int .i64 k', .int .i64 m', .int .i64 e', .slice ao tl c, .slice ai' ni' ci'] 26 (0, 0)) := (hb2.block _ (by simp)).trans (heap_alloc_new wr _)
      have HBB : Hid (Below w.heap.size w w2) := hFI.bel
      obtain ⟨nv, iv, vs, hO⟩ := hFI.own
      clear HI HBW T1 hb2 v0 v1 v2 v3 v4 xx0 xx1 xx2 xx3 xx4 hblr
      obtain ⟨p0, p1, p2, p3, p4⟩ := five_of hbyl
      have hpl : wr.heap.size < w2.heap.size := Own.block_lt hbyl
      have HFI := Lib.hid hFI
      have HO := Lib.hid hO
      have hsz2 := hFI.sz
      have hbl2 : w.heap.size + 2 < w2.heap.size := by omega
      obtain ⟨ao2, cap2, rfl⟩ := own_slice hO.irow
      obtain ⟨y0, y1, y2, y3, y4, y5⟩ := six_of hO.blk
      clear hFI hO hbyl
      have IC := Lib.hid (IH.out w2.drew _ y HU.out HBB.out.drew)
      unfold FRet at IC
      rw [show D + 1 = IntKind.i64.wrap (D + 1) by rw [IntKind.wrap_i64]; omega] at IC
      clear IH HU
      go_region_law (first
        | (go_simp; go_at_call 5; (with_reducible refine (IC.out).mono ?_); rintro e3 w3 ⟨k3, m3, e3', t3, an3, nn3, cn3, ai3, ni3, ci3, rfl, hJ3, hb3⟩; have hb3' : Below w2.heap.size w2 w3 := ((Below.refl _ _).drew).trans hb3; have hs3 := hb3'.size; have hl3 : w.heap.size + 2 < w3.heap.size := (by omega); have hl3' : w.heap.size + 1 + 1 < w3.heap.size := (by omega); have HO3 := Lib.hid (HO.out.below hb3' (Nat.le_refl _)); have y5' := (six_of HO3.out.blk).2.2.2.2.2; have yf := free_of HO3.out.blk 5; have HNE := Lib.hid HO3.out.ine)
        | (refine step_append_lies _ (by rfl) _ _ _ (by rfl) (w.heap.size + 3) 35 i0 _ 6 88 Try.underlying29 hi0 hz0 hz1 hz2 rfl (by omega) _ acc.length (vs.flatMap aggC) (by rfl) (HO3.out.irow.alloc _) ⟨w3.heap.size, 0, none⟩ 1 1 [.int .i64 k3, .int .i64 m3, .int .i64 e3', .string t3, .slice an3 nn3 cn3, .slice ai3 ni3 ci3] (by rfl) (by rfl) (World.news_of_block (cs := #[.int .i64 k3, .int .i64 m3, .int .i64 e3', .string t3, .slice an3 nn3 cn3, .slice ai3 ni3 ci3]) (t := 35) (fr := (0, 0)) (heap_alloc_new _ _)) (by simp [Value.oneCell']) (by omega) (by unfold maxLen; omega) (by omega) (by simp; omega) (w3.heap.size + 1) (by simp) ?_; intro g cp w4 hown hgrow hat hlt; have k5 := (hgrow.cell_far ⟨w.heap.size + 2, 5, none⟩ (by simp; omega) (fun h => HNE.out h.symm)).trans ((World.cell?_of_block (w := w3) (a := ⟨w.heap.size + 2, 5, none⟩) (Below.heap_alloc _ _ _ (by show w.heap.size + 2 < w3.heap.size; omega))).trans y5'); have kf := (hgrow.frozen_far ⟨w.heap.size + 2, 5, none⟩ (by simp; omega) (fun h => HNE.out h.symm)).trans ((World.frozen?_of_block (w := w3) (a := ⟨w.heap.size + 2, 5, none⟩) (Below.heap_alloc _ _ _ (by show w.heap.size + 2 < w3.heap.size; omega))).trans yf)))
      all_goals go_wp2_with fail
      all_goals go_roundw
      all_goals first
        | exact ⟨q + 1, acc ++ [fitJ n y], by omega, by omega, by go_num, HF2, by simp; omega, HFI.out.item HO.out hb3' ((Below.refl _ _).alloc (Nat.le_refl _) _) hgrow (hat.imp id (fun h => by omega)) hown hJ3⟩
        | (simp [intOf]; omega)
    · obtain ⟨a, nn, c, a', nn', c', hblk, hfin⟩ := HI.out.fin ⟨by decide, by decide⟩ (by simp) (by omega)
      obtain ⟨y0, y1, y2, y3, y4, y5⟩ := six_of hblk
      have hres := HI.out.bres
      unfold zero6 at hres
      obtain ⟨z0, z1, z2, z3, z4, z5⟩ := six_of hres
      have g0 := free_of hres 0
      have g1 := free_of hres 1
      have g2 := free_of hres 2
      have g3 := free_of hres 3
      have g4 := free_of hres 4
      have g5 := free_of hres 5
      have HEQ : Hid (FN = ([], acc)) := by
        have h1 := HF.out
        rw [List.drop_eq_nil_of_le (by rw [HL.out]; omega), fitL] at h1
        exact h1.symm
      have HFIN := Lib.hid hfin
      clear hfin hblk hres HI
      by_cases hl : q < is.length
      · have a1 : (q : Int) < (is.length : Int) := by omega
        obtain rfl : q = 12 := by omega
        go_wp2_with fail
        refine bodyPost_ret (v := .agg #[.int .i64 6, .int .i64 0, .int .i64 0, .string ⟨#[]⟩, .slice a nn c, .slice a' nn' c']) (by simp [results, Try.results5, go_sem, z0, z1, z2, z3, z4, z5]) rfl ?_
        rw [HEQ.out]
        exact HFIN.out _ _ _ _ _ _
      · obtain rfl : q = is.length := by omega
        go_wp2_with fail
        refine bodyPost_ret (v := .agg #[.int .i64 6, .int .i64 0, .int .i64 0, .string ⟨#[]⟩, .slice a nn c, .slice a' nn' c']) (by simp [results, Try.results5, go_sem, z0, z1, z2, z3, z4, z5]) rfl ?_
        rw [HEQ.out]
        exact HFIN.out _ _ _ _ _ _
end Go.Proofs.Ytafmnoeljefpaaa.Js
