import Derived.Test.YtmlpefpjemiccaaGreatDoorQw
/- The document's Parser: arrays. -/
set_option linter.unusedVariables false
set_option linter.unusedSimpArgs false
namespace Go.Proofs.YtmlpefpjemiccaaGreatDoor.Js
open Go.RowKit Lex

/-- How far a loop is from its end. -/
def dnN : Value → Nat → Nat
  | .bool true, _ => 0
  | _, k => 1 + k
theorem loop_start {w W0 : World} {pb n : Nat} {K : Int} (hs : W0.heap.size = w.heap.size) (hc : Chg (· = pb) w W0) (o : Obj) :
    PF w pb ((((W0.alloc (.cells zero6 27)).alloc o).alloc (.cells #[.int .i64 K, .int .i64 0, .int .i64 0, .string ⟨#[]⟩, .slice none 0 0, .slice none 0 0] 27)).drew) ∧
    PV w n K [] [] ((((W0.alloc (.cells zero6 27)).alloc o).alloc (.cells #[.int .i64 K, .int .i64 0, .int .i64 0, .string ⟨#[]⟩, .slice none 0 0, .slice none 0 0] 27)).drew) ∧
    Below W0.heap.size W0 ((((W0.alloc (.cells zero6 27)).alloc o).alloc (.cells #[.int .i64 K, .int .i64 0, .int .i64 0, .string ⟨#[]⟩, .slice none 0 0, .slice none 0 0] 27)).drew) := by
  have hb : Below W0.heap.size W0 ((((W0.alloc (.cells zero6 27)).alloc o).alloc (.cells #[.int .i64 K, .int .i64 0, .int .i64 0, .string ⟨#[]⟩, .slice none 0 0, .slice none 0 0] 27)).drew) :=
    ((((Below.refl _ _).alloc (Nat.le_refl _) _).alloc (by simp) _).alloc (by simp; omega) _).drew
  have s3 : ((((W0.alloc (.cells zero6 27)).alloc o).alloc (.cells #[.int .i64 K, .int .i64 0, .int .i64 0, .string ⟨#[]⟩, .slice none 0 0, .slice none 0 0] 27)).drew).heap.size = w.heap.size + 3 := by simp [hs]
  have e2 : ((W0.alloc (.cells zero6 27)).alloc o).heap.size = w.heap.size + 2 := by simp [hs]
  refine ⟨⟨hc.trans (.of_below hb), ?_, by omega⟩, ⟨_, _, _, own2_new ?_⟩, hb⟩
  · show ((((W0.alloc (.cells zero6 27)).alloc o).alloc (.cells #[.int .i64 K, .int .i64 0, .int .i64 0, .string ⟨#[]⟩, .slice none 0 0, .slice none 0 0] 27))).heap[w.heap.size]? = _
    rw [← hs, Below.heap_alloc _ _ _ (by rw [e2, hs]; omega), Below.heap_alloc _ _ _ (by simp)]
    exact heap_alloc_new W0 _
  · show ((((W0.alloc (.cells zero6 27)).alloc o).alloc (.cells #[.int .i64 K, .int .i64 0, .int .i64 0, .string ⟨#[]⟩, .slice none 0 0, .slice none 0 0] 27))).heap[w.heap.size + 2]? = _
    rw [← e2]; exact heap_alloc_new _ _
theorem sg_apart {y : Tok} {c d : UInt8} (h : sgB y c = true) (hd : c ≠ d) : sgB y d = false := by
  obtain ⟨_, ht⟩ := sgB_k h
  unfold sgB
  rw [ht]
  have : ([c] == [d]) = false := by simpa using hd
  rw [this, Bool.and_false]

set_option maxHeartbeats 16000000 in
set_option maxRecDepth 100000 in
theorem rvalue_arr (n : Nat) (hn : n ≤ 15) (ih : RValOk n) {w : World} {pb bt cap : Nat} {ts l : List Tok} {x : Tok} (h : Pa w pb bt cap ts (x :: l) 0) (hx : x.k = 1) (hc : x.t = [91]) :
    Calls Tryz.prog 29 #[.pointer (some ⟨pb, 0, none⟩), .int .i64 ((17 - (n + 1) : Nat) : Int)] w (RVRet w pb bt cap ts (n + 1) (arrS (valS n) l)) := by
  have hD : ((17 - n : Nat) : Int) = ((17 - (n + 1) : Nat) : Int) + 1 := by omega
  have hD1 : ((17 - (n + 1) : Nat) : Int) ≤ 16 := by omega
  have hD0 : (0 : Int) ≤ ((17 - (n + 1) : Nat) : Int) := by omega
  have IH : Hid (∀ (w' : World) (l' : List Tok), Pa w' pb bt cap ts l' 0 → Calls Tryz.prog 29 #[.pointer (some ⟨pb, 0, none⟩), .int .i64 (((17 - (n + 1) : Nat) : Int) + 1)] w' (RVRet w' pb bt cap ts n (valS n l'))) := fun w' l' hp => by rw [← hD]; exact ih w' pb bt cap ts l' hp
  generalize ((17 - (n + 1) : Nat) : Int) = D at *
  clear hD ih
  obtain ⟨y, l1, rfl⟩ := ex_cons (h.fin.tail (show x.k ≠ 5 by omega))
  obtain ⟨x0, x1, x2, x3, x4⟩ := h.here
  obtain ⟨r0, r1, r2⟩ := three_of h.blk
  have pf1 := free_of h.blk 1
  have hpl := h.lt
  have htl := h.blt
  have hle := h.at_.1
  have i1 : ((ts.length - (x :: y :: l1).length : Nat) : Int) < (ts.length : Int) := by omega
  have hln := h.len
  have HN := Lib.hid (h.next (x := x) (by omega))
  have hsuf := h.suf.length_le
  have HSU : Hid ((y :: l1).length ≤ ts.length) := by show _ ≤ _; simp at hsuf ⊢; omega
  rw [hx] at x0
  rw [hc] at x1
  clear h hsuf
  obtain ⟨P, HPP⟩ : ∃ P, Hid (ts.length - (x :: y :: l1).length = P) := ⟨_, rfl⟩
  rw [HPP.out] at hle i1 r1 x0 x1 x2 x3 x4 HN
  obtain ⟨NN, HNN⟩ : ∃ N, Hid (ts.length = N) := ⟨_, rfl⟩
  rw [HNN.out] at i1 hln hle r0
  generalize x.m = M at *
  generalize x.e = EE at *
  generalize x.p = Q at *
  have LS := Lib.hid (loop_start (w := w) (W0 := w.setCell ⟨pb, 1, none⟩ (.int .i64 ((P : Int) + 1))) (n := n) (K := 6) (by simp [World.setCell]) (Chg.setCell (X := fun k => k = pb) (Chg.refl _ w) (p := ⟨pb, 1, none⟩) (.inl rfl) _) (.cells #[.int .i64 1, .string ⟨#[91]⟩, .int .i64 M, .int .i64 EE, .int .i64 Q] 62))
  have IS := Lib.hid (is_any (HN.out.below LS.out.2.2) 93 _ rfl)
  obtain ⟨RR, HRR⟩ : ∃ RR, Hid (arrS (valS n) (y :: l1) = RR) := ⟨_, rfl⟩
  rw [HRR.out]
  obtain ⟨i0, hi0, hz0, hz1, hz2⟩ := info_parts json_info
  have HRR2 : Hid (RR = if sgB y 93 = true then ⟨0, .mk 6 0 0 [] [] [], l1⟩ else arrL (valS n) (y :: l1).length [] (y :: l1)) := by
    show _ = _; rw [← HRR.out]; rfl
  have hpl' : pb < w.heap.size + 2 := by omega
  have hnpb : ¬ pb = w.heap.size + 2 := by omega
  generalize hsg : sgB y 93 = sg at *
  unfold zero6 at IS LS
  clear HRR
  go_enter Tryz.func29, Tryz.ntmps29
  go_wp2_with fail
  go_region
  go_wp2_with (go_at_call 51; (with_reducible refine (IS.out).mono ?_); rintro e1 w1 ⟨rfl, hP1, hc1⟩)
  obtain ⟨hF0, hV0, -⟩ := LS.out
  have hF1 := Lib.hid (hF0.chgR hpl hc1)
  have hV1 := Lib.hid (hV0.chgR hpl hc1)
  have HP1 := Lib.hid hP1
  clear hF0 hV0 hP1 hc1 LS IS HN x0 x1 x2 x3 x4 r0 r1 r2 pf1 hle i1
  go_loopw [8] (fun d wr => (∃ (N : Nat) (acc : List J) (l' : List Tok), d = .bool false ∧ Hid (Pa wr pb bt cap ts l' 0) ∧ Hid (PF w pb wr) ∧ Hid (PV w n 6 [] acc wr) ∧ Hid (RR = arrL (valS n) N acc l') ∧ l'.length ≤ N ∧ acc.length + l'.length ≤ ts.length) ∨ (d = .bool true ∧ Hid (PE w pb bt cap ts (n + 1) 6 RR wr))) (fun d wr => dnN d (ts.length - posOf wr pb))
  case atStart =>
    cases sg with
    | true =>
      have e := HRR2.out
      rw [if_pos rfl] at e
      simp only [decide_true, Bool.and_self, if_true] at HP1
      refine .inr ⟨rfl, ?_⟩
      show PE _ _ _ _ _ _ _ _ _
      subst e
      exact ⟨HP1.out, hF1.out, hV1.out.pb, fun _ => hV1.out.pj ⟨by decide, by decide⟩ (by simp) (by simp)⟩
    | false =>
      have e := HRR2.out
      rw [if_neg (by decide)] at e
      simp only [Bool.and_false, Bool.false_eq_true, if_false] at HP1
      exact .inl ⟨_, [], y :: l1, rfl, HP1, hF1, hV1, e, Nat.le_refl _, by simpa using HSU.out⟩
  case round =>
    clear HRR2 HP1 hF1 hV1 hsg
    rcases hrel with ⟨N, acc, l', rfl, HPa, HF, HV, HR, hN, hlen⟩ | ⟨rfl, HE⟩
    · obtain ⟨y', l2, rfl⟩ := ex_cons HPa.out.fin
      obtain ⟨N', rfl⟩ : ∃ N', N = N' + 1 := ⟨N - 1, by simp at hN; omega⟩
      have hpos := HPa.out.pos
      obtain ⟨q0, q1, q2⟩ := three_of HPa.out.blk
      have hpr := HPa.out.lt
      obtain ⟨nv, iv, vs, hO⟩ := HV.out
      have hsz := HF.out.sz
      have hblw : w.heap.size + 2 < wr.heap.size := by omega
      have hblw' : w.heap.size + 1 + 1 < wr.heap.size := by omega
      obtain ⟨ao2, cap2, rfl⟩ := own_slice hO.irow
      obtain ⟨y0, y1, y2, y3, y4, y5⟩ := six_of hO.blk
      have HO := Lib.hid hO
      have hal : acc.length ≤ 1000000 := by rw [HNN.out] at hlen; omega
      have IC := Lib.hid (IH.out wr.drew _ (HPa.out.below (Below.refl _ _).drew))
      have HG := Lib.hid (val_good n (y' :: l2) HPa.out.fin)
      have HU := Lib.hid (show arrL (valS n) (N' + 1) acc (y' :: l2) = _ from by rw [arrL])
      unfold RVRet at IC
      rw [show D + 1 = IntKind.i64.wrap (D + 1) by rw [IntKind.wrap_i64]; omega] at IC
      generalize valS n (y' :: l2) = S at *
      obtain ⟨er, j, l3⟩ := S
      simp only at IC HG HU
      obtain ⟨z, l4, rfl⟩ := ex_cons HG.out.1
      have HPS := Lib.hid HPa.out.suf.length_le
      clear hO IH HV
      go_wp2_with fail
      go_region_law (first
        | (go_simp; go_at_call 29; (with_reducible refine (IC.out).mono ?_); rintro e3 w3 ⟨k3, m3, e3', t3, an3, nn3, cn3, ai3, ni3, ci3, rfl, hP3, hc3, hJ3⟩; have hc3' : Chg (fun k => k = pb) wr w3 := (Chg.of_below ((Below.refl _ _).drew)).trans hc3; have hs3 := hc3'.size; have hl3 : w.heap.size + 2 < w3.heap.size := (by omega); have hl3' : w.heap.size + 1 + 1 < w3.heap.size := (by omega); have HO3 := Lib.hid (HO.out.chgR hc3' (by omega) (by omega)); have y5' := (six_of HO3.out.blk).2.2.2.2.2; have yf := free_of HO3.out.blk 5; have HNE := Lib.hid HO3.out.ine)
        | (refine step_append_lies _ (by rfl) _ _ _ (by rfl) (w.heap.size + 3) 27 i0 _ 6 88 Tryz.underlying25 hi0 hz0 hz1 hz2 rfl (by omega) _ acc.length (vs.flatMap aggC) (by rfl) (HO3.out.irow.alloc _) ⟨w3.heap.size, 0, none⟩ 1 1 [.int .i64 k3, .int .i64 m3, .int .i64 e3', .string t3, .slice an3 nn3 cn3, .slice ai3 ni3 ci3] (by rfl) (by rfl) (World.news_of_block (cs := #[.int .i64 k3, .int .i64 m3, .int .i64 e3', .string t3, .slice an3 nn3 cn3, .slice ai3 ni3 ci3]) (t := 27) (fr := (0, 0)) (heap_alloc_new _ _)) (by simp [Value.oneCell']) (by omega) (by unfold maxLen; omega) (by omega) (by simp; omega) (w3.heap.size + 1) (by simp) ?_; intro g cp w4 hown hgrow hat hlt; have k5 := (hgrow.cell_far ⟨w.heap.size + 2, 5, none⟩ (by simp; omega) (fun h => HNE.out h.symm)).trans ((World.cell?_of_block (w := w3) (a := ⟨w.heap.size + 2, 5, none⟩) (Below.heap_alloc _ _ _ (by show w.heap.size + 2 < w3.heap.size; omega))).trans y5'); have kf := (hgrow.frozen_far ⟨w.heap.size + 2, 5, none⟩ (by simp; omega) (fun h => HNE.out h.symm)).trans ((World.frozen?_of_block (w := w3) (a := ⟨w.heap.size + 2, 5, none⟩) (Below.heap_alloc _ _ _ (by show w.heap.size + 2 < w3.heap.size; omega))).trans yf)))
      all_goals
        obtain ⟨hP5, hF5, hB5⟩ := item_leaves (g := g) (cp := cp) hpl htl HF.out HO.out hc3' hP3 ((Below.refl w3.heap.size w3).alloc (Nat.le_refl _) _) hgrow
        have HF5 := Lib.hid hF5
        have HB5 := Lib.hid hB5
        have I44 := Lib.hid (is_any hP5 44 ⟨#[44]⟩ rfl)
        obtain ⟨hg1, hg2, hg3⟩ := HG.out
        clear hP5 hF5 hB5 HPa y0 y1 y2 y3 y4 y5 y5' yf k5 kf q0 q1 q2 IC
        by_cases he : er = 0
        · subst he
          have HV5 := Lib.hid (item_makes hpl HF.out HO.out hc3' ((Below.refl w3.heap.size w3).alloc (Nat.le_refl _) _) hgrow (hat.imp id (fun h => by omega)) hown (hJ3 rfl))
          clear hown hgrow hat hlt HO3 HO hJ3 hP3 hc3 HF HNE
          have hg4 := hg3 rfl
          cases h44 : sgB z 44 with
          | true =>
            rw [h44] at I44
            simp only [decide_true, Bool.and_self, if_true] at I44
            have h93 := sg_apart h44 (show (44 : UInt8) ≠ 93 by decide)
            have HR2 : Hid (RR = arrL (valS n) N' (acc ++ [j]) l4) := by
              show _ = _
              rw [HR.out, HU.out, if_pos rfl]
              unfold moreS
              simp only
              rw [if_neg (by rw [h93]; decide), if_pos h44]
            go_wp2_with (go_at_call 51; (with_reducible refine (I44.out).mono ?_); rintro e6 w6 ⟨rfl, hP6, hc6⟩)
            have hp6 := hP6.pos
            go_roundw
            case rel => exact .inl ⟨N', acc ++ [j], l4, rfl, hP6, HF5.out.chgR hpl hc6, HV5.out.chgR hpl hc6, HR2, by simp at hg4 hN; omega, by simp at hg4 hlen ⊢; omega⟩
            case measure => simp only [dnN]; rw [hp6, hpos]; simp at hg4 ⊢; omega
          | false =>
            rw [h44] at I44
            simp only [Bool.and_false, Bool.false_eq_true, if_false] at I44
            cases h93 : sgB z 93 with
            | true =>
              have HR2 : Hid (RR = ⟨0, .mk 6 0 0 [] [] (acc ++ [j]), l4⟩) := by
                show _ = _
                rw [HR.out, HU.out, if_pos rfl]
                unfold moreS
                simp only
                rw [if_pos h93]
              go_wp2_with (first
                | (go_at_call 51; (with_reducible refine (I44.out).mono ?_); rintro e6 w6 ⟨rfl, hP6, hc6⟩; have M93 := must_any hP6 93 ⟨#[93]⟩ rfl; unfold mustE at M93; rw [h93, if_pos rfl, if_pos rfl] at M93; simp only [decide_true, Bool.and_self, if_true] at M93; have HM := Lib.hid M93; clear M93)
                | (go_at_call 52; (with_reducible refine (HM.out).mono ?_); rintro e7 w7 ⟨rfl, hP7, hc7⟩))
              go_roundw
              case rel =>
                refine .inr ⟨rfl, ?_⟩
                show PE _ _ _ _ _ _ _ _ _
                have hc67 := hc6.trans hc7
                have hV7 := HV5.out.chgR hpl hc67
                rw [HR2.out]
                exact ⟨hP7, HF5.out.chgR hpl hc67, hV7.pb, fun _ => hV7.pj ⟨by decide, by decide⟩ (by simp) (by simp at hlen ⊢; have := HNN.out; omega)⟩
              case measure => simp only [dnN]; omega
            | false =>
              have HR2 : Hid (RR = ⟨40, j0, z :: l4⟩) := by
                show _ = _
                rw [HR.out, HU.out, if_pos rfl]
                unfold moreS
                simp only
                rw [if_neg (by rw [h93]; decide), if_neg (by rw [h44]; decide)]
              go_wp2_with (first
                | (go_at_call 51; (with_reducible refine (I44.out).mono ?_); rintro e6 w6 ⟨rfl, hP6, hc6⟩; have M93 := must_any hP6 93 ⟨#[93]⟩ rfl; unfold mustE at M93; rw [h93, if_pos rfl, if_neg (by decide)] at M93; simp only [Bool.and_false, Bool.false_eq_true, if_false] at M93; have HM := Lib.hid M93; clear M93)
                | (go_at_call 52; (with_reducible refine (HM.out).mono ?_); rintro e7 w7 ⟨rfl, hP7, hc7⟩))
              go_roundw
              case rel =>
                refine .inr ⟨rfl, ?_⟩
                show PE _ _ _ _ _ _ _ _ _
                have hc67 := hc6.trans hc7
                rw [HR2.out]
                exact ⟨hP7, HF5.out.chgR hpl hc67, HB5.out.chgR hpl hc67, fun h => absurd (show (40 : Int) = 0 from h) (by decide)⟩
              case measure => simp only [dnN]; omega
        · have HR2 : Hid (RR = ⟨er, j0, z :: l4⟩) := by
            show _ = _
            rw [HR.out, HU.out, if_neg he]
          rw [decide_eq_false he] at I44
          simp only [Bool.false_and, Bool.false_eq_true, if_false] at I44
          have HER := Lib.hid he
          clear hown hgrow hat hlt HO3 HO hJ3 hP3 hc3 HF HNE he
          go_wp2_with (first
            | (go_at_call 51; (with_reducible refine (I44.out).mono ?_); rintro e6 w6 ⟨rfl, hP6, hc6⟩; have M93 := must_any hP6 93 ⟨#[93]⟩ rfl; unfold mustE at M93; rw [if_neg HER.out, decide_eq_false HER.out] at M93; simp only [Bool.false_and, Bool.false_eq_true, if_false] at M93; have HM := Lib.hid M93; clear M93)
            | (go_at_call 52; (with_reducible refine (HM.out).mono ?_); rintro e7 w7 ⟨rfl, hP7, hc7⟩))
          go_roundw
          case rel =>
            refine .inr ⟨rfl, ?_⟩
            show PE _ _ _ _ _ _ _ _ _
            have hc67 := hc6.trans hc7
            rw [HR2.out]
            exact ⟨hP7, HF5.out.chgR hpl hc67, HB5.out.chgR hpl hc67, fun h => absurd h HER.out⟩
          case measure => simp only [dnN]; omega
    · obtain ⟨a, nn, c, a', nn', c', hb, hfin⟩ := HE.out.fin hpl htl
      obtain ⟨y0, y1, y2, y3, y4, y5⟩ := six_of hb
      have hres := HE.out.pf.bres
      unfold zero6 at hres
      obtain ⟨z0, z1, z2, z3, z4, z5⟩ := six_of hres
      have g0 := free_of hres 0
      have g1 := free_of hres 1
      have g2 := free_of hres 2
      have g3 := free_of hres 3
      have g4 := free_of hres 4
      have g5 := free_of hres 5
      have HFIN := Lib.hid hfin
      have hlb := Own.block_lt hb
      clear hfin hb hres HE IH
      go_wp2_with fail
      refine bodyPost_ret (v := .agg #[.int .i64 6, .int .i64 0, .int .i64 0, .string ⟨#[]⟩, .slice a nn c, .slice a' nn' c']) (by simp [results, Tryz.results29, go_sem, z0, z1, z2, z3, z4, z5]) rfl ?_
      exact HFIN.out _ _ _ _ _ _
end Go.Proofs.YtmlpefpjemiccaaGreatDoor.Js
