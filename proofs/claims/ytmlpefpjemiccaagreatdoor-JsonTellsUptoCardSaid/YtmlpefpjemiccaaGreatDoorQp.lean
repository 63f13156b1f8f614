import Derived.Test.YtmlpefpjemiccaaGreatDoorQy
import Derived.Test.YtmlpefpjemiccaaGreatDoorQm
import Derived.Test.YtmlpefpjemiccaaGreatDoorParse
import Derived.Test.YtmlpefpjemiccaaGreatDoorRScan
/- The document's Parser: every value; its Parse. -/
set_option linter.unusedVariables false
set_option linter.unusedSimpArgs false
namespace Go.Proofs.YtmlpefpjemiccaaGreatDoor.Js
open Go.RowKit Lex

theorem belowP (w : World) (o : Obj) : Below w.heap.size w (w.alloc o) := (Below.refl _ _).alloc (Nat.le_refl _) _
theorem kind_sign (c : UInt8) (h1 : c ≠ 91) (h2 : c ≠ 123) : kindS [c] = 0 := by
  unfold kindS
  rw [if_neg (by unfold nullL; simp), if_neg (by unfold falseL; simp), if_neg (by unfold trueL; simp), if_neg (by simpa using h1), if_neg (by simpa using h2)]
theorem begun_one {x : Tok} (h : x.k = 1) : (begunS x).k = kindS x.t := by unfold begunS; rw [if_neg (by omega), if_neg (by omega), if_pos (.inr h)]; rfl
theorem begun_two {x : Tok} (h : x.k = 2) : (begunS x).k = 5 := by unfold begunS; rw [if_pos h]; rfl
theorem begun_three {x : Tok} (h : x.k = 3) : (begunS x).k = 4 := by unfold begunS; rw [if_neg (by omega), if_pos h]; rfl
theorem begun_four {x : Tok} (h : x.k = 4) : (begunS x).k = kindS x.t := by unfold begunS; rw [if_neg (by omega), if_neg (by omega), if_pos (.inl h)]; rfl
theorem begun_five {x : Tok} (h : x.k = 5) : (begunS x).k = 0 := by unfold begunS; rw [if_neg (by omega), if_neg (by omega), if_neg (by omega)]; rfl
theorem kind_null : kindS nullL = 1 := by decide
theorem kind_false : kindS falseL = 2 := by decide
theorem kind_true : kindS trueL = 3 := by decide
theorem val0 {x : Tok} {l : List Tok} {e : Int} (h : (if (begunS x).k = 0 then 40 else 41) = e) : valS 0 (x :: l) = ⟨e, j0, x :: l⟩ := by rw [valS, h]
theorem valn {n : Nat} {x : Tok} {l : List Tok} (h0 : (begunS x).k ≠ 0) (h6 : (begunS x).k ≠ 6) (h7 : (begunS x).k ≠ 7) : valS (n + 1) (x :: l) = ⟨0, begunS x, l⟩ := by
  rw [valS, if_neg h0, if_neg h6, if_neg h7]
theorem valn0 {n : Nat} {x : Tok} {l : List Tok} (h0 : (begunS x).k = 0) : valS (n + 1) (x :: l) = ⟨40, j0, x :: l⟩ := by
  rw [valS, if_pos h0]
theorem rval_ok : ∀ n, n ≤ 16 → RValOk n
  | 0, _ => fun w pb bt cap ts l h => by
    obtain ⟨x, l', rfl⟩ := ex_cons h.fin
    have hD : (16 : Int) < ((17 - 0 : Nat) : Int) := by decide
    rcases h.word x (h.suf.mem (by simp)) with ⟨hk, c, hc⟩ | hk | hk | ⟨hk, hc⟩ | hk
    · by_cases h1 : c = 91
      · subst h1
        rw [val0 (show _ = (41 : Int) from by rw [begun_one hk, hc]; decide)]
        exact rdeep_arr h hk hc _ hD 0
      · by_cases h2 : c = 123
        · subst h2
          rw [val0 (show _ = (41 : Int) from by rw [begun_one hk, hc]; decide)]
          exact rdeep_obj h hk hc _ hD 0
        · rw [val0 (show _ = (40 : Int) from by rw [begun_one hk, hc, kind_sign c h1 h2]; rfl)]
          exact rvalue_sign h hk hc h1 h2 _ 0
    · rw [val0 (show _ = (41 : Int) from by rw [begun_two hk]; rfl)]
      exact rdeep_text h hk _ hD 0
    · rw [val0 (show _ = (41 : Int) from by rw [begun_three hk]; rfl)]
      exact rdeep_num h hk _ hD 0
    · rw [val0 (show _ = (41 : Int) from by rw [begun_four hk]; rcases hc with hc | hc | hc <;> rw [hc] <;> decide)]
      exact rdeep_word h hk _ hD 0
    · rw [val0 (show _ = (40 : Int) from by rw [begun_five hk]; rfl)]
      exact rvalue_five h hk _ 0
  | n + 1, hn => fun w pb bt cap ts l h => by
    obtain ⟨x, l', rfl⟩ := ex_cons h.fin
    have hD : ((17 - (n + 1) : Nat) : Int) ≤ 16 := by omega
    rcases h.word x (h.suf.mem (by simp)) with ⟨hk, c, hc⟩ | hk | hk | ⟨hk, hc⟩ | hk
    · by_cases h1 : c = 91
      · subst h1
        have e : (begunS x).k = 6 := by rw [begun_one hk, hc]; decide
        rw [show valS (n + 1) (x :: l') = arrS (valS n) l' by rw [valS, if_neg (by rw [e]; decide), if_pos e]]
        exact rvalue_arr n (by omega) (rval_ok n (by omega)) h hk hc
      · by_cases h2 : c = 123
        · subst h2
          have e : (begunS x).k = 7 := by rw [begun_one hk, hc]; decide
          rw [show valS (n + 1) (x :: l') = objS (valS n) l' by rw [valS, if_neg (by rw [e]; decide), if_neg (by rw [e]; decide), if_pos e]]
          exact rvalue_obj n (by omega) (rval_ok n (by omega)) h hk hc
        · rw [valn0 (by rw [begun_one hk, hc, kind_sign c h1 h2]; rfl)]
          exact rvalue_sign h hk hc h1 h2 _ (n + 1)
    · rw [valn (by rw [begun_two hk]; decide) (by rw [begun_two hk]; decide) (by rw [begun_two hk]; decide)]
      exact rleaf_text h hk _ hD n
    · rw [valn (by rw [begun_three hk]; decide) (by rw [begun_three hk]; decide) (by rw [begun_three hk]; decide)]
      exact rleaf_num h hk _ hD n
    · rcases hc with hc | hc | hc
      · rw [valn (by rw [begun_four hk, hc, kind_null]; decide) (by rw [begun_four hk, hc, kind_null]; decide) (by rw [begun_four hk, hc, kind_null]; decide)]
        exact rleaf_null h hk hc _ hD n
      · rw [valn (by rw [begun_four hk, hc, kind_false]; decide) (by rw [begun_four hk, hc, kind_false]; decide) (by rw [begun_four hk, hc, kind_false]; decide)]
        exact rleaf_false h hk hc _ hD n
      · rw [valn (by rw [begun_four hk, hc, kind_true]; decide) (by rw [begun_four hk, hc, kind_true]; decide) (by rw [begun_four hk, hc, kind_true]; decide)]
        exact rleaf_true h hk hc _ hD n
    · rw [valn0 (begun_five hk)]
      exact rvalue_five h hk _ (n + 1)

theorem rscan_l (s : List UInt8) (w : World) (hs : s.length ≤ maxLen) : Calls Tryz.prog 28 #[.string ⟨s.toArray⟩] w (ScanRet (scanS s) w) := Lex.rscan_any ⟨s.toArray⟩ w (by rw [bs_size]; exact hs)
theorem rscan_toks (s : List UInt8) (ts : List Tok) (h : scanS s = .inr ts) (w : World) (hs : s.length ≤ maxLen) : Calls Tryz.prog 28 #[.string ⟨s.toArray⟩] w fun e w' =>
    ∃ bt cap, e = .returned (.tuple #[.slice (some ⟨bt, 0, none⟩) ts.length cap, .int .i64 0, .int .i64 0]) ∧ bt < w'.heap.size ∧ (∀ j, j < ts.length → TokIn w' bt (j * 5) (ts.getD j tok0)) ∧ Below w.heap.size w w' ∧ w.heap.size ≤ bt := by
  refine (rscan_l s w hs).mono ?_
  rw [h]
  rintro e w' ⟨v, rfl, ho, hb⟩
  have h2 := ho.2
  rcases ToksOwn.at_ ho with ⟨_, _, _, h0⟩ | ⟨b, cap, rfl, _, _, hlt, hT⟩
  · exact absurd h0 (scanS_inr h).1.ne
  · refine ⟨b, cap, rfl, hlt, hT, hb, ?_⟩
    rcases h2 with ⟨hv, _⟩ | ⟨g, cap', cur, hv, hbg, _⟩
    · cases hv
    · simp only [Value.slice.injEq, Option.some.injEq, Addr.mk.injEq] at hv
      obtain ⟨⟨rfl, _⟩, _⟩ := hv
      exact hbg
theorem scanS_word {s : List UInt8} {ts : List Tok} (h : scanS s = .inr ts) : WordG ts := by
  unfold scanS at h
  split at h
  · cases h
  · exact scan_tokQ h
/-- A Parser, new. -/
theorem pa_new {w : World} {ts : List Tok} {bt cap : Nat} (hb : bt < w.heap.size) (hT : ∀ j, j < ts.length → TokIn w bt (j * 5) (ts.getD j tok0)) (h : EndL ts ∧ AllG 1099511627776 ts ∧ ts.length ≤ 1000000) (hw : WordG ts) :
    Pa (w.alloc (.cells #[.slice (some ⟨bt, 0, none⟩) ts.length cap, .int .i64 0, .int .i64 0] 66)) w.heap.size bt cap ts ts 0 :=
  ⟨by rw [heap_alloc_new, Nat.sub_self]; rfl, fun j hj => (hT j hj).below ((Below.refl w.heap.size w).alloc (Nat.le_refl _) _) hb, by omega, by simp; omega, List.suffix_refl _, h.1, h.2.2, h.2.1, hw⟩
/-- What has stayed, when a value has been read. -/
theorem pa_stays {w w1 w2 : World} {cs pa vb : Array Value} {T1 T2 T3 : TypeId} (hres : w1.heap[w.heap.size]? = some (.cells cs T1 (0, 0))) (hbw : Below w.heap.size w w1)
    (hc : Chg (· = w1.heap.size) (w1.alloc (.cells pa T2)) w2) :
    (w2.alloc (.cells vb T3)).heap[w.heap.size]? = some (.cells cs T1 (0, 0)) ∧ (w2.alloc (.cells vb T3)).heap[w2.heap.size]? = some (.cells vb T3 (0, 0)) ∧ Below w.heap.size w (w2.alloc (.cells vb T3)) ∧ w1.heap.size + 1 ≤ w2.heap.size ∧ w.heap.size < w1.heap.size := by
  have hl := Own.block_lt hres
  have s1 := hc.size
  simp at s1
  have h2 : w2.heap[w.heap.size]? = some (.cells cs T1 (0, 0)) := by
    rw [hc.block _ (by simp; omega) (by omega), Below.heap_alloc _ _ _ hl]; exact hres
  have hb2 : Below w.heap.size w w2 := (hbw.alloc (by omega) _).trans (hc.below (by simp; omega) (fun k hk => by omega))
  exact ⟨by rw [Below.heap_alloc _ _ _ (by omega)]; exact h2, heap_alloc_new _ _, hb2.alloc hb2.size _, s1, hl⟩

set_option maxHeartbeats 8000000 in
set_option maxRecDepth 100000 in
theorem rparse_any (s : List UInt8) (w : World) (hs : s.length ≤ maxLen) : Calls Tryz.prog 15 #[.string ⟨s.toArray⟩] w (ParseRet (parseS s) w) := by
  have S1 := Lib.hid (fun w => rscan_l s w hs)
  unfold ScanRet at S1
  obtain ⟨PP, HPP⟩ : ∃ PP, Hid (parseS s = PP) := ⟨_, rfl⟩
  rw [HPP.out]
  cases hsc : scanS s with
  | inl n =>
    rw [hsc] at S1
    have hP : PP = (30, j0, n) := by rw [← HPP.out]; unfold parseS; rw [hsc]
    subst hP
    simp only [toksR, errR, placeR] at S1
    clear HPP hsc
    go_enter Tryz.func15, Tryz.ntmps15
    go_wp2_with (go_at_call 28; (with_reducible refine (S1.out _).mono ?_); rintro e1 w1 ⟨v, rfl, ho, hb1⟩; obtain ⟨hres, hl2, hbw⟩ := res_block hb1 (Below.refl _ w1); obtain ⟨z0, z1, z2, z3, z4, z5⟩ := six_of hres; have f0 := free_of hres 0; have f1 := free_of hres 1; have f2 := free_of hres 2; have f3 := free_of hres 3; have f4 := free_of hres 4; have f5 := free_of hres 5)
    refine bodyPost_ret (v := .tuple #[.agg #[.int .i64 0, .int .i64 0, .int .i64 0, .string ⟨#[]⟩, .slice none 0 0, .slice none 0 0], .int .i64 30, .int .i64 n]) (by simp [results, Tryz.results15, go_sem, z0, z1, z2, z3, z4, z5]) rfl ?_
    exact ⟨_, _, _, _, _, _, _, _, _, _, rfl, ⟨1, zero_jat⟩, below_put6 (bres := w.heap.size) hbw (Nat.le_refl _) _ _ _ _ _ _⟩
  | inr ts =>
    have S2 := Lib.hid (fun w => rscan_toks s ts hsc w hs)
    have hEG := scanS_inr hsc
    have HWG := Lib.hid (scanS_word hsc)
    have hP : PP = parseT ts := by rw [← HPP.out]; unfold parseS; rw [hsc]
    unfold parseT at hP
    have HP := Lib.hid hP
    have HEG := Lib.hid hEG
    have V := Lib.hid (fun w' pb bt cap hr => rval_ok 16 (by omega) w' pb bt cap ts ts hr)
    rw [show ((17 - 16 : Nat) : Int) = 1 from rfl] at V
    have HVG := Lib.hid (val_good 16 ts hEG.1)
    obtain ⟨RR, HRR⟩ : ∃ RR, Hid (valS 16 ts = RR) := ⟨_, rfl⟩
    rw [HRR.out] at HP HVG V
    obtain ⟨y, l2, hl2⟩ := ex_cons HVG.out.1
    obtain ⟨ER, JR, LR⟩ := RR
    simp only at hl2
    subst hl2
    have HPN := Lib.hid (fun w bt cap hb hT => pa_new (w := w) (ts := ts) (bt := bt) (cap := cap) hb hT HEG.out HWG.out)
    clear HPP hsc hEG hP HRR HVG S1
    unfold RVRet at V
    simp only at V
    obtain ⟨n, HN⟩ : ∃ n, Hid (ts.length = n) := ⟨_, rfl⟩
    rw [HN.out] at S2
    have HPN2 := Lib.hid (fun w bt cap hb (hT : ∀ j, j < n → TokIn w bt (j * 5) (ts.getD j tok0)) => HPN.out w bt cap hb (by rw [HN.out]; exact hT))
    rw [HN.out] at HPN2
    obtain ⟨YK, YT, YM, YE, YP⟩ := y
    go_enter Tryz.func15, Tryz.ntmps15
    go_upto_region 6 with (first
      | (go_at_call 28; (with_reducible refine (S2.out _).mono ?_); rintro e1 w1 ⟨bt, cap, rfl, hbt, hT, hb1, hbb⟩; simp at hbb; have HBB := Lib.hid hbb; clear hbb; have HT := Lib.hid hT; clear hT; have hr0 := Lib.hid (HPN2.out w1 bt cap hbt HT.out); obtain ⟨hres, hl2, hbw⟩ := res_block hb1 (Below.refl _ w1); have HRES := Lib.hid hres; have HBW := Lib.hid hbw; clear hres hbw hb1)
      | (go_at_call 29; (with_reducible refine (V.out _ _ _ _ hr0.out).mono ?_); rintro e2 w2 ⟨k, m, e', t, an, nn, cn, ai, ni, ci, rfl, hr2, hc2, hJ2⟩; have HR2 := Lib.hid hr2; have HC2 := Lib.hid hc2; have HJ2 := Lib.hid hJ2; clear hr2 hc2 hJ2))
    obtain ⟨q1, q2, q3, q4, q5⟩ := pa_stays (vb := #[.int .i64 k, .int .i64 m, .int .i64 e', .string t, .slice an nn cn, .slice ai ni ci]) (T3 := 27) HRES.out HBW.out HC2.out
    have HQ3 := Lib.hid q3
    have HP3 := Lib.hid (HR2.out.below (belowP w2 (.cells #[.int .i64 k, .int .i64 m, .int .i64 e', .string t, .slice an nn cn, .slice ai ni ci] 27)))
    have HJ3 := Lib.hid (fun he => (HJ2.out he).below (belowP w2 (.cells #[.int .i64 k, .int .i64 m, .int .i64 e', .string t, .slice an nn cn, .slice ai ni ci] 27)) (Nat.le_refl _))
    clear HR2 HC2 HJ2 HRES HBW hr0 HT S2 V HPN HPN2 q3
    obtain ⟨x0, x1, x2, x3, x4⟩ := HP3.out.here
    obtain ⟨r0, r1, r2⟩ := three_of HP3.out.blk
    have pf2 := free_of HP3.out.blk 2
    have hpl := HP3.out.lt
    have htl := HP3.out.blt
    have hle := HP3.out.at_.1
    have i1 : ((ts.length - (⟨YK, YT, YM, YE, YP⟩ :: l2 : List Tok).length : Nat) : Int) < (ts.length : Int) := by omega
    have hln := HP3.out.len
    have hpb : w.heap.size < w1.heap.size := q5
    have hbb : w.heap.size < bt := by have := HBB.out; omega
    generalize hw3 : w2.alloc (.cells #[.int .i64 k, .int .i64 m, .int .i64 e', .string t, .slice an nn cn, .slice ai ni ci] 27) = w3 at *
    have hsz3 : w2.heap.size < w3.heap.size := Own.block_lt q2
    obtain ⟨P, HPP⟩ : ∃ P, Hid (ts.length - (⟨YK, YT, YM, YE, YP⟩ :: l2 : List Tok).length = P) := ⟨_, rfl⟩
    rw [HPP.out] at hle i1 r1 x0 x1 x2 x3 x4
    rw [HN.out] at i1 hln hle r0
    clear hw3
    simp only at x0 x4
    have f0 := free_of q1 0
    have f1 := free_of q1 1
    have f2 := free_of q1 2
    have f3 := free_of q1 3
    have f4 := free_of q1 4
    have f5 := free_of q1 5
    obtain ⟨z0, z1, z2, z3, z4, z5⟩ := six_of q1
    obtain ⟨y0, y1, y2, y3, y4, y5⟩ := six_of q2
    have hres3 := Own.block_lt q1
    clear x1 x2 x3
    by_cases hER : ER = 0
    · subst hER
      by_cases hk5 : YK = 5
      · have hPP : PP = (0, JR, 0) := by rw [HP.out]; unfold topS; simp [hk5]
        subst hPP
        subst hk5
        clear HP
        go_quiet (fail)
        go_wp2_with fail
        refine bodyPost_ret (v := .tuple #[.agg #[.int .i64 k, .int .i64 m, .int .i64 e', .string t, .slice an nn cn, .slice ai ni ci], .int .i64 0, .int .i64 0]) (by simp [results, Tryz.results15, go_sem, z0, z1, z2, z3, z4, z5]) rfl ?_
        have hJ4 : JAt (fun b => w.heap.size ≤ b) (put6 (w3.drewN nq) w.heap.size 0 (.int .i64 k) (.int .i64 m) (.int .i64 e') (.string t) (.slice an nn cn) (.slice ai ni ci)) 16 (.agg #[.int .i64 k, .int .i64 m, .int .i64 e', .string t, .slice an nn cn, .slice ai ni ci]) JR :=
          (HJ3.out trivial).keep (fun b hb _ => by simp at hb; omega) (fun b hb hlt => by simp at hb; exact (put6_block _ _ _ _ _ _ _ _ _ _ (by omega)).trans rfl) (by rw [put6_size]; exact Nat.le_refl _)
        exact ⟨_, _, _, _, _, _, _, _, _, _, rfl, ⟨16, hJ4⟩, below_put6 (bres := w.heap.size) (below_drewN HQ3.out nq) (Nat.le_refl _) _ _ _ _ _ _⟩
      · have hPP : PP = (40, j0, YP) := by rw [HP.out]; unfold topS; simp [hk5]
        subst hPP
        clear HP
        have hne : ((YK : Int) != 5) = true := by simp; omega
        have HB4 := Lib.hid (fun nq => (below_drewN HQ3.out nq).setCell (p := ⟨w1.heap.size, 2, none⟩) (by show w.heap.size ≤ w1.heap.size; omega) (.int .i64 40))
        go_quiet (fail)
        go_wp2_with fail
        go_region
        go_wp2_with fail
        refine bodyPost_ret (v := .tuple #[.agg #[.int .i64 0, .int .i64 0, .int .i64 0, .string ⟨#[]⟩, .slice none 0 0, .slice none 0 0], .int .i64 40, .int .i64 YP]) (by simp [results, Tryz.results15, go_sem, z0, z1, z2, z3, z4, z5]) rfl ?_
        exact ⟨_, _, _, _, _, _, _, _, _, _, rfl, ⟨1, zero_jat⟩, (below_put6 (bres := w.heap.size) (HB4.out nq) (Nat.le_refl _) (.int .i64 0) (.int .i64 0) (.int .i64 0) (.string ⟨#[]⟩) (.slice none 0 0) (.slice none 0 0)).drew⟩
    · have hPP : PP = (ER, j0, YP) := by rw [HP.out]; unfold topS; rw [if_neg hER]; rfl
      subst hPP
      have hne : (ER != 0) = true := by simpa using hER
      have hne2 : (ER == 0) = false := by simpa using hER
      clear HP
      go_quiet (fail)
      go_wp2_with fail
      go_region
      go_wp2_with fail
      refine bodyPost_ret (v := .tuple #[.agg #[.int .i64 0, .int .i64 0, .int .i64 0, .string ⟨#[]⟩, .slice none 0 0, .slice none 0 0], .int .i64 ER, .int .i64 YP]) (by simp [results, Tryz.results15, go_sem, z0, z1, z2, z3, z4, z5]) rfl ?_
      exact ⟨_, _, _, _, _, _, _, _, _, _, rfl, ⟨1, zero_jat⟩, below_put6 (bres := w.heap.size) (below_drewN HQ3.out (nq + 1)) (Nat.le_refl _) _ _ _ _ _ _⟩
end Go.Proofs.YtmlpefpjemiccaaGreatDoor.Js
