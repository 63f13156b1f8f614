import Derived.Test.YtmlpefpjemiccaaGreatDoorRd10
/- The contract of Parse. -/
set_option linter.unusedVariables false
set_option linter.unusedSimpArgs false
namespace Go.Proofs.YtmlpefpjemiccaaGreatDoor.Js
open Go.RowKit Lex

theorem val_ok : ∀ n, n ≤ 16 → ValOk n
  | 0, _ => value_zero
  | n + 1, h => value_succ n (by omega) (val_ok n (by omega))
theorem scan_len {l : List UInt8} {n : Nat} {ts : List Tok} (h : scanL l n = .inr ts) : ts.length ≤ l.length + 1 :=
  scan_ind (P := fun l _ ts => ts.length ≤ l.length + 1) (fun n => by simp) (fun c r n ts _ ih => by simp at ih ⊢; omega)
    (fun l n ts hne h0 ih => by
      rw [List.length_drop] at ih
      have := firstL_le l
      simp; omega) l.length l n ts (Nat.le_refl _) h
theorem scanS_inr {s : List UInt8} {ts : List Tok} (h : scanS s = .inr ts) : EndL ts ∧ AllG 1099511627776 ts ∧ ts.length ≤ 1000000 := by
  unfold scanS at h
  split at h
  · cases h
  · rename_i hl
    have h2 := scan_len h
    refine ⟨scan_end h, fun x hx => (scan_good h x hx).mono (by omega), by omega⟩
/-- What Parse hands back. -/
def ParseRet (P : Int × J × Nat) (w : World) (e : Ending) (w' : World) : Prop :=
  ∃ k m e1 t an nn cn ai ni ci, e = .returned (.tuple #[.agg #[.int .i64 k, .int .i64 m, .int .i64 e1, .string t, .slice an nn cn, .slice ai ni ci], .int .i64 P.1, .int .i64 P.2.2]) ∧
    JA (fun b => w.heap.size ≤ b) w' (.agg #[.int .i64 k, .int .i64 m, .int .i64 e1, .string t, .slice an nn cn, .slice ai ni ci]) P.2.1 ∧ Below w.heap.size w w'
theorem below_put6 {w w1 : World} {bres : Nat} (h : Below w.heap.size w w1) (hb : w.heap.size ≤ bres) (c0 c1 c2 c3 c4 c5 : Value) : Below w.heap.size w (put6 w1 bres 0 c0 c1 c2 c3 c4 c5) := by
  obtain ⟨p1, p2, p3⟩ := put6_os w1 bres 0 c0 c1 c2 c3 c4 c5
  exact ⟨p1.trans h.os, p2.trans h.tape, p3.trans h.output, by rw [put6_size]; exact h.size, fun k hk => (put6_block w1 bres 0 c0 c1 c2 c3 c4 c5 k (by omega)).trans (h.block k hk)⟩

theorem scan_toks (s : List UInt8) (ts : List Tok) (h : scanS s = .inr ts) (w : World) (hs : s.length ≤ maxLen) : Calls Tryz.prog 25 #[.string ⟨s.toArray⟩] w fun e w' =>
    ∃ bt cap, e = .returned (.tuple #[.slice (some ⟨bt, 0, none⟩) ts.length cap, .int .i64 0, .int .i64 0]) ∧ bt < w'.heap.size ∧ (∀ j, j < ts.length → TokIn w' bt (j * 5) (ts.getD j tok0)) ∧ Below w.heap.size w w' := by
  refine (scan_l s w hs).mono ?_
  rw [h]
  rintro e w' ⟨v, rfl, ho, hb⟩
  rcases ToksOwn.at_ ho with ⟨_, _, _, h0⟩ | ⟨b, cap, rfl, _, _, hlt, hT⟩
  · exact absurd h0 (scanS_inr h).1.ne
  · exact ⟨b, cap, rfl, hlt, hT, hb⟩
theorem rd_new {w : World} {ts : List Tok} {bt cap : Nat} (hb : bt < w.heap.size) (hT : ∀ j, j < ts.length → TokIn w bt (j * 5) (ts.getD j tok0)) (h : EndL ts ∧ AllG 1099511627776 ts ∧ ts.length ≤ 1000000) :
    Rd (w.alloc (.cells #[.slice (some ⟨bt, 0, none⟩) ts.length cap, .int .i64 0] 58)) w.heap.size bt cap ts ts :=
  ⟨by rw [heap_alloc_new, Nat.sub_self]; rfl, fun j hj => (hT j hj).below ((Below.refl w.heap.size w).alloc (Nat.le_refl _) _) hb, by omega, by simp; omega, List.suffix_refl _, h.1, h.2.2, h.2.1⟩
theorem here_x {w : World} {rb bt cap : Nat} {ts l : List Tok} {K : Nat} {T : List UInt8} {M E : Int} {Q : Nat} (h : Rd w rb bt cap ts (⟨K, T, M, E, Q⟩ :: l)) :
    Calls Tryz.prog 27 #[.pointer (some ⟨rb, 0, none⟩)] w (Ret (.agg #[.int .i64 K, .string ⟨T.toArray⟩, .int .i64 M, .int .i64 E, .int .i64 Q]) w) := here_any h
theorem field0 (K : Nat) (T : List UInt8) (M E : Int) (Q : Nat) (w : World) : (Instr.field 62 (.agg #[.int .i64 K, .string ⟨T.toArray⟩, .int .i64 M, .int .i64 E, .int .i64 Q]) 0).run Tryz.prog w = .ok (.int .i64 K) w := by kernel_rfl
theorem field3 (K : Nat) (T : List UInt8) (M E : Int) (Q : Nat) (w : World) : (Instr.field 62 (.agg #[.int .i64 K, .string ⟨T.toArray⟩, .int .i64 M, .int .i64 E, .int .i64 Q]) 3).run Tryz.prog w = .ok (.int .i64 Q) w := by kernel_rfl
/-- What has stayed, when a value has been read. -/
theorem read_stays {w w1 w2 w3 : World} {cs rd vb : Array Value} {T1 T2 T3 : TypeId} (hres : w1.heap[w.heap.size]? = some (.cells cs T1 (0, 0))) (hl : w.heap.size < w1.heap.size) (hbw : Below w.heap.size w w1)
    (hc : Chg (· = w1.heap.size) (w1.alloc (.cells rd T2)) w2) (hb3 : Below (w2.alloc (.cells vb T3)).heap.size (w2.alloc (.cells vb T3)) w3) :
    w3.heap[w.heap.size]? = some (.cells cs T1 (0, 0)) ∧ w3.heap[w2.heap.size]? = some (.cells vb T3 (0, 0)) ∧ Below w.heap.size w w3 ∧ Below w2.heap.size w2 w3 ∧ w1.heap.size + 1 ≤ w2.heap.size := by
  have s1 := hc.size
  have s3 := hb3.size
  simp at s1 s3
  have h2 : w2.heap[w.heap.size]? = some (.cells cs T1 (0, 0)) := by
    rw [hc.block _ (by simp; omega) (by omega), Below.heap_alloc _ _ _ hl]; exact hres
  refine ⟨?_, ?_, ?_, ((Below.refl _ _).alloc (Nat.le_refl _) _).trans (hb3.mono (by simp)), s1⟩
  · rw [hb3.block _ (by simp; omega), Below.heap_alloc _ _ _ (by omega)]; exact h2
  · rw [hb3.block _ (by simp)]; exact heap_alloc_new w2 _
  · have hbw2 : Below w.heap.size w (w1.alloc (.cells rd T2)) := hbw.alloc (by omega) _
    have hcb : Below w.heap.size (w1.alloc (.cells rd T2)) w2 := hc.below (by simp; omega) (fun k hk => by omega)
    exact ((hbw2.trans hcb).alloc (by omega) _).trans (hb3.mono (by simp; omega))
set_option maxHeartbeats 4000000 in
set_option maxRecDepth 100000 in
theorem parse_any (s : List UInt8) (w : World) (hs : s.length ≤ maxLen) : Calls Tryz.prog 14 #[.string ⟨s.toArray⟩] w (ParseRet (parseS s) w) := by
  have S1 := Lib.hid (fun w => scan_l s w hs)
  unfold ScanRet at S1
  obtain ⟨PP, HPP⟩ : ∃ PP, Hid (parseS s = PP) := ⟨_, rfl⟩
  rw [HPP.out]
  cases hsc : scanS s with
  | inl n =>
    rw [hsc] at S1
    have hP : PP = (30, j0, n) := by rw [← HPP.out]; unfold parseS; rw [hsc]
    subst hP
    simp only [toksR, errR, placeR] at S1
    clear HPP hsc
    go_enter Tryz.func14, Tryz.ntmps14
    go_wp2_with (go_at_call 25; (with_reducible refine (S1.out _).mono ?_); rintro e1 w1 ⟨v, rfl, ho, hb1⟩; obtain ⟨hres, hl2, hbw⟩ := res_block hb1 (Below.refl _ w1); obtain ⟨z0, z1, z2, z3, z4, z5⟩ := six_of hres; have f0 := free_of hres 0; have f1 := free_of hres 1; have f2 := free_of hres 2; have f3 := free_of hres 3; have f4 := free_of hres 4; have f5 := free_of hres 5)
    refine bodyPost_ret (v := .tuple #[.agg #[.int .i64 0, .int .i64 0, .int .i64 0, .string ⟨#[]⟩, .slice none 0 0, .slice none 0 0], .int .i64 30, .int .i64 n]) (by simp [results, Tryz.results14, go_sem, z0, z1, z2, z3, z4, z5]) rfl ?_
    exact ⟨_, _, _, _, _, _, _, _, _, _, rfl, ⟨1, zero_jat⟩, below_put6 (bres := w.heap.size) hbw (Nat.le_refl _) _ _ _ _ _ _⟩
  | inr ts =>
    have S2 := Lib.hid (fun w => scan_toks s ts hsc w hs)
    have hEG := scanS_inr hsc
    have hP : PP = parseT ts := by rw [← HPP.out]; unfold parseS; rw [hsc]
    unfold parseT at hP
    have HP := Lib.hid hP
    have HEG := Lib.hid hEG
    have V := Lib.hid (fun w' rb bt cap hr => val_ok 16 (by omega) w' rb bt cap ts ts hr)
    rw [show ((17 - 16 : Nat) : Int) = 1 from rfl] at V
    have HVG := Lib.hid (val_good 16 ts hEG.1)
    obtain ⟨RR, HRR⟩ : ∃ RR, Hid (valS 16 ts = RR) := ⟨_, rfl⟩
    rw [HRR.out] at HP HVG V
    obtain ⟨y, l2, hl2⟩ := ex_cons HVG.out.1
    obtain ⟨ER, JR, LR⟩ := RR
    simp only at hl2
    subst hl2
    clear HPP hsc hEG hP HRR HVG S1
    unfold VRet at V
    simp only at V
    obtain ⟨n, HN⟩ : ∃ n, Hid (ts.length = n) := ⟨_, rfl⟩
    have HRN := Lib.hid (fun w bt cap hb hT => rd_new (w := w) (ts := ts) (bt := bt) (cap := cap) hb hT HEG.out)
    rw [HN.out] at S2 HRN
    by_cases hER : ER = 0
    · subst hER
      simp only [true_implies, forall_const] at V
      by_cases hk5 : y.k = 5
      · have hPP : PP = (0, JR, 0) := by rw [HP.out]; unfold topS; simp [hk5]
        subst hPP
        clear HP
        obtain ⟨YK, YT, YM, YE, YP⟩ := y
        simp only at hk5
        subst hk5
        have g0 := field0 5 YT YM YE YP
        have g3 := field3 5 YT YM YE YP
        rw [show ((5 : Nat) : Int) = 5 from rfl] at g0 g3
        go_enter Tryz.func14, Tryz.ntmps14
        go_wp2_with (first
          | (go_at_call 25; (with_reducible refine (S2.out _).mono ?_); rintro e1 w1 ⟨bt, cap, rfl, hbt, hT, hb1⟩; have HT := Lib.hid hT; clear hT; have hr0 := HRN.out w1 bt cap hbt HT.out; obtain ⟨hres, hl2, hbw⟩ := res_block hb1 (Below.refl _ w1))
          | (go_at_call 26; (with_reducible refine (V.out _ _ _ _ hr0).mono ?_); rintro e2 w2 ⟨k, m, e', t, an, nn, cn, ai, ni, ci, rfl, hr2, hc2, hJ2⟩; have hs2 := hc2.size; simp at hs2; have hr3 := fun o => hr2.below (((Below.refl _ _).alloc (Nat.le_refl _) o)); have hc3 := fun o => hc2.alloc o)
          | (go_at_call 27; (with_reducible refine (here_x (hr3 _)).mono ?_); rintro e3 w3 ⟨rfl, hb3⟩; obtain ⟨q1, q2, q3, q4, q5⟩ := read_stays hres hl2 hbw hc2 hb3; obtain ⟨y0, y1, y2, y3, y4, y5⟩ := six_of q2; obtain ⟨z0, z1, z2, z3, z4, z5⟩ := six_of q1; have f0 := free_of q1 0; have f1 := free_of q1 1; have f2 := free_of q1 2; have f3 := free_of q1 3; have f4 := free_of q1 4; have f5 := free_of q1 5))
        refine bodyPost_ret (v := .tuple #[.agg #[.int .i64 k, .int .i64 m, .int .i64 e', .string t, .slice an nn cn, .slice ai ni ci], .int .i64 0, .int .i64 0]) (by simp [results, Tryz.results14, go_sem, z0, z1, z2, z3, z4, z5]) rfl ?_
        have hJ3 : JAt (fun b => w.heap.size ≤ b) (put6 w3 w.heap.size 0 (.int .i64 k) (.int .i64 m) (.int .i64 e') (.string t) (.slice an nn cn) (.slice ai ni ci)) 16 (.agg #[.int .i64 k, .int .i64 m, .int .i64 e', .string t, .slice an nn cn, .slice ai ni ci]) JR :=
          hJ2.keep (fun b hb _ => by simp at hb; omega) (fun b hb hlt => by simp at hb; rw [put6_block _ _ _ _ _ _ _ _ _ _ (by omega)]; exact q4.block b hlt) (by rw [put6_size]; exact q4.size)
        exact ⟨_, _, _, _, _, _, _, _, _, _, rfl, ⟨16, hJ3⟩, below_put6 (bres := w.heap.size) q3 (Nat.le_refl _) _ _ _ _ _ _⟩
      · have hPP : PP = (40, j0, y.p) := by rw [HP.out]; unfold topS; simp [hk5]
        subst hPP
        clear HP
        obtain ⟨YK, YT, YM, YE, YP⟩ := y
        simp only at hk5
        have hne : ((YK : Int) != 5) = true := by simp; omega
        have g0 := field0 YK YT YM YE YP
        have g3 := field3 YK YT YM YE YP
        go_enter Tryz.func14, Tryz.ntmps14
        go_wp2_with (first
          | (go_at_call 25; (with_reducible refine (S2.out _).mono ?_); rintro e1 w1 ⟨bt, cap, rfl, hbt, hT, hb1⟩; have HT := Lib.hid hT; clear hT; have hr0 := HRN.out w1 bt cap hbt HT.out; obtain ⟨hres, hl2, hbw⟩ := res_block hb1 (Below.refl _ w1))
          | (go_at_call 26; (with_reducible refine (V.out _ _ _ _ hr0).mono ?_); rintro e2 w2 ⟨k, m, e', t, an, nn, cn, ai, ni, ci, rfl, hr2, hc2, hJ2⟩; have hs2 := hc2.size; simp at hs2; have hr3 := fun o => hr2.below (((Below.refl _ _).alloc (Nat.le_refl _) o)); have hc3 := fun o => hc2.alloc o)
          | (go_at_call 27; (with_reducible refine (here_x (hr3 _)).mono ?_); rintro e3 w3 ⟨rfl, hb3⟩; have hr4 := (hr3 _).below hb3)
          | (go_at_call 27; (with_reducible refine (here_x hr4).mono ?_); rintro e4 w4 ⟨rfl, hb4⟩; obtain ⟨q1, q2, q3, q4, q5⟩ := read_stays hres hl2 hbw hc2 (hb3.trans (hb4.mono hb3.size)); obtain ⟨z0, z1, z2, z3, z4, z5⟩ := six_of q1; have f0 := free_of q1 0; have f1 := free_of q1 1; have f2 := free_of q1 2; have f3 := free_of q1 3; have f4 := free_of q1 4; have f5 := free_of q1 5))
        refine bodyPost_ret (v := .tuple #[.agg #[.int .i64 0, .int .i64 0, .int .i64 0, .string ⟨#[]⟩, .slice none 0 0, .slice none 0 0], .int .i64 40, .int .i64 YP]) (by simp [results, Tryz.results14, go_sem, z0, z1, z2, z3, z4, z5]) rfl ?_
        exact ⟨_, _, _, _, _, _, _, _, _, _, rfl, ⟨1, zero_jat⟩, below_put6 (bres := w.heap.size) q3 (Nat.le_refl _) _ _ _ _ _ _⟩
    · have hPP : PP = (ER, j0, y.p) := by rw [HP.out]; unfold topS; rw [if_neg hER]; rfl
      subst hPP
      have hne : (ER != 0) = true := by simpa using hER
      have hne2 : (ER == 0) = false := by simpa using hER
      obtain ⟨YK, YT, YM, YE, YP⟩ := y
      clear HP
      have g0 := field0 YK YT YM YE YP
      have g3 := field3 YK YT YM YE YP
      go_enter Tryz.func14, Tryz.ntmps14
      go_wp2_with (first
        | (go_at_call 25; (with_reducible refine (S2.out _).mono ?_); rintro e1 w1 ⟨bt, cap, rfl, hbt, hT, hb1⟩; have HT := Lib.hid hT; clear hT; have hr0 := HRN.out w1 bt cap hbt HT.out; obtain ⟨hres, hl2, hbw⟩ := res_block hb1 (Below.refl _ w1))
        | (go_at_call 26; (with_reducible refine (V.out _ _ _ _ hr0).mono ?_); rintro e2 w2 ⟨k, m, e', t, an, nn, cn, ai, ni, ci, rfl, hr2, hc2, hJ2⟩; clear hJ2; have hs2 := hc2.size; simp at hs2; have hr3 := fun o => hr2.below (((Below.refl _ _).alloc (Nat.le_refl _) o)); have hc3 := fun o => hc2.alloc o)
        | (go_at_call 27; (with_reducible refine (here_x (hr3 _)).mono ?_); rintro e3 w3 ⟨rfl, hb3⟩; obtain ⟨q1, q2, q3, q4, q5⟩ := read_stays hres hl2 hbw hc2 hb3; obtain ⟨z0, z1, z2, z3, z4, z5⟩ := six_of q1; have f0 := free_of q1 0; have f1 := free_of q1 1; have f2 := free_of q1 2; have f3 := free_of q1 3; have f4 := free_of q1 4; have f5 := free_of q1 5))
      refine bodyPost_ret (v := .tuple #[.agg #[.int .i64 0, .int .i64 0, .int .i64 0, .string ⟨#[]⟩, .slice none 0 0, .slice none 0 0], .int .i64 ER, .int .i64 YP]) (by simp [results, Tryz.results14, go_sem, z0, z1, z2, z3, z4, z5]) rfl ?_
      exact ⟨_, _, _, _, _, _, _, _, _, _, rfl, ⟨1, zero_jat⟩, below_put6 (bres := w.heap.size) q3 (Nat.le_refl _) _ _ _ _ _ _⟩
end Go.Proofs.YtmlpefpjemiccaaGreatDoor.Js
