import Derived.Test.YtmlpefpjemiccaaGreatDoorFJ
import Derived.Test.YtmlpefpjemiccaaGreatDoorQp
import Derived.Test.YtmlpefpjemiccaaGreatDoorJAwake2
import Derived.BigRegion
import Derived.ShutString
/- The walk of the law JsonTells: it answers true. -/
set_option linter.unusedVariables false
set_option linter.unusedSimpArgs false
namespace Go.Proofs.YtmlpefpjemiccaaGreatDoor.Js
open Go.RowKit Lex Go.Sort
open Quo (pickS pickS_nonneg pickS_lt textR)

theorem tbL_all : ∀ {is : List J}, (∀ i ∈ is, tbJ i) → tbL is
  | [], _ => by rw [tbL]; trivial
  | x :: r, h => by
    rw [tbL]
    exact ⟨h x (List.mem_cons_self ..), tbL_all (fun i hi => h i (List.mem_cons_of_mem _ hi))⟩
theorem flat_len4 : ∀ rs : List Nat, (Quo.flat rs).length ≤ 4 * rs.length
  | [] => by simp [Quo.flat]
  | r :: rs => by
    have h1 := (Quo.enc_len r).2
    have h2 := flat_len4 rs
    unfold Quo.flat at h2 ⊢
    simp only [List.flatMap_cons, List.length_append, List.length_cons]
    omega
theorem text_len (zs : List Int) : (Quo.flat (textR zs)).length ≤ 800 := by
  have h := flat_len4 (textR zs)
  have : (textR zs).length ≤ 200 := by unfold Quo.textR; simp; omega
  omega
theorem tb_leaf (k m e : Int) (t : List UInt8) (h : t.length ≤ 10000000) : tbJ (.mk k m e t [] []) := by
  rw [tbJ, tbL]; exact ⟨h, fun n hn => by simp at hn, trivial⟩
theorem fit_tb : ∀ (n : Nat) (r : RT), tbJ (fitJ n r)
  | 0, .mk k m e t is => by
    rw [fitJ]
    split
    · exact tb_leaf _ _ _ _ (by simp)
    · split
      · exact tb_leaf _ _ _ _ (by have := text_len (t.take 20); omega)
      · exact tb_leaf _ _ _ _ (by simp)
  | n + 1, .mk k m e t is => by
    rw [fitJ]
    split
    · exact tb_leaf _ _ _ _ (by simp)
    · split
      · exact tb_leaf _ _ _ _ (by have := text_len (t.take 20); omega)
      · split
        · rw [tbJ]
          refine ⟨by simp, fitL_namesP _ (fun x => x.length ≤ 10000000) (fun y => ?_) _ _ _ _ (fun x hx => by simp at hx), tbL_all (fitL_all _ _ tbJ _ _ _ (fun y _ => fit_tb n y) (fun i hi => by simp at hi))⟩
          obtain ⟨k', m', e', t', is'⟩ := y
          have := text_len (t'.take 8)
          unfold nameR
          first | omega | (show (Quo.flat (textR (t'.take 8))).length ≤ 10000000; omega)
        · exact tb_leaf _ _ _ _ (by simp)

/-- A value in a box. -/
structure BJ (j : J) (Y : Array Value) (b : Nat) (w : World) : Prop where
  box : w.heap[b]? = some (.cells Y 27 (0, 0))
  ja : JA Any w (.agg Y) j
theorem BJ.below {j : J} {Y : Array Value} {b : Nat} {w w' : World} (h : BJ j Y b w) (hb : Below w.heap.size w w') : BJ j Y b w' :=
  ⟨(hb.block _ (Own.block_lt h.box)).trans h.box, h.ja.below hb (Nat.le_refl _)⟩
theorem three_boxes {w w1 : World} {o1 o2 o3 : Obj} (hb : Below (((w.alloc o1).alloc o2).alloc o3).heap.size (((w.alloc o1).alloc o2).alloc o3) w1) :
    w1.heap[w.heap.size]? = (((w.alloc o1).alloc o2).alloc o3).heap[w.heap.size]? ∧ w1.heap[w.heap.size + 1]? = (((w.alloc o1).alloc o2).alloc o3).heap[w.heap.size + 1]? ∧ w1.heap[w.heap.size + 1 + 1]? = (((w.alloc o1).alloc o2).alloc o3).heap[w.heap.size + 1 + 1]? ∧ Below w.heap.size w w1 :=
  ⟨hb.block _ (by simp <;> omega), hb.block _ (by simp <;> omega), hb.block _ (by simp <;> omega), ((((Below.refl _ _).alloc (Nat.le_refl _) _).alloc (by simp) _).alloc (by simp; omega) _).trans (hb.mono (by simp; omega))⟩
theorem three_old {w : World} {c1 c2 c3 : Array Value} {T1 T2 T3 : TypeId} : (((w.alloc (.cells c1 T1)).alloc (.cells c2 T2)).alloc (.cells c3 T3)).heap[w.heap.size]? = some (.cells c1 T1 (0, 0)) ∧ (((w.alloc (.cells c1 T1)).alloc (.cells c2 T2)).alloc (.cells c3 T3)).heap[w.heap.size + 1]? = some (.cells c2 T2 (0, 0)) ∧ (((w.alloc (.cells c1 T1)).alloc (.cells c2 T2)).alloc (.cells c3 T3)).heap[w.heap.size + 1 + 1]? = some (.cells c3 T3 (0, 0)) := by
  refine ⟨?_, ?_, ?_⟩
  · rw [Below.heap_alloc _ _ _ (by simp; omega), Below.heap_alloc _ _ _ (by simp)]; exact heap_alloc_new _ _
  · rw [Below.heap_alloc _ _ _ (by simp)]
    have := heap_alloc_new (w.alloc (.cells c1 T1)) (.cells c2 T2)
    simpa using this
  · have := heap_alloc_new ((w.alloc (.cells c1 T1)).alloc (.cells c2 T2)) (.cells c3 T3)
    simpa using this
theorem pickT_any (c n : Int) (w : World) (hc : i64B c) (hn0 : 0 < n) (hn1 : n ≤ 9223372036854775807) :
    Calls Tryz.prog 13 #[.int .i64 c, .int .i64 n] w (fun e w' => e = .returned (.int .i64 (Quo.pickS c n)) ∧ w = w') := by
  obtain ⟨hc0, hc1⟩ := hc
  by_cases hc : c < 0
  all_goals
    go_enter Tryz.func13, Tryz.ntmps13
    go_wp2
    go_ret
    refine ⟨Quo.ret_int ?_, rfl⟩
    unfold Quo.pickS
    first
      | (rw [if_pos hc, ← Int.neg_tmod, Int.tmod_eq_emod_of_nonneg (by omega)]; done)
      | rw [if_neg (by omega)]

theorem print_if (S : Nat → Prop) (v : Value) (j : J) (w : World) (hT : Dec.Tab w) (h : JA S w v j) (hlen : rightJ 1 j = true → (printJ j).length ≤ 35184372088832) : Calls Tryz.prog 10 #[v] w (Ret (.string ⟨(printS j).toArray⟩) w) := by
  cases hr : rightJ 1 j with
  | true => exact print_of S v j w hT h (hlen hr)
  | false =>
    obtain ⟨d, h⟩ := h
    obtain ⟨k, m, e, t, an, nn, cn, ai, ni, ci, rfl⟩ := jAt_form h
    have HB := Lib.hid (fun o => below1 w o)
    have C1 := Lib.hid (fun o => right_of S _ j (w.alloc o) ⟨d, h.below (HB.out o) (Nat.le_refl _)⟩)
    unfold printS
    rw [hr] at C1
    rw [hr, if_neg (by decide)]
    clear h hlen
    go_enter Tryz.func10, Tryz.ntmps10
    go_wp2_with (go_at_call 8; (with_reducible refine (C1.out _).mono ?_); rintro e1 w1 ⟨rfl, hb1⟩)
    go_ret
    exact ⟨rfl, (HB.out _).trans (hb1.mono (by simp))⟩

set_option maxHeartbeats 16000000 in
set_option maxRecDepth 100000 in
theorem jtells_walk (va : Value) (ja : J) (vb : Value) (jb : J) (s : List UInt8) (vr : Value) (r : RT) (at0 : Int) (mo : List UInt8) (w : World) (hT : Dec.Tab w) (ha : JA Any w va ja) (hza : jsz ja ≤ 1048576) (hb : JA Any w vb jb) (hs : s.length ≤ 1048576) (hR : RAt w 15 vr r) (hrs : rsz r ≤ 1048576)
    (a0 : -9223372036854775808 ≤ at0) (a1 : at0 ≤ 9223372036854775807) (hmo : mo.length ≤ 1048576) :
    Calls Tryz.prog 3 #[va, vb, .string ⟨s.toArray⟩, vr, .int .i64 at0, .string ⟨mo.toArray⟩] w (Ret (.bool true) w) := by
  have A1 := Lib.hid (fun (w' : World) (hb : Below w.heap.size w w') => awake_any w' (hT.below hb))
  obtain ⟨p1, p2, p3⟩ := fit_printed 15 r (by omega) hrs
  have ptb := fit_tb 15 r
  obtain ⟨k, m, e, ao, tl, c, ai, ni, ci, rfl, -⟩ := hR.form
  have F1 := Lib.hid (fun (w' : World) (hb : Below w.heap.size w w') => fit_at 15 (by omega) 1 rfl w' _ r (hR.below hb))
  have HT : Hid (∀ w', Below w.heap.size w w' → Dec.Tab w') := fun w' hb => hT.below hb
  have HA := Lib.hid ha
  have HB := Lib.hid hb
  obtain ⟨d1, ha'⟩ := ha
  obtain ⟨d2, hb'⟩ := hb
  obtain ⟨ka, ma, ea, ta, ana, nna, cna, aia, nia, cia, rfl⟩ := jAt_form ha'
  obtain ⟨kb, mb, eb, tb, anb, nnb, cnb, aib, nib, cib, rfl⟩ := jAt_form hb'
  clear hR hT hrs ha' hb'
  generalize fitJ 15 r = jj at *
  have RI := Lib.hid (fun w' v' (h : JA Any w' v' jj) => right_of Any v' jj w' h)
  rw [p1] at RI
  have PR := Lib.hid (fun w' v' (hT : Dec.Tab w') (h : JA Any w' v' jj) => print_of Any v' jj w' hT h (by omega))
  have RP := Lib.hid (fun w' v' (h : JA Any w' v' jj) => rprint_of Any v' jj w' h ptb (fun _ => by omega))
  rw [p2] at PR RP
  clear p1 p2 ptb
  generalize printJ jj = P at *
  have hsz : (⟨s.toArray⟩ : ByteArray).size = s.length := bs_size s
  have hP : (⟨P.toArray⟩ : ByteArray).size = P.length := bs_size P
  by_cases hl : s.length ≤ 3000
  · have i0 : ¬ (3000 : Int) < (s.length : Int) := by omega
    go_enter Tryz.func3, Tryz.ntmps3
    go_upto_if 36 with (first
      | (go_at_call 5; (with_reducible refine (A1.out _ ((((Below.refl _ _).alloc (Nat.le_refl _) _).alloc (by simp) _).alloc (by simp; omega) _)).mono ?_); rintro e1 w1 ⟨rfl, hb1⟩; obtain ⟨q1, q2, q3, hbw1⟩ := three_boxes hb1; have HB1 := Lib.hid hbw1; have HXA1 := Lib.hid (q1.trans three_old.1); have HXB1 := Lib.hid (q2.trans three_old.2.1); obtain ⟨y0, y1, y2, y3, y4⟩ := five_of (q3.trans three_old.2.2); have hy := Own.block_lt (q3.trans three_old.2.2); clear hb1 q1 q2 q3 hbw1)
      | (go_at_call 6; (with_reducible refine (F1.out _ HB1.out).mono ?_); rintro e2 w2 ⟨k2, m2, e2', t2, an2, nn2, cn2, ai2, ni2, ci2, rfl, hJ2, hb2⟩; have HB2 := Lib.hid ((HB1.out.trans (hb2.mono HB1.out.size)).alloc (HB1.out.trans (hb2.mono HB1.out.size)).size (.cells #[.int .i64 k2, .int .i64 m2, .int .i64 e2', .string t2, .slice an2 nn2 cn2, .slice ai2 ni2 ci2] 27)); have hb3 := hb2.alloc hb2.size (.cells #[.int .i64 k2, .int .i64 m2, .int .i64 e2', .string t2, .slice an2 nn2 cn2, .slice ai2 ni2 ci2] 27); have HXA2 := Lib.hid ((hb3.block _ (Own.block_lt HXA1.out)).trans HXA1.out); have HXB2 := Lib.hid ((hb3.block _ (Own.block_lt HXB1.out)).trans HXB1.out); have HV2 : Hid (BJ jj #[.int .i64 k2, .int .i64 m2, .int .i64 e2', .string t2, .slice an2 nn2 cn2, .slice ai2 ni2 ci2] w2.heap.size (w2.alloc (.cells #[.int .i64 k2, .int .i64 m2, .int .i64 e2', .string t2, .slice an2 nn2 cn2, .slice ai2 ni2 ci2] 27))) := ⟨heap_alloc_new _ _, hJ2.below (below1 w2 _) (Nat.le_refl _)⟩; obtain ⟨z0, z1, z2, z3, z4, z5⟩ := six_of HV2.out.box; clear hb2 hb3 hJ2 y0 y1 y2 y3 y4 hy)
      | (go_at_call 7; (with_reducible refine (RP.out _ _ HV2.out.ja).mono ?_); rintro e3 w3 ⟨rfl, hb3⟩; have HB3 := Lib.hid (HB2.out.trans (hb3.mono HB2.out.size)); have HXA3 := Lib.hid ((hb3.block _ (Own.block_lt HXA2.out)).trans HXA2.out); have HXB3 := Lib.hid ((hb3.block _ (Own.block_lt HXB2.out)).trans HXB2.out); have HV3 := Lib.hid (HV2.out.below hb3); clear hb3 z0 z1 z2 z3 z4 z5))
    clear HXA1 HXB1 HXA2 HXB2 HV2 HB1 HB2 A1 F1
    generalize w2.heap.size = b14 at *
    by_cases hl2 : P.length ≤ 3000
    · have i1 : ¬ (3000 : Int) < (P.length : Int) := by omega
      go_upto_region 8 with fail
      obtain ⟨x0, x1, x2, x3, x4, x5⟩ := six_of HXA3.out
      obtain ⟨y0, y1, y2, y3, y4, y5⟩ := six_of HXB3.out
      obtain ⟨z0, z1, z2, z3, z4, z5⟩ := six_of HV3.out.box
      have rx0 := cell_regrown x0
      have rx1 := cell_regrown x1
      have rx2 := cell_regrown x2
      have rx3 := cell_regrown x3
      have rx4 := cell_regrown x4
      have rx5 := cell_regrown x5
      have ry0 := cell_regrown y0
      have ry1 := cell_regrown y1
      have ry2 := cell_regrown y2
      have ry3 := cell_regrown y3
      have ry4 := cell_regrown y4
      have ry5 := cell_regrown y5
      have rz0 := cell_regrown z0
      have rz1 := cell_regrown z1
      have rz2 := cell_regrown z2
      have rz3 := cell_regrown z3
      have rz4 := cell_regrown z4
      have rz5 := cell_regrown z5
      have HTR := Lib.hid (fun (dd : Nat) (os : Array Obj) => HT.out _ (HB3.out.trans ((below_regrown w3 dd os).mono HB3.out.size)))
      have HJA := Lib.hid (fun (dd : Nat) (os : Array Obj) => HA.out.below (HB3.out.trans ((below_regrown w3 dd os).mono HB3.out.size)) (Nat.le_refl _))
      have HJB := Lib.hid (fun (dd : Nat) (os : Array Obj) => HB.out.below (HB3.out.trans ((below_regrown w3 dd os).mono HB3.out.size)) (Nat.le_refl _))
      have HJV := Lib.hid (fun (dd : Nat) (os : Array Obj) => HV3.out.ja.below (below_regrown w3 dd os) (Nat.le_refl _))
      have hpa : rightJ 1 ja = true → (printJ ja).length ≤ 35184372088832 := fun h => by have := print_jsz ja 1 h; omega
      have C1 := Lib.hid (fun (dd : Nat) (os : Array Obj) => Calls.regrown_of (w := w3) (d := dd) (os := os) (right_of Any _ ja _ (HJA.out dd os)))
      have C2 := Lib.hid (fun (dd : Nat) (os : Array Obj) => Calls.regrown_of (w := w3) (d := dd) (os := os) (rright_of Any _ ja _ (HJA.out dd os)))
      have C3 := Lib.hid (fun (dd : Nat) (os : Array Obj) => Calls.regrown_of (w := w3) (d := dd) (os := os) (print_if Any _ ja _ (HTR.out dd os) (HJA.out dd os) hpa))
      have C4 := Lib.hid (fun (dd : Nat) (os : Array Obj) => Calls.regrown_of (w := w3) (d := dd) (os := os) (rprint_of Any _ ja _ (HJA.out dd os) (tb_of ja (by omega)) hpa))
      have C5 := Lib.hid (fun (dd : Nat) (os : Array Obj) => Calls.regrown_of (w := w3) (d := dd) (os := os) (same_of Any Any _ _ ja jb _ (HJA.out dd os) (HJB.out dd os)))
      have C6 := Lib.hid (fun (dd : Nat) (os : Array Obj) => Calls.regrown_of (w := w3) (d := dd) (os := os) (rsame_of Any Any _ _ ja jb _ (HJA.out dd os) (HJB.out dd os)))
      have C7 := Lib.hid (fun (dd : Nat) (os : Array Obj) => Calls.regrown_of (w := w3) (d := dd) (os := os) (PR.out _ _ (HTR.out dd os) (HJV.out dd os)))
      have C8 := Lib.hid (fun (dd : Nat) (os : Array Obj) => Calls.regrown_of (w := w3) (d := dd) (os := os) (RI.out _ _ (HJV.out dd os)))
      clear hpa
      generalize rightJ 1 ja = rja at *
      generalize (⟨(printS ja).toArray⟩ : ByteArray) = pja at *
      generalize sameJ ja jb = sab at *
      clear x0 x1 x2 x3 x4 x5 y0 y1 y2 y3 y4 y5 z0 z1 z2 z3 z4 z5
      refine wp_region_quiet_below mixedQ (by kernel_rfl) ?_
      repeat (quiet_step (first | (with_reducible exact C1.out _ _) | (with_reducible exact C2.out _ _) | (with_reducible exact C3.out _ _) | (with_reducible exact C4.out _ _) | (with_reducible exact C5.out _ _) | (with_reducible exact C6.out _ _) | (with_reducible exact C7.out _ _) | (with_reducible exact C8.out _ _)))
      refine wpQuiet_nil ?_
      intro _ hw'
      obtain ⟨⟨dq, osq⟩, hw''⟩ := hw'
      subst hw''
      have HBN := Lib.hid (HB3.out.trans ((below_regrown w3 dq osq).mono HB3.out.size))
      generalize (grow (redrawn w3 dq) osq) = w5 at *
      have hmz : (⟨mo.toArray⟩ : ByteArray).size = mo.length := bs_size mo
      have pk0 := pickS_nonneg (c := at0) (n := (P.length : Int) + 1) (by omega)
      have pk1 := pickS_lt (c := at0) (n := (P.length : Int) + 1) (by omega)
      have PK := Lib.hid (fun u => pickT_any at0 ((P.length : Int) + 1) u ⟨a0, a1⟩ (by omega) (by omega))
      generalize pickS at0 ((P.length : Int) + 1) = z at *
      obtain ⟨kk, rfl⟩ := Int.eq_ofNat_of_zero_le pk0
      have hk : (kk : Int) ≤ (P.length : Int) := by omega
      have hk2 : kk ≤ P.length := by omega
      clear C1 C2 C3 C4 C5 C6 C7 C8 HJA HJB HJV HTR RI PR RP HXA3 HXB3 HV3 HT HA HB pk0 pk1 i0 HB3
      generalize (⟨P.toArray⟩ : ByteArray) = q at *
      generalize (⟨s.toArray⟩ : ByteArray) = sv at *
      generalize (⟨mo.toArray⟩ : ByteArray) = more at *
      generalize P.length = n at *
      generalize mo.length = M at *
      generalize s.length = sn at *
      have l1 : (q.extract 0 kk).size ≤ n := by rw [ByteArray.size_extract]; omega
      go_upto_region 11 with (go_at_call 13; (with_reducible refine (PK.out _).mono ?_); rintro e6 w6 ⟨rfl, rfl⟩)
      have hbb := HBN.out
      clear PK HBN
      go_region
      have hX : (q.extract 0 kk ++ more ++ q.extract (min ((kk : Int) + (M : Int)) (n : Int)).toNat n).size ≤ 2000000 := by
        rw [ByteArray.size_append, ByteArray.size_append, ByteArray.size_extract, ByteArray.size_extract]
        omega
      have hX2 : (q.extract 0 kk ++ more ++ q.extract kk n).size ≤ 2000000 := by
        rw [ByteArray.size_append, ByteArray.size_append, ByteArray.size_extract, ByteArray.size_extract]
        omega
      have hX3 : (q.extract 0 kk).size ≤ 2000000 := by omega
      have hs0 : sv.size ≤ 2000000 := by omega
      have hq0 : q.size ≤ 2000000 := by omega
      generalize (min ((kk : Int) + (M : Int)) (n : Int)).toNat = mi at *
      generalize (q.extract 0 kk ++ more ++ q.extract mi n) = X1 at *
      generalize (q.extract 0 kk ++ more ++ q.extract kk n) = X2 at *
      generalize q.extract 0 kk = X3 at *
      have HA : Hid (Below w.heap.size w (w5.alloc (.cells #[.string sv, .string q, .string X1, .string X2, .string X3] 9)).drew) := (hbb.alloc hbb.size _).drew
      have HC : Hid (∀ j, j < 5 → ∃ x, (w5.alloc (.cells #[.string sv, .string q, .string X1, .string X2, .string X3] 9)).drew.cell? ⟨w5.heap.size, j, none⟩ = some (.string x) ∧ x.size ≤ 2000000) := fun j hj => by
        have : j = 0 ∨ j = 1 ∨ j = 2 ∨ j = 3 ∨ j = 4 := by omega
        rcases this with rfl | rfl | rfl | rfl | rfl
        · exact ⟨sv, by simp, hs0⟩
        · exact ⟨q, by simp, hq0⟩
        · exact ⟨X1, by simp, hX⟩
        · exact ⟨X2, by simp, hX2⟩
        · exact ⟨X3, by simp, hX3⟩
      have HBS : Hid (w5.heap.size < (w5.alloc (.cells #[.string sv, .string q, .string X1, .string X2, .string X3] 9)).drew.heap.size) := by show _ < _; simp
      generalize (w5.alloc (.cells #[.string sv, .string q, .string X1, .string X2, .string X3] 9)).drew = wA at *
      clear hX hX2 hX3 hs0 hq0 hs hmz hP hsz l1 hk hk2 hbb hmo
      generalize w5.heap.size = bA at *
      go_wp2_with fail
      go_loopw [106] (fun iv wr => ∃ j : Nat, j ≤ 5 ∧ iv = .int .i64 j ∧ Hid (Below wA.heap.size wA wr)) (fun iv _ => 5 - (intOf iv).toNat)
      case atStart => exact ⟨0, by omega, rfl, Below.refl _ _⟩
      case round =>
        obtain ⟨j, hj, rfl, HV⟩ := hrel
        by_cases hlt : j < 5
        · obtain ⟨x, hcell, hx⟩ := HC.out j hlt
          have hc2 := (HV.out.cell (p := ⟨bA, j, none⟩) HBS.out).trans hcell
          have hbl : bA < wr.heap.size := Nat.lt_of_lt_of_le HBS.out HV.out.size
          obtain ⟨L, rfl⟩ : ∃ L : List UInt8, x = ⟨L.toArray⟩ := ⟨x.data.toList, by cases x; simp⟩
          rw [bs_size] at hx
          have PA := Lib.hid (fun w' => parse_any L w' (by unfold maxLen; omega))
          have PB := Lib.hid (fun w' => rparse_any L w' (by unfold maxLen; omega))
          unfold ParseRet at PA PB
          generalize parseS L = R at *
          obtain ⟨r1, r2, r3⟩ := R
          simp only at PA PB
          have i5 : (j : Int) < 5 := by omega
          clear hcell
          go_upto_region 16 with (first
            | (go_at_call 14; (with_reducible refine (PA.out _).mono ?_); rintro e2 w2 ⟨k2, m2, e2', t2, an2, nn2, cn2, ai2, ni2, ci2, rfl, hJ2, hb2⟩; have HV3 := Lib.hid ((HV.out.trans (hb2.mono HV.out.size)).alloc (HV.out.trans (hb2.mono HV.out.size)).size (.cells #[.int .i64 k2, .int .i64 m2, .int .i64 e2', .string t2, .slice an2 nn2 cn2, .slice ai2 ni2 ci2] 27)); have HX3 : Hid (BJ r2 #[.int .i64 k2, .int .i64 m2, .int .i64 e2', .string t2, .slice an2 nn2 cn2, .slice ai2 ni2 ci2] w2.heap.size (w2.alloc (.cells #[.int .i64 k2, .int .i64 m2, .int .i64 e2', .string t2, .slice an2 nn2 cn2, .slice ai2 ni2 ci2] 27))) := ⟨heap_alloc_new _ _, hJ2.any.below (below1 w2 _) (Nat.le_refl _)⟩; clear hJ2 hb2)
            | (go_at_call 15; (with_reducible refine (PB.out _).mono ?_); rintro e3 w3 ⟨k3, m3, e3', t3, an3, nn3, cn3, ai3, ni3, ci3, rfl, hJ3, hb3⟩; have HV4 := Lib.hid (HV3.out.trans (hb3.mono HV3.out.size)); have HX4 := Lib.hid (HX3.out.below hb3); have HJ4 := Lib.hid hJ3.any; clear hJ3 hb3))
          have HV5 := Lib.hid (HV4.out.alloc HV4.out.size (.cells #[.int .i64 k3, .int .i64 m3, .int .i64 e3', .string t3, .slice an3 nn3 cn3, .slice ai3 ni3 ci3] 27))
          have HX5 := Lib.hid (HX4.out.below (below1 w3 (.cells #[.int .i64 k3, .int .i64 m3, .int .i64 e3', .string t3, .slice an3 nn3 cn3, .slice ai3 ni3 ci3] 27)))
          have SA := Lib.hid (rsame_of Any Any _ _ _ _ _ HX5.out.ja (HJ4.out.below (below1 w3 (.cells #[.int .i64 k3, .int .i64 m3, .int .i64 e3', .string t3, .slice an3 nn3 cn3, .slice ai3 ni3 ci3] 27)) (Nat.le_refl _)))
          rw [sameJ_refl] at SA
          obtain ⟨x0, x1, x2, x3, x4, x5⟩ := six_of HX5.out.box
          obtain ⟨y0, y1, y2, y3, y4, y5⟩ := six_of (heap_alloc_new w3 (.cells #[.int .i64 k3, .int .i64 m3, .int .i64 e3', .string t3, .slice an3 nn3 cn3, .slice ai3 ni3 ci3] 27))
          have hl1 := Own.block_lt HX5.out.box
          go_wp2_with (go_at_call 12; (with_reducible refine (SA.out).mono ?_); rintro e6 w6 ⟨rfl, hb6⟩; have HV6 := Lib.hid (HV5.out.trans (hb6.mono HV5.out.size)))
          go_roundw
          case rel => exact ⟨j + 1, by omega, by go_num, HV6⟩
          case measure => simp [intOf]; omega
        · obtain rfl : j = 5 := by omega
          go_wp2_with fail
          go_ret
          exact ⟨rfl, HA.out.trans (HV.out.mono HA.out.size)⟩
    · have i1 : (3000 : Int) < (P.length : Int) := by omega
      go_wp2_with fail
      go_ret
      exact ⟨rfl, HB3.out⟩
  · have i1 : (3000 : Int) < (s.length : Int) := by omega
    go_enter Tryz.func3, Tryz.ntmps3
    go_wp2_with (go_at_call 5; (with_reducible refine (A1.out _ ((((Below.refl _ _).alloc (Nat.le_refl _) _).alloc (by simp) _).alloc (by simp; omega) _)).mono ?_); rintro e1 w1 ⟨rfl, hb1⟩; obtain ⟨-, -, -, hbw1⟩ := three_boxes hb1)
    go_ret
    exact ⟨rfl, hbw1⟩
theorem jtells_row (va : Value) (ja : J) (vb : Value) (jb : J) (s : ByteArray) (vr : Value) (r : RT) (at0 : Int) (mo : ByteArray) (w : World) (hT : Dec.Tab w) (ha : JA Any w va ja ∧ jsz ja ≤ 1048576) (hb : JA Any w vb jb ∧ jsz jb ≤ 1048576) (hs : s.size ≤ 1048576) (hR : RAt w 15 vr r) (hrs : rsz r ≤ 1048576)
    (a0 : -9223372036854775808 ≤ at0) (a1 : at0 ≤ 9223372036854775807) (hmo : mo.size ≤ 1048576) :
    Calls Tryz.prog 3 #[va, vb, .string s, vr, .int .i64 at0, .string mo] w (Ret (.bool true) w) := by
  obtain ⟨l, rfl⟩ : ∃ l : List UInt8, s = ⟨l.toArray⟩ := ⟨s.data.toList, by cases s; simp⟩
  obtain ⟨l2, rfl⟩ : ∃ l : List UInt8, mo = ⟨l.toArray⟩ := ⟨mo.data.toList, by cases mo; simp⟩
  rw [bs_size] at hs hmo
  exact jtells_walk va ja vb jb l vr r at0 l2 w hT ha.1 ha.2 hb.1 hs hR hrs a0 a1 hmo
end Go.Proofs.YtmlpefpjemiccaaGreatDoor.Js

/- The law JsonTells (values may be, are the same, printed and parsed as the document says) answers true for all values, texts, raw values, numbers and pieces of text, where what it reads is of bulk at most 1048576; taken that Go's own tables (those of strconv, math/bits and unicode/utf8) hold what the program's text lays, which the card ties. -/
set_option linter.unusedSimpArgs false
set_option linter.unusedVariables false
namespace Go.Proofs.YtmlpefpjemiccaaGreatDoor.jsonTells
open Go.ChangeShapes Go.WideShapes Go.ChangeAt Go.RowKit Go.Proofs.YtmlpefpjemiccaaGreatDoor.Js
open Go.ChangeMaps (open_string shut_string)

set_option maxRecDepth 100000 in
theorem contract (H : Type) (enc : TypeId × Value → H) (W : World) (base : Nat) (args : Array Value) (ds gs : List (DataW H)) (before : List MemPlace)
    (hval : ∀ (j : Nat) t v, Tryz.f3.params[j]? = some t → args[j]? = some v → Value.okWide Tryz.prog W .any base t v)
    (hW : DataW.Whole enc Tryz.prog Tryz.f3.params.toList Rows.jsonTellsSpec.vars false W args.toList ds gs before) (hk : Rows.uptoSmall H (ds ++ gs) = true) (hL : laidMetH Tryz.prog laid5 W) :
    Calls Tryz.prog 3 args W fun e W' => ∃ v, e = .returned v ∧ Rows.jsonTellsSpec.post enc Tryz.prog Tryz.f3 false true false false W args v W' := by
  have hT := tab_of_laid hL
  clear hL
  have hW' := hW
  have hlt := hW.lt
  obtain ⟨p, q, hA0, hV, rfl, hfz, hnd⟩ := hW
  have hA : DataW.TrodAll enc Tryz.prog W 0 (fun _ => true) true Tryz.f3.params.toList args.toList ds p := hA0
  rw [Tryz.params3] at hA hval
  obtain ⟨v0, vs0, d0, ds0, p0, q0, hargs, rfl, rfl, h0, r0⟩ := trodAll_cons hA
  obtain ⟨v1, vs1, d1, ds1, p1, q1, rfl, rfl, rfl, h1, r1⟩ := trodAll_cons r0
  obtain ⟨v2, vs2, d2, ds2, p2, q2, rfl, rfl, rfl, h2, r2⟩ := trodAll_cons r1
  obtain ⟨v3, vs3, d3, ds3, p3, q3, rfl, rfl, rfl, h3, r3⟩ := trodAll_cons r2
  obtain ⟨v4, vs4, d4, ds4, p4, q4, rfl, rfl, rfl, h4, r4⟩ := trodAll_cons r3
  obtain ⟨v5, vs5, d5, ds5, p5, q5, rfl, rfl, rfl, h5, r5⟩ := trodAll_cons r4
  obtain ⟨rfl, rfl, rfl⟩ := trodAll_nil r5
  obtain rfl : args = #[v0, v1, v2, v3, v4, v5] := Array.ext' hargs
  obtain ⟨rfl, rfl⟩ := trodVars_none hV
  have k0 := h0
  have k1 := h1
  have k2 := h2
  have k3 := h3
  have k4 := h4
  have k5 := h5
  obtain ⟨s2, rfl, rfl, rfl, hs2⟩ := open_string Tryz.underlying9 (hval 2 9 v2 rfl rfl) h2
  obtain ⟨z3, hz3, hb3⟩ := open_raw_at (hval 3 31 v3 rfl rfl) h3
  obtain ⟨x4, rfl, rfl, rfl, wx4⟩ := open_int Tryz.underlying3 (hval 4 3 v4 rfl rfl) h4
  obtain ⟨b4, c4⟩ := bounds_i64 wx4
  obtain ⟨s5, rfl, rfl, rfl, hs5⟩ := open_string Tryz.underlying9 (hval 5 9 v5 rfl rfl) h5
  have hbulk : Rows.uptoBulkAll _ ≤ 1048576 := of_decide_eq_true hk
  simp only [List.append_nil, List.cons_append, List.nil_append, Rows.uptoBulkAll] at hbulk
  have t2 : Rows.uptoBulk (DataW.lit (H := H) (.string s2.data.toList)) = s2.size + 1 := by simp only [Rows.uptoBulk]; rw [Array.length_toList]; rfl
  have t5 : Rows.uptoBulk (DataW.lit (H := H) (.string s5.data.toList)) = s5.size + 1 := by simp only [Rows.uptoBulk]; rw [Array.length_toList]; rfl
  obtain ⟨z0, hz0⟩ : ∃ j, JA Any W v0 j ∧ jsz j ≤ 1048576 := by obtain ⟨j, h1, h2⟩ := open_json_at (hval 0 27 v0 rfl rfl) h0 (by omega); exact ⟨j, h1, by omega⟩
  obtain ⟨z1, hz1⟩ : ∃ j, JA Any W v1 j ∧ jsz j ≤ 1048576 := by obtain ⟨j, h1, h2⟩ := open_json_at (hval 1 27 v1 rfl rfl) h1 (by omega); exact ⟨j, h1, by omega⟩
  clear hA0
  simp only [List.append_nil] at hW'
  refine (jtells_row v0 z0 v1 z1 s2 v3 z3 x4 s5 W hT hz0 hz1 (by omega) (hz3 15) (by omega) b4 c4 (by omega)).mono fun e W' ⟨he, hg⟩ => ?_
  subst he
  exact ⟨_, rfl, _, _, _, [], _, [], hW', trodAll_cons_mk (shut_bool Tryz.underlying4 _) trodAll_mk0,
    (trodAll_cons_mk (Below.trod laidOut (by kernel_rfl) (of_decide_eq_true (by kernel_rfl)) k0 hg (fun x hx => by first | (exact absurd hx (by simp)) | exact hlt x (by simp [hx]))) (trodAll_cons_mk (Below.trod laidOut (by kernel_rfl) (of_decide_eq_true (by kernel_rfl)) k1 hg (fun x hx => by first | (exact absurd hx (by simp)) | exact hlt x (by simp [hx]))) (trodAll_cons_mk (Below.trod laidOut (by kernel_rfl) (of_decide_eq_true (by kernel_rfl)) k2 hg (fun x hx => by first | (exact absurd hx (by simp)) | exact hlt x (by simp [hx]))) (trodAll_cons_mk (Below.trod laidOut (by kernel_rfl) (of_decide_eq_true (by kernel_rfl)) k3 hg (fun x hx => by first | (exact absurd hx (by simp)) | exact hlt x (by simp [hx]))) (trodAll_cons_mk (Below.trod laidOut (by kernel_rfl) (of_decide_eq_true (by kernel_rfl)) k4 hg (fun x hx => by first | (exact absurd hx (by simp)) | exact hlt x (by simp [hx]))) (trodAll_cons_mk (Below.trod laidOut (by kernel_rfl) (of_decide_eq_true (by kernel_rfl)) k5 hg (fun x hx => by first | (exact absurd hx (by simp)) | exact hlt x (by simp [hx]))) trodAll_mk0)))))), rfl,
    hg.frame _, fun h => by cases h⟩

theorem reads (os : Os) {H : Type} (enc : TypeId × Value → H) : ∃ places, DataW.whole enc Tryz.prog ((laidWorld os).forCall (fun _ _ => 0) ⟨#[], #[.agg #[.int .i64 0, .int .i64 0, .int .i64 0, .string ⟨#[]⟩, .slice none 0 0, .slice none 0 0], .agg #[.int .i64 0, .int .i64 0, .int .i64 0, .string ⟨#[]⟩, .slice none 0 0, .slice none 0 0], .string ⟨#[]⟩, .agg #[.int .i64 0, .int .i64 0, .int .i64 0, .slice none 0 0, .slice none 0 0], .int .i64 0, .string ⟨#[]⟩], []⟩).memory Tryz.f3.params.toList Rows.jsonTellsSpec.vars false (#[Value.agg #[.int .i64 0, .int .i64 0, .int .i64 0, .string ⟨#[]⟩, .slice none 0 0, .slice none 0 0], Value.agg #[.int .i64 0, .int .i64 0, .int .i64 0, .string ⟨#[]⟩, .slice none 0 0, .slice none 0 0], Value.string ⟨#[]⟩, Value.agg #[.int .i64 0, .int .i64 0, .int .i64 0, .slice none 0 0, .slice none 0 0], Value.int .i64 0, Value.string ⟨#[]⟩] : Array Value).toList 8 = some ([.agg [.lit (.int .i64 0), .agg [.lit (.int .i64 0), .lit (.int .i64 0)], .lit (.string []), .nil, .nil], .agg [.lit (.int .i64 0), .agg [.lit (.int .i64 0), .lit (.int .i64 0)], .lit (.string []), .nil, .nil], .lit (.string []), .agg [.lit (.int .i64 0), .lit (.int .i64 0), .lit (.int .i64 0), .nil, .nil], .lit (.int .i64 0), .lit (.string [])], [], places) :=
  ⟨[], by kernel_rfl⟩

set_option maxRecDepth 100000 in
theorem lifted (os : Os) (started : os.Started) (H : Type) (enc : TypeId × Value → H) (F : Stop.Interp) :
    ReturnsInHanded {} Tryz.checked os 3 .any ((Rows.OpenSpec.upto Rows.jsonTellsSpec).preRow enc Tryz.prog Tryz.f3 Rows.jsonTellsUptoRow.domain false Rows.jsonTellsUptoRow.laid) (((Rows.OpenSpec.upto Rows.jsonTellsSpec).at F).post enc Tryz.prog Tryz.f3 false true false false) := by
  obtain ⟨places, hx⟩ := reads os enc
  refine returnsInHanded_of_row (C := Tryz.checked) (s := Rows.OpenSpec.upto Rows.jsonTellsSpec) own started (by kernel_rfl) Tryz.func3
    (witness_row_at (enc := enc) (C := Tryz.checked) false (laidWorld os) #[.agg #[.int .i64 0, .int .i64 0, .int .i64 0, .string ⟨#[]⟩, .slice none 0 0, .slice none 0 0], .agg #[.int .i64 0, .int .i64 0, .int .i64 0, .string ⟨#[]⟩, .slice none 0 0, .slice none 0 0], .string ⟨#[]⟩, .agg #[.int .i64 0, .int .i64 0, .int .i64 0, .slice none 0 0, .slice none 0 0], .int .i64 0, .string ⟨#[]⟩] rfl (by kernel_rfl) (by kernel_rfl) (by kernel_rfl)
      (OpenSpec.preRow_of_cond 8 hx (by kernel_rfl) (fun k hk => by cases hk; kernel_rfl) (by kernel_rfl) (laid_met os _))) ?_
  intro W base args ds gs before hval hW _ hk _ hL _ _
  exact contract H enc W base args ds gs before hval hW (hk _ rfl) hL

theorem said : Rows.JsonTellsUptoSaid :=
  OpenClaim.holds_of_cond 3 Tryz.f3 rfl rfl rfl rfl rfl rfl rfl ⟨rfl, rfl, rfl, rfl, rfl⟩ rfl rfl rfl rfl rfl (by kernel_rfl) Tryz.func3 (by kernel_rfl)
    (of_decide_eq_true (by kernel_rfl)) (by unfold Func.isWrapper; first | (rw [if_pos (by decide +kernel)]; kernel_rfl) | (rw [if_neg (by decide +kernel)]; exact ⟨rfl, rfl⟩))
    (fun os started H enc _ F => by rw [OpenClaim.pre_eq_preRow]; exact lifted os started H enc F)

theorem plain (f : FuncId) (fn : Func) (hf : Tryz.pinned.checked.prog.funcNamed Rows.jsonTellsUptoRow.func = some f) (hfn : Tryz.pinned.checked.prog.funcs[f]? = some fn) :
    false = Tryz.pinned.checked.prog.looks [] ∧ ∀ (j : Nat) t, fn.params[j]? = some t → Tryz.pinned.checked.prog.wantsStandIn t = false := by
  obtain rfl : f = 3 := Option.some.inj ((show Tryz.prog.funcNamed Rows.jsonTellsUptoRow.func = some 3 by kernel_rfl).symm.trans hf) |>.symm
  obtain rfl : fn = Tryz.f3 := (Option.some.inj (Tryz.func3.symm.trans hfn)).symm
  refine ⟨by kernel_rfl, fun j t ht => ?_⟩
  rw [Tryz.params3] at ht
  have hm := Array.mem_of_getElem? ht
  have hh : t = 31 ∨ t = 27 ∨ t = 3 ∨ t = 9 := by simp at hm; first | (rcases hm with h | h | h | h <;> simp [h]) | (rcases hm with h | h | h | h | h | h <;> simp [h])
  rcases hh with rfl | rfl | rfl | rfl
  · exact (show Tryz.prog.wantsStandIn 31 = false by kernel_rfl)
  · exact (show Tryz.prog.wantsStandIn 27 = false by kernel_rfl)
  · exact (show Tryz.prog.wantsStandIn 3 = false by kernel_rfl)
  · exact (show Tryz.prog.wantsStandIn 9 = false by kernel_rfl)

theorem card : Rows.JsonTellsUptoCardSaid :=
  Claim7.holds_tied_plain_at .later [] _ _ _ _ said (fun _ h => by cases h) (by kernel_rfl) (fun _ h => by cases h) jsonTellsUpto_row_tie rfl ⟨rfl, rfl⟩ (by kernel_rfl) rfl plain (by kernel_rfl)
end Go.Proofs.YtmlpefpjemiccaaGreatDoor.jsonTells
