import Derived.Test.YtcpggmdiojaalaaGreatDoorMAe
import Derived.Test.YtcpggmdiojaalaaGreatDoorFp9
import Derived.Test.YtcpggmdiojaalaaGreatDoorMOd
import Derived.Test.YtcpggmdiojaalaaGreatDoorMOe
/- Layer 9: the contracts of layState and Lay. -/
set_option linter.unusedVariables false
set_option linter.unusedSimpArgs false
namespace Go.Proofs.YtcpggmdiojaalaaGreatDoor.Sta
open Go.RowKit Js Lex Od

/-- A state's field, as it is laid. -/
def bare9 (x : S9) (k : Nat) : Value := [bareV 4 (Dec.mk x.h 0).1 (Dec.mk x.h 0).2.1 [], bareV 4 (Dec.mk x.b 0).1 (Dec.mk x.b 0).2.1 [], bareV 5 0 0 x.v, bareV 4 (Dec.mk x.o 0).1 (Dec.mk x.o 0).2.1 [], bareV 4 (Dec.mk x.u 0).1 (Dec.mk x.u 0).2.1 [],
  bareV (if x.lv = true then 3 else 2) 0 0 [], bareV 4 (Dec.mk x.n 0).1 (Dec.mk x.n 0).2.1 [], bareV 4 (Dec.mk x.q 0).1 (Dec.mk x.q 0).2.1 [], bareV (if x.dr = true then 3 else 2) 0 0 [], bareV 4 (Dec.mk x.ac 0).1 (Dec.mk x.ac 0).2.1 []].getD k undef
theorem bare9_form (x : S9) (k : Nat) (hk : k < 10) : ∃ a m e t, bare9 x k = .agg #[.int .i64 a, .int .i64 m, .int .i64 e, .string t, .slice none 0 0, .slice none 0 0] := by
  obtain rfl | rfl | rfl | rfl | rfl | rfl | rfl | rfl | rfl | rfl : k = 0 ∨ k = 1 ∨ k = 2 ∨ k = 3 ∨ k = 4 ∨ k = 5 ∨ k = 6 ∨ k = 7 ∨ k = 8 ∨ k = 9 := by omega
  all_goals exact ⟨_, _, _, _, rfl⟩
/-- A part lays its field. -/
theorem lay9_part {x : S9} (hr : rightT Tp.nameB x = true) {k : Nat} (hk : k < 10) {lo B : Nat} {v : Value} {w : World} (hP : Pt lo k v B w) : Calls Tryz.prog (la9 k) #[.agg (sC x), .pointer (some ⟨B + 2, 0, none⟩), .pointer (some ⟨B + 1, 0, none⟩)] w (Ret (bare9 x k) w) := by
  have hA := at9_of k hk
  have hB := hP.box
  obtain ⟨h1, h2, h3, h4, h5, h6, h7, h8⟩ := rightT_parts hr
  obtain rfl | rfl | rfl | rfl | rfl | rfl | rfl | rfl | rfl | rfl : k = 0 ∨ k = 1 ∨ k = 2 ∨ k = 3 ∨ k = 4 ∨ k = 5 ∨ k = 6 ∨ k = 7 ∨ k = 8 ∨ k = 9 := by omega
  · exact layI_any hA x.h h1 rfl w hB
  · exact layI_any hA x.b h2 rfl w hB
  · exact layS_any hA x.v rfl w hB
  · exact layI_any hA x.o h3 rfl w hB
  · exact layI_any hA x.u h4 rfl w hB
  · exact layB_any hA x.lv rfl w hB
  · exact layI_any hA x.n h5 rfl w hB
  · exact layI_any hA x.q h6 rfl w hB
  · exact layB_any hA x.dr rfl w hB
  · exact layI_any hA x.ac h7 rfl w hB
/-- What it lays reads as the field's value. -/
theorem bare9_jat {S : Nat → Prop} {x : S9} (hr : rightT Tp.nameB x = true) {k : Nat} (hk : k < 10) {w : World} : JAt S w 15 (bare9 x k) ((items9 x).getD k j0) := by
  obtain ⟨h1, h2, h3, h4, h5, h6, h7, h8⟩ := rightT_parts hr
  have ht : txtB x.v := by have := (Tp.name_len h8).2; unfold txtB; omega
  obtain rfl | rfl | rfl | rfl | rfl | rfl | rfl | rfl | rfl | rfl : k = 0 ∨ k = 1 ∨ k = 2 ∨ k = 3 ∨ k = 4 ∨ k = 5 ∨ k = 6 ∨ k = 7 ∨ k = 8 ∨ k = 9 := by omega
  · exact (num_jat h1).deep (by omega)
  · exact (num_jat h2).deep (by omega)
  · exact (str_jat ht).deep (by omega)
  · exact (num_jat h3).deep (by omega)
  · exact (num_jat h4).deep (by omega)
  · exact (flag_jat x.lv).deep (by omega)
  · exact (num_jat h5).deep (by omega)
  · exact (num_jat h6).deep (by omega)
  · exact (flag_jat x.dr).deep (by omega)
  · exact (num_jat h7).deep (by omega)
theorem la9_ent : ∀ k, k < 10 → Ent (la9 k) := fun k hk => by
  obtain rfl | rfl | rfl | rfl | rfl | rfl | rfl | rfl | rfl | rfl : k = 0 ∨ k = 1 ∨ k = 2 ∨ k = 3 ∨ k = 4 ∨ k = 5 ∨ k = 6 ∨ k = 7 ∨ k = 8 ∨ k = 9 := by omega
  · exact Tryz.call220
  · exact Tryz.call220
  · exact Tryz.call222
  · exact Tryz.call220
  · exact Tryz.call220
  · exact Tryz.call224
  · exact Tryz.call220
  · exact Tryz.call220
  · exact Tryz.call224
  · exact Tryz.call220
theorem take_snoc9 {α : Type} {z : α} {l : List α} {q : Nat} (h : q < l.length) : l.take (q + 1) = l.take q ++ [l.getD q z] := by
  rw [List.take_succ_eq_append_getElem h, List.getD_eq_getElem?_getD, List.getElem?_eq_getElem h]; rfl
/-- The state's box and the answer's place stay. -/
structure LS (w : World) (C : Array Value) (wr : World) : Prop where
  bel : Below w.heap.size w wr
  box : wr.heap[w.heap.size]? = some (.cells C 53 (0, 0))
  res : wr.heap[w.heap.size + 1]? = some (.cells #[.int .i64 0, .int .i64 0, .int .i64 0, .string ⟨#[]⟩, .slice none 0 0, .slice none 0 0] 45 (0, 0))
theorem LS.below {w wr w' : World} {C : Array Value} (h : LS w C wr) (hb : Below wr.heap.size wr w') : LS w C w' := ⟨h.bel.trans (hb.mono h.bel.size), (hb.block _ (Own.block_lt h.box)).trans h.box, (hb.block _ (Own.block_lt h.res)).trans h.res⟩
theorem three_lies {w : World} {b off : Nat} {c0 c1 c2 : Value} (h : LiesAt w b off (.agg #[c0, c1, c2])) : w.cell? ⟨b, off, none⟩ = some c0 ∧ w.cell? ⟨b, off + 1, none⟩ = some c1 ∧ w.cell? ⟨b, off + 2, none⟩ = some c2 := ⟨h 0 c0 rfl, h 1 c1 rfl, h 2 c2 rfl⟩

set_option maxHeartbeats 16000000 in
set_option maxRecDepth 100000 in
theorem layState_any (x : S9) (w : World) (hr : rightT Tp.nameB x = true) : Calls Tryz.prog 74 #[sV x] w (CRet w 16 (layJ9 x)) := by
  obtain ⟨i0, hi0, hz0, hz1, hz2⟩ := info_parts json_info
  obtain ⟨i1, hi1, hx0, hx1, hx2⟩ := info_parts str_info2
  have PA := Lib.hid (fun (w' : World) => parts9_any w')
  unfold PsRet at PA
  have LP := Lib.hid (show ∀ (q : Nat), q < 10 → ∀ (B : Nat) (w' : World), (∃ lo v, Pt lo q v B w') → Calls Tryz.prog (la9 q) #[.agg (sC x), .pointer (some ⟨B + 2, 0, none⟩), .pointer (some ⟨B + 1, 0, none⟩)] w' (Ret (bare9 x q) w') from fun q hq B w' ⟨lo, v, hP⟩ => lay9_part hr hq hP)
  have BJ := Lib.hid (fun (q : Nat) (hq : q < 10) (S : Nat → Prop) (w' : World) => bare9_jat (S := S) (w := w') hr hq)
  have BF := Lib.hid (fun (q : Nat) (hq : q < 10) => bare9_form x q hq)
  have HML := Lib.hid (mk_lay x)
  have HLI : Hid ((items9 x).length = 10) := rfl
  have HLN : Hid (names9.length = 10) := rfl
  have HTX : Hid (∀ q, q < 10 → txtB (nm9 q)) := by
    intro q hq
    obtain rfl | rfl | rfl | rfl | rfl | rfl | rfl | rfl | rfl | rfl : q = 0 ∨ q = 1 ∨ q = 2 ∨ q = 3 ∨ q = 4 ∨ q = 5 ∨ q = 6 ∨ q = 7 ∨ q = 8 ∨ q = 9 := by omega
    all_goals (unfold txtB; decide)
  unfold sV
  generalize items9 x = IS at *
  obtain ⟨NS, HNS⟩ : ∃ NS, Hid (names9 = NS) := ⟨_, rfl⟩
  have HNM : Hid (∀ q, nm9 q = NS.getD q []) := fun q => by rw [← HNS.out]; rfl
  rw [HNS.out] at HML HLN
  generalize layJ9 x = LJ at *
  have HBF : Hid (∃ f : Nat → Value, ∀ q, bare9 x q = f q) := ⟨_, fun _ => rfl⟩
  obtain ⟨bf, HBE⟩ := HBF.out
  simp only [HBE] at LP BJ BF
  clear HBE HBF hr
  have HC10 : Hid (∃ c0 c1 c2 c3 c4 c5 c6 c7 c8 c9, sC x = #[c0, c1, c2, c3, c4, c5, c6, c7, c8, c9]) := ⟨_, _, _, _, _, _, _, _, _, _, rfl⟩
  generalize sC x = C at *
  go_enter Tryz.func74, Tryz.ntmps74
  go_wp2_with (go_at_call 119; (with_reducible refine (PA.out _).mono ?_); rintro e1 w1 ⟨bp, rfl, hp0, hp1, hp2, hb1⟩; have L1 : Hid (LS w C w1) := (⟨belowTwo _ _ _, two_old _ _ _, two_new _ _ _⟩ : LS w C _).below hb1; have P1 := Lib.hid hp2; clear hp2 hb1)
  obtain ⟨wa, hwa⟩ : ∃ wa, w1 = wa := ⟨_, rfl⟩
  have hT0 : TI w1 w1.heap.size [] [] (.slice none 0 0) (.slice none 0 0) w1 := ⟨Below.refl _ _, Nat.le_refl _, ⟨[], own3_nil⟩, Nat.le_refl _⟩
  have HT0 := Lib.hid hT0
  have hbl := L1.out.bel.size
  clear hT0 hwa
  go_loopw [3, 4, 9] (fun s3 s4 i wr => ∃ (q : Nat), q ≤ 10 ∧ i = .int .i64 (q : Int) ∧ Hid (TI w1 w1.heap.size (NS.take q) (IS.take q) s3 s4 wr)) (fun _ _ i _ => 10 - (intOf i).toNat)
  case atStart => exact ⟨0, Nat.zero_le _, rfl, HT0⟩
  case round =>
    clear HT0
    obtain ⟨q, hq, rfl, HT⟩ := hrel
    have HLr := Lib.hid (L1.out.below HT.out.bel)
    by_cases hlt : q < 10
    · have a1 : (q : Int) < 10 := by omega
      obtain ⟨v, B, hv, hP⟩ := P1.out q hlt
      have HPB : Hid (∀ w', Below w1.heap.size w1 w' → ∃ lo v, Pt lo q v B w') := fun w' hb => ⟨_, _, hP.below hb⟩
      obtain ⟨hval, -, -⟩ := hP
      unfold partV at hval
      subst hval
      have hE := la9_ent q hlt
      unfold Ent at hE
      have LQ := Lib.hid (LP.out q hlt B)
      have BQ := Lib.hid (BJ.out q hlt)
      obtain ⟨fa, fm, fe, ft, hbf⟩ := BF.out q hlt
      rw [hbf] at LQ BQ
      have HTQ := Lib.hid (HTX.out q hlt)
      have HSN := Lib.hid (take_snoc9 (z := []) (l := NS) (q := q) (by rw [HLN.out]; exact hlt))
      have HSI := Lib.hid (take_snoc9 (z := j0) (l := IS) (q := q) (by rw [HLI.out]; exact hlt))
      rw [← HNM.out] at HSN
      obtain ⟨x0, x1, x2⟩ := three_lies (hv.keep (HT.out.bel.block bp hp1))
      have hnl : (NS.take q).length ≤ 10 := by rw [List.length_take]; omega
      have hal : (IS.take q).length ≤ 10 := by rw [List.length_take]; omega
      generalize NS.take q = ns at *
      generalize IS.take q = acc at *
      generalize IS.getD q j0 = jq at *
      generalize la9 q = L at *
      generalize ta9 q = T at *
      generalize nm9 q = nm at *
      obtain ⟨c0, c1, c2, c3, c4, c5, c6, c7, c8, c9, hC⟩ : ∃ c0 c1 c2 c3 c4 c5 c6 c7 c8 c9, C = #[c0, c1, c2, c3, c4, c5, c6, c7, c8, c9] := HC10.out
      subst hC
      obtain ⟨b0, b1, b2, b3, b4, b5, b6, b7, b8, b9⟩ := ten_of HLr.out.box
      have hbr := HT.out.bel.size
      obtain ⟨vs, hO⟩ := HT.out.own
      obtain ⟨ao1, cn1, rfl⟩ := own_slice hO.irow
      obtain ⟨an1, cn2, rfl⟩ := own_slice hO.nrow
      have HO := Lib.hid hO
      clear hO hv hbf
      go_wp2_with (first
        | (at_builtin; (refine wpList_append_lies _ rfl _ _ 36 rfl w1.heap.size 9 i1 _ 1 16 Tryz.underlying36 hi1 hx0 hx1 hx2 rfl (by omega) _ ns.length (ns.map strW) rfl ((HO.out.nrow.alloc _).alloc _) ⟨wr.heap.size + 1, 0, none⟩ 1 1 [.string ⟨nm.toArray⟩] rfl rfl (World.news_of_block (cs := #[.string ⟨nm.toArray⟩]) (t := 9) (fr := (0, 0)) (two_new _ _ _)) (by simp [Value.oneCell']) (by omega) (by unfold maxLen; omega) (by omega) (by simp; omega) (wr.heap.size + 1 + 1) (by simp) ?_); intro g cp w2 hown hgrow hat hlt2; have HT2 := Lib.hid (HT.out.name hgrow (belowTwo _ _ _) (hat.imp id (fun h => by omega)) HTQ.out hown); have HL2 := Lib.hid (L1.out.below HT2.out.bel); obtain ⟨d0, d1, d2, d3, d4, d5, d6, d7, d8, d9⟩ := ten_of HL2.out.box; have p1 := (World.cell?_of_block (w := (wr.alloc _).alloc _) (a := ⟨wr.heap.size, 1, none⟩) (hgrow.block wr.heap.size (by simp; omega) (fun h => by have := (HO.out.nrow.lt _ h.symm).2; omega))).trans (three_cells' (two_old wr _ _)).2.1; clear hown hgrow hat x0 x1 x2 b0 b1 b2 b3 b4 b5 b6 b7 b8 b9)
        | ((with_reducible refine (LQ.out _ (HPB.out _ HT2.out.bel)).mono ?_); rintro e3 w3 ⟨rfl, hb3⟩; obtain ⟨vs2, hO2⟩ := HT2.out.own; have HO2 := Lib.hid hO2; have HO3 := Lib.hid (hO2.below hb3 (Nat.le_refl _)); have HB3 := Lib.hid hb3; have HJ3 := Lib.hid (BQ.out (fun b => w2.heap.size ≤ b) w3); have hs3 := hb3.size; have hlo3 := HT2.out.hi; clear hO2 hb3)
        | (at_builtin; (refine wpList_append_lies _ rfl _ _ 43 rfl w1.heap.size 45 i0 _ 6 88 Tryz.underlying43 hi0 hz0 hz1 hz2 rfl (by omega) _ acc.length (vs2.flatMap aggC) rfl (HO3.out.irow.alloc _) ⟨w3.heap.size, 0, none⟩ 1 1 [.int .i64 fa, .int .i64 fm, .int .i64 fe, .string ft, .slice none 0 0, .slice none 0 0] rfl rfl (World.news_of_block (cs := #[.int .i64 fa, .int .i64 fm, .int .i64 fe, .string ft, .slice none 0 0, .slice none 0 0]) (t := 45) (fr := (0, 0)) (heap_alloc_new _ _)) (by simp [Value.oneCell']) (by omega) (by unfold maxLen; omega) (by omega) (by simp; omega) (w3.heap.size + 1) (by simp) ?_); intro g2 cp2 w4 hown2 hgrow2 hat2 hlt3; have HT4 := Lib.hid (HT2.out.item HO2.out HB3.out hgrow2 (belowOne _ _) (hat2.imp id (fun h => by omega)) hown2 HJ3.out); clear hown2 hgrow2 hat2))
      go_roundw
      case rel =>
        refine ⟨q + 1, by omega, by go_num, ?_⟩
        show TI _ _ _ _ _ _ _
        rw [HSN.out, HSI.out]
        exact HT4.out
      case measure => simp [intOf]; omega
    · obtain rfl : q = 10 := by omega
      have hT := HT.out
      rw [show NS.take 10 = NS from List.take_of_length_le (by rw [HLN.out]; omega), show IS.take 10 = IS from List.take_of_length_le (by rw [HLI.out]; omega)] at hT
      obtain ⟨vs, hO⟩ := hT.own
      obtain ⟨ai1, ci1, rfl⟩ := own_slice hO.irow
      obtain ⟨an1, cn1, rfl⟩ := own_slice hO.nrow
      have M1 := Lib.hid (make5_any Any Any 15 wr an1 cn1 ai1 ci1 NS IS (hO.strs (by rw [HLN.out]; omega)) (by rw [HLI.out]; omega) hO.its.2.1 hO.its.2.2 (by rw [HLN.out, HLI.out]; omega))
      rw [HML.out] at M1
      unfold CRet at M1
      have HBc := Lib.hid HLr.out.bel
      have hlr := Own.block_lt HLr.out.res
      clear hT hO HT
      go_wp2_with (go_at_call 31; (with_reducible refine (M1.out).mono ?_); rintro e2 w2 ⟨k2, m2, e2', t2, an2, nn2, cn2, ai2, ni2, ci2, rfl, hJ2, hb2⟩; have HB2 := Lib.hid (HBc.out.trans (hb2.mono HBc.out.size)); have x1 := (hb2.block _ hlr).trans HLr.out.res; obtain ⟨⟨z0, z1, z2, z3, z4, z5⟩, g0, g1, g2, g3, g4, g5⟩ := twelve_of x1; have hwr := HBc.out.size; have HJ2 := Lib.hid hJ2)
      refine bodyPost_ret (v := .agg #[.int .i64 k2, .int .i64 m2, .int .i64 e2', .string t2, .slice an2 nn2 cn2, .slice ai2 ni2 ci2]) (by simp [results, Tryz.results74, go_sem, z0, z1, z2, z3, z4, z5]) rfl ?_
      obtain ⟨q1, q2⟩ := cret_fin (bres := w.heap.size + 1) HB2.out (by omega) (HJ2.out.keep (fun b hb _ => by have hb' : wr.heap.size ≤ b := hb; exact ⟨by omega, by omega⟩) (fun _ _ _ => rfl) (Nat.le_refl _)) (.int .i64 k2) (.int .i64 m2) (.int .i64 e2') (.string t2) (.slice an2 nn2 cn2) (.slice ai2 ni2 ci2)
      exact ⟨_, _, _, _, _, _, _, _, _, _, rfl, q1, q2⟩
set_option maxHeartbeats 4000000 in
set_option maxRecDepth 100000 in
theorem Lay9_any (x : S9) (w : World) (hT : Dec.Tab w) (hx : x.ok) : Calls Tryz.prog 34 #[sV x] w (Ret (if rightT Tp.nameB x = true then .tuple #[.string ⟨(layS9 x).toArray⟩, .int .i64 0] else .tuple #[.string ⟨#[]⟩, .int .i64 1]) w) := by
  have R1 := Lib.hid (fun (w' : World) => right9_any x w' hx)
  by_cases hr : rightT Tp.nameB x = true
  · rw [if_pos hr]
    rw [hr] at R1
    have hrj := lay9_right name_ok hr
    have hlen := lay9_len name_ok hr
    have LO := Lib.hid (fun (w' : World) => layState_any x w' hr)
    unfold CRet at LO
    have PR := Lib.hid (fun (w' : World) (v : Value) (hb : Below w.heap.size w w') (hJ : JAt Any w' 16 v (layJ9 x)) => print_of Any v (layJ9 x) w' (hT.below hb) ⟨16, hJ⟩ (by omega))
    have hps : printS (layJ9 x) = printJ (layJ9 x) := by unfold printS; rw [if_pos hrj]
    rw [hps] at PR
    have SE := Lib.hid (fun (w' : World) => Se.seal_l (printJ (layJ9 x)) w' (by omega))
    unfold layS9
    generalize Se.sealS (printJ (layJ9 x)) = T at *
    generalize printJ (layJ9 x) = U at *
    generalize layJ9 x = L at *
    unfold sV sC at *
    obtain ⟨hd, bo, nm, od, up, lv, nd, sq, dr, ac⟩ := x
    simp only at R1 LO ⊢
    clear hrj hlen hps hr hx
    go_enter Tryz.func34, Tryz.ntmps34
    go_wp2_with (first
      | (go_at_call 36; (with_reducible refine (R1.out _).mono ?_); rintro e1 w1 ⟨rfl, hb1⟩; have HB1 := Lib.hid (show Below w.heap.size w w1 from (belowOne w _).trans (hb1.mono (by simp))); obtain ⟨y0, y1, y2, y3, y4, y5, y6, y7, y8, y9⟩ := ten_of ((hb1.block _ (by simp)).trans (heap_alloc_new w _)))
      | (go_at_call 74; (with_reducible refine (LO.out _).mono ?_); rintro e2 w2 ⟨k6, m6, e6', t6, an6, nn6, cn6, ai6, ni6, ci6, rfl, hJ6, hb6⟩; have HB2 := Lib.hid (HB1.out.trans (hb6.mono HB1.out.size)); have HJ6 := Lib.hid hJ6.any)
      | (go_at_call 30; (with_reducible refine (PR.out _ _ HB2.out HJ6.out).mono ?_); rintro e3 w3 ⟨rfl, hb3⟩; have HB3 := Lib.hid (HB2.out.trans (hb3.mono HB2.out.size)))
      | (go_at_call 23; (with_reducible refine (SE.out _).mono ?_); rintro e4 w4 ⟨rfl, hb4⟩; have HB4 := Lib.hid (HB3.out.trans (hb4.mono HB3.out.size))))
    go_ret2
    exact ⟨rfl, HB4.out⟩
  · rw [if_neg hr]
    rw [Bool.not_eq_true] at hr
    rw [hr] at R1
    unfold sV sC at *
    obtain ⟨hd, bo, nm, od, up, lv, nd, sq, dr, ac⟩ := x
    simp only at R1 ⊢
    clear hr hx
    go_enter Tryz.func34, Tryz.ntmps34
    go_wp2_with (go_at_call 36; (with_reducible refine (R1.out _).mono ?_); rintro e1 w1 ⟨rfl, hb1⟩)
    go_ret2
    exact ⟨rfl, (belowOne w _).trans (hb1.mono (by simp))⟩
end Go.Proofs.YtcpggmdiojaalaaGreatDoor.Sta

/- Layer 9: the contracts of takeState and Take. -/
set_option linter.unusedVariables false
set_option linter.unusedSimpArgs false
namespace Go.Proofs.YtcpggmdiojaalaaGreatDoor.Sta
open Go.RowKit Js Lex Od

/-- What is told of each field, and whether it was there. -/
def tv9 (j : J) (k : Nat) : Value := (sC (told9 j)).getD k undef
def th9 (j : J) (k : Nat) : Bool := [(tellG 0 numS j hdrL).2, (tellG 0 numS j bootL).2, (tellG ([] : List UInt8) txtS j serL).2, (tellG 0 numS j ordL).2, (tellG 0 numS j updL).2, (tellG false flagS j liveL).2, (tellG 0 numS j lnidL).2, (tellG 0 numS j lseqL).2, (tellG false flagS j drivL).2, (tellG 0 numS j accL).2].getD k false
theorem take9_part {j : J} {k : Nat} (hk : k < 10) {C : Array Value} {u0 : Value} (hu : C[k]? = some u0) {bs lo B d : Nat} {S : Nat → Prop} {v p : Value} (w : World) (hs : w.heap[bs]? = some (.cells C 53 (0, 0))) (hJ : JAt S w d v j) (hP : Pt lo k p B w) :
    Calls Tryz.prog (ta9 k) #[.pointer (some ⟨bs, 0, none⟩), v, .pointer (some ⟨B + 3, 0, none⟩), .pointer (some ⟨B, 0, none⟩), .pointer (some ⟨B + 1, 0, none⟩)] w (TkRet w bs C k (tv9 j k) (th9 j k)) := by
  have hA := at9_of k hk
  have hB := hP.box
  obtain rfl | rfl | rfl | rfl | rfl | rfl | rfl | rfl | rfl | rfl : k = 0 ∨ k = 1 ∨ k = 2 ∨ k = 3 ∨ k = 4 ∨ k = 5 ∨ k = 6 ∨ k = 7 ∨ k = 8 ∨ k = 9 := by omega
  · exact takeI_any hA hu w hs hJ hB
  · exact takeI_any hA hu w hs hJ hB
  · exact takeS_any hA hu w hs hJ hB
  · exact takeI_any hA hu w hs hJ hB
  · exact takeI_any hA hu w hs hJ hB
  · exact takeB_any hA hu w hs hJ hB
  · exact takeI_any hA hu w hs hJ hB
  · exact takeI_any hA hu w hs hJ hB
  · exact takeB_any hA hu w hs hJ hB
  · exact takeI_any hA hu w hs hJ hB
/-- A state that is half told. -/
def mix9 (j : J) (q : Nat) : Array Value := ((sC (told9 j)).toList.take q ++ (sC s0).toList.drop q).toArray
theorem mix9_get {j : J} {q : Nat} (hq : q < 10) : ∃ u, (mix9 j q)[q]? = some u := by
  have h : q < (mix9 j q).size := by
    unfold mix9
    have e1 : (sC (told9 j)).toList.length = 10 := rfl
    have e2 : (sC s0).toList.length = 10 := rfl
    simp only [List.size_toArray, List.length_append, List.length_take, List.length_drop, e1, e2]
    omega
  exact ⟨_, Array.getElem?_eq_getElem h⟩
theorem mix9_step {j : J} {q : Nat} (hq : q < 10) : (mix9 j q).setIfInBounds q (tv9 j q) = mix9 j (q + 1) := by
  obtain rfl | rfl | rfl | rfl | rfl | rfl | rfl | rfl | rfl | rfl : q = 0 ∨ q = 1 ∨ q = 2 ∨ q = 3 ∨ q = 4 ∨ q = 5 ∨ q = 6 ∨ q = 7 ∨ q = 8 ∨ q = 9 := by omega
  all_goals rfl
theorem has9_all (j : J) : has9 j = true ↔ ∀ q, q < 10 → th9 j q = true := by
  constructor
  · intro h q hq
    unfold has9 at h
    simp only [Bool.and_eq_true] at h
    obtain ⟨h0, h1, h2, h3, h4, h5, h6, h7, h8, h9⟩ := h
    obtain rfl | rfl | rfl | rfl | rfl | rfl | rfl | rfl | rfl | rfl : q = 0 ∨ q = 1 ∨ q = 2 ∨ q = 3 ∨ q = 4 ∨ q = 5 ∨ q = 6 ∨ q = 7 ∨ q = 8 ∨ q = 9 := by omega
    all_goals assumption
  · intro h
    unfold has9
    simp only [Bool.and_eq_true]
    exact ⟨h 0 (by omega), h 1 (by omega), h 2 (by omega), h 3 (by omega), h 4 (by omega), h 5 (by omega), h 6 (by omega), h 7 (by omega), h 8 (by omega), h 9 (by omega)⟩
/-- Between the rounds: the state's block moves alone. -/
structure TS (w1 : World) (bs : Nat) (C : Array Value) (wr : World) : Prop where
  mov : Moves w1.heap.size bs w1 wr
  blk : wr.heap[bs]? = some (.cells C 53 (0, 0))
/-- What takeState leaves. -/
def TsRet (w : World) (x : S9) (f : Bool) (e : Ending) (w' : World) : Prop := e = .returned (.tuple #[sV x, .bool f]) ∧ Below w.heap.size w w'

theorem moves_low {w w1 wr : World} {bs : Nat} (h : Moves w1.heap.size bs w1 wr) (h1 : w.heap.size ≤ w1.heap.size) (h2 : w.heap.size + 1 < bs) : Below w.heap.size w1 wr := (h.mono h1).below (by omega)
theorem ta9_ent : ∀ k, k < 10 → Ent (ta9 k) := fun k hk => by
  obtain rfl | rfl | rfl | rfl | rfl | rfl | rfl | rfl | rfl | rfl : k = 0 ∨ k = 1 ∨ k = 2 ∨ k = 3 ∨ k = 4 ∨ k = 5 ∨ k = 6 ∨ k = 7 ∨ k = 8 ∨ k = 9 := by omega
  · exact Tryz.call221
  · exact Tryz.call221
  · exact Tryz.call223
  · exact Tryz.call221
  · exact Tryz.call221
  · exact Tryz.call225
  · exact Tryz.call221
  · exact Tryz.call221
  · exact Tryz.call225
  · exact Tryz.call221
theorem three_allocs (w : World) (a b c : Obj) : (((w.alloc a).alloc b).alloc c).heap[w.heap.size]? = some a ∧ (((w.alloc a).alloc b).alloc c).heap[w.heap.size + 1]? = some b ∧ (((w.alloc a).alloc b).alloc c).heap[w.heap.size + 1 + 1]? = some c ∧ (((w.alloc a).alloc b).alloc c).heap.size = w.heap.size + 1 + 1 + 1 ∧ Below w.heap.size w (((w.alloc a).alloc b).alloc c) := by
  refine ⟨?_, ?_, ?_, by simp, ((belowTwo w a b).alloc (by simp; omega) c)⟩
  · rw [heap_alloc_old _ _ (by simp <;> omega)]
    exact two_old w a b
  · rw [heap_alloc_old _ _ (by simp <;> omega)]
    exact two_new w a b
  · have := heap_alloc_new ((w.alloc a).alloc b) c
    simpa using this
/-- The boxes of takeState: the value, the answer's place, the state. -/
structure TB (w : World) (X : Array Value) (w1 : World) : Prop where
  bel : Below w.heap.size w w1
  box : w1.heap[w.heap.size]? = some (.cells X 45 (0, 0))
  res : w1.heap[w.heap.size + 1]? = some (.cells #[.int .i64 0, .int .i64 0, .string ⟨#[]⟩, .int .i64 0, .int .i64 0, .bool false, .int .i64 0, .int .i64 0, .bool false, .int .i64 0] 53 (0, 0))
  st : w1.heap[w.heap.size + 1 + 1]? = some (.cells (sC s0) 53 (0, 0))
theorem TS.next {w1 wr w2 : World} {bs : Nat} {C C' : Array Value} {o : Obj} (h : TS w1 bs C wr) (hm : Moves (wr.alloc o).heap.size bs (wr.alloc o) w2) (hb : w2.heap[bs]? = some (.cells C' 53 (0, 0))) : TS w1 bs C' w2 :=
  ⟨(h.mov.alloc h.mov.size o).trans (hm.mono (by have := h.mov.size; simp; omega)), hb⟩

set_option maxHeartbeats 16000000 in
set_option maxRecDepth 100000 in
theorem takeState_any (S : Nat → Prop) (d : Nat) (v : Value) (j : J) (w : World) (hJ : JAt S w d v j) : Calls Tryz.prog 78 #[v] w (TsRet w (if has9 j = true then told9 j else s0) (has9 j)) := by
  have PA := Lib.hid (fun (w' : World) => parts9_any w')
  unfold PsRet at PA
  obtain ⟨F, HF⟩ : ∃ F, Hid (has9 j = F) := ⟨_, rfl⟩
  obtain ⟨X, HX⟩ : ∃ X, Hid ((if has9 j = true then told9 j else s0) = X) := ⟨_, rfl⟩
  rw [HX.out, HF.out]
  have HJ := Lib.hid hJ
  obtain ⟨k, m, e, t, an, nn, cn, ai, ni, ci, rfl⟩ := jAt_form hJ
  clear hJ
  go_enter Tryz.func78, Tryz.ntmps78
  go_wp2_with (go_at_call 119; (with_reducible refine (PA.out _).mono ?_); rintro e1 w1 ⟨bp, rfl, hp0, hp1, hp2, hb1⟩; have P1 := Lib.hid hp2; have HB1 := Lib.hid hb1; clear hp2 hb1)
  obtain ⟨y0, y1, y2, ysz, yb⟩ := three_allocs w (.cells #[.int .i64 k, .int .i64 m, .int .i64 e, .string t, .slice an nn cn, .slice ai ni ci] 45) (.cells #[.int .i64 0, .int .i64 0, .string ⟨#[]⟩, .int .i64 0, .int .i64 0, .bool false, .int .i64 0, .int .i64 0, .bool false, .int .i64 0] 53) (.cells #[.int .i64 0, .int .i64 0, .string ⟨#[]⟩, .int .i64 0, .int .i64 0, .bool false, .int .i64 0, .int .i64 0, .bool false, .int .i64 0] 53)
  generalize ((w.alloc (.cells #[.int .i64 k, .int .i64 m, .int .i64 e, .string t, .slice an nn cn, .slice ai ni ci] 45)).alloc (.cells #[.int .i64 0, .int .i64 0, .string ⟨#[]⟩, .int .i64 0, .int .i64 0, .bool false, .int .i64 0, .int .i64 0, .bool false, .int .i64 0] 53)).alloc (.cells #[.int .i64 0, .int .i64 0, .string ⟨#[]⟩, .int .i64 0, .int .i64 0, .bool false, .int .i64 0, .int .i64 0, .bool false, .int .i64 0] 53) = w3 at *
  rw [ysz] at hp0
  have hs1 := HB1.out.size
  have HTB : Hid (TB w #[.int .i64 k, .int .i64 m, .int .i64 e, .string t, .slice an nn cn, .slice ai ni ci] w1) := ⟨yb.trans (HB1.out.mono (by omega)), (HB1.out.block _ (by omega)).trans y0, (HB1.out.block _ (by omega)).trans y1, (HB1.out.block _ (by omega)).trans y2⟩
  have HSZ := Lib.hid ysz
  have hsw : w.heap.size + 1 + 1 + 1 ≤ w1.heap.size := by omega
  have HT0 : Hid (TS w1 (w.heap.size + 1 + 1) (mix9 j 0) w1) := ⟨Moves.refl _ _ _, HTB.out.st⟩
  clear y0 y1 y2 ysz yb HB1 hs1
  obtain ⟨bs, HBS⟩ : ∃ bs, Hid (w.heap.size + 1 + 1 = bs) := ⟨_, rfl⟩
  rw [HBS.out] at HT0 hp0 hsw ⊢
  have hbs : w.heap.size + 1 < bs := by have := HBS.out; omega
  go_loopw [9] (fun i wr => ∃ (q : Nat), q ≤ 10 ∧ i = .int .i64 (q : Int) ∧ Hid (TS w1 bs (mix9 j q) wr) ∧ Hid (∀ p, p < q → th9 j p = true)) (fun i _ => 10 - (intOf i).toNat)
  case atStart => exact ⟨0, Nat.zero_le _, rfl, HT0, fun p hp => absurd hp (Nat.not_lt_zero _)⟩
  case round =>
    clear HT0
    obtain ⟨q, hq, rfl, HT, HA⟩ := hrel
    have hsr := HT.out.mov.size
    have HJB : Hid (wr.heap[w.heap.size]? = some (.cells #[.int .i64 k, .int .i64 m, .int .i64 e, .string t, .slice an nn cn, .slice ai ni ci] 45 (0, 0))) := (HT.out.mov.block _ (by omega) (by omega)).trans HTB.out.box
    have HRE : Hid (wr.heap[w.heap.size + 1]? = some (.cells #[.int .i64 0, .int .i64 0, .string ⟨#[]⟩, .int .i64 0, .int .i64 0, .bool false, .int .i64 0, .int .i64 0, .bool false, .int .i64 0] 53 (0, 0))) := (HT.out.mov.block _ (by omega) (by omega)).trans HTB.out.res
    by_cases hlt : q < 10
    · have a1 : (q : Int) < 10 := by omega
      obtain ⟨pv, B, hv, hP⟩ := P1.out q hlt
      have hPB := hP.lo
      rw [HSZ.out, HBS.out] at hPB
      obtain ⟨u0, hu0⟩ := mix9_get (j := j) hlt
      have HPW : Hid (∀ o, Pt (bs + 1) q pv B (wr.alloc o)) := fun o => ⟨hP.val, hP.box.keep (fun k hk hl => (heap_alloc_old wr o (by omega)).trans (HT.out.mov.block k hl (by omega))) (by simp; omega), hPB⟩
      have HJW : Hid (∀ o, JAt S (wr.alloc o) d (.agg #[.int .i64 k, .int .i64 m, .int .i64 e, .string t, .slice an nn cn, .slice ai ni ci]) j) := fun o => HJ.out.keep (fun _ h _ => h) (fun b _ hl => (heap_alloc_old wr o (by omega)).trans ((HT.out.mov.block b (by omega) (by omega)).trans (HTB.out.bel.block b hl))) (by have := HTB.out.bel.size; simp; omega)
      have HSW : Hid (∀ o, (wr.alloc o).heap[bs]? = some (.cells (mix9 j q) 53 (0, 0))) := fun o => (heap_alloc_old wr o (Own.block_lt HT.out.blk)).trans HT.out.blk
      have TQ := Lib.hid (fun o => take9_part hlt hu0 (wr.alloc o) (HSW.out o) (HJW.out o) (HPW.out o))
      unfold TkRet at TQ
      obtain ⟨hval, -, -⟩ := hP
      unfold partV at hval
      subst hval
      have hE := ta9_ent q hlt
      unfold Ent at hE
      obtain ⟨x0, x1, x2⟩ := three_lies (hv.keep (HT.out.mov.block bp hp1 (by omega)))
      obtain ⟨v0, v1, v2, v3, v4, v5⟩ := six_of HJB.out
      have hql : w.heap.size < wr.heap.size := by omega
      have HMS := Lib.hid (mix9_step (j := j) hlt)
      obtain ⟨r, HR⟩ : ∃ r, Hid (th9 j q = r) := ⟨_, rfl⟩
      rw [HMS.out, HR.out] at TQ
      generalize la9 q = L at *
      generalize ta9 q = T at *
      generalize nm9 q = nm at *
      clear hv hu0 HPW HJW HSW
      cases r with
      | true =>
        go_wp2_with ((with_reducible refine (TQ.out _).mono ?_); rintro e2 w2 ⟨rfl, hs2, hm2⟩; have HN2 := Lib.hid (HT.out.next hm2 hs2); clear hs2 hm2)
        go_roundw
        case rel =>
          refine ⟨q + 1, by omega, by go_num, HN2, fun p hp => ?_⟩
          by_cases hpq : p = q
          · subst hpq; exact HR.out
          · exact HA.out p (by omega)
        case measure => simp [intOf]; omega
      | false =>
        have HF0 : Hid (F = false) := by
          show _ = _
          rw [← HF.out]
          cases hh : has9 j with
          | false => rfl
          | true => rw [(has9_all j).1 hh q hlt] at HR; exact absurd HR.out (by decide)
        have HX0 : Hid (X = s0) := by
          show _ = _
          rw [← HX.out, HF.out, HF0.out, if_neg (by decide)]
        go_wp2_with ((with_reducible refine (TQ.out _).mono ?_); rintro e2 w2 ⟨rfl, hs2, hm2⟩; have HM2 := Lib.hid (HT.out.next hm2 hs2).mov; have hr2 := (HM2.out.block (w.heap.size + 1) (by omega) (by omega)).trans HTB.out.res; obtain ⟨z0, z1, z2, z3, z4, z5, z6, z7, z8, z9⟩ := ten_of hr2; obtain ⟨g0, g1, g2, g3, g4, g5, g6, g7, g8, g9⟩ := free_ten hr2; clear hs2 hm2 hr2)
        refine bodyPost_ret (v := .tuple #[.agg #[.int .i64 0, .int .i64 0, .string ⟨#[]⟩, .int .i64 0, .int .i64 0, .bool false, .int .i64 0, .int .i64 0, .bool false, .int .i64 0], .bool false]) (by simp [results, Tryz.results78, go_sem, z0, z1, z2, z3, z4, z5, z6, z7, z8, z9]) rfl ?_
        rw [HF0.out, HX0.out]
        exact ⟨rfl, below_ten (HTB.out.bel.trans (moves_low HM2.out HTB.out.bel.size hbs)) (by omega) _ _ _ _ _ _ _ _ _ _⟩
    · obtain rfl : q = 10 := by omega
      have HF1 : Hid (F = true) := by
        show _ = _
        rw [← HF.out]
        exact (has9_all j).2 HA.out
      have HX1 : Hid (X = told9 j) := by
        show _ = _
        rw [← HX.out, HF.out, HF1.out, if_pos rfl]
      have hst := HT.out.blk
      rw [show mix9 j 10 = sC (told9 j) from rfl, ← HX1.out] at hst
      obtain ⟨hd, bo, nv, od, up, lv, nd, sq, dr, ac⟩ := X
      unfold sC at hst
      simp only at hst
      obtain ⟨c0, c1, c2, c3, c4, c5, c6, c7, c8, c9⟩ := ten_of hst
      have hr2 := HRE.out
      obtain ⟨z0, z1, z2, z3, z4, z5, z6, z7, z8, z9⟩ := ten_of hr2
      obtain ⟨g0, g1, g2, g3, g4, g5, g6, g7, g8, g9⟩ := free_ten hr2
      have HM2 := Lib.hid HT.out.mov
      clear hst hr2
      go_wp2_with fail
      refine bodyPost_ret (v := .tuple #[.agg #[.int .i64 hd, .int .i64 bo, .string ⟨nv.toArray⟩, .int .i64 od, .int .i64 up, .bool lv, .int .i64 nd, .int .i64 sq, .bool dr, .int .i64 ac], .bool true]) (by simp [results, Tryz.results78, go_sem, z0, z1, z2, z3, z4, z5, z6, z7, z8, z9]) rfl ?_
      rw [HF1.out]
      exact ⟨rfl, below_ten (HTB.out.bel.trans (moves_low HM2.out HTB.out.bel.size hbs)) (by omega) _ _ _ _ _ _ _ _ _ _⟩
theorem told9_ok {S : Nat → Prop} {w : World} {d : Nat} {v : Value} {j : J} (h : JAt S w d v j) : (told9 j).ok := by
  have ht := tell_txt h serL
  unfold txtB at ht
  exact ⟨tell_i64 j hdrL, tell_i64 j bootL, tell_i64 j ordL, tell_i64 j updL, tell_i64 j lnidL, tell_i64 j lseqL, tell_i64 j accL, by unfold told9; simp only; omega⟩
theorem take9_told (j : J) : (match takeJ9 Tp.nameB j with | some x => ((0 : Int), some x) | none => (90, none)) = if has9 j = true ∧ rightT Tp.nameB (told9 j) = true then (0, some (told9 j)) else (90, none) := by
  unfold takeJ9
  split <;> rename_i h <;> split at h <;> simp_all
set_option maxHeartbeats 16000000 in
set_option maxRecDepth 100000 in
theorem Take9_any (s : List UInt8) (w : World) (hs : s.length ≤ 281474976710656) : Calls Tryz.prog 41 #[.string ⟨s.toArray⟩] w (Ret (.tuple #[sV ((takeS9 Tp.nameB s).2.getD s0), .int .i64 (takeS9 Tp.nameB s).1]) w) := by
  have Z0 : sV s0 = .agg #[.int .i64 0, .int .i64 0, .string ⟨#[]⟩, .int .i64 0, .int .i64 0, .bool false, .int .i64 0, .int .i64 0, .bool false, .int .i64 0] := rfl
  cases hO : Se.openS s with
  | none =>
    have OP := Lib.hid (fun (w' : World) => Se.open_none hO w' hs)
    rw [show takeS9 Tp.nameB s = (60, none) by unfold takeS9; rw [hO]]
    simp only [Option.getD_none]
    rw [Z0]
    clear Z0
    go_enter Tryz.func41, Tryz.ntmps41
    go_wp2_with (go_at_call 26; (with_reducible refine (OP.out _).mono ?_); rintro e1 w1 ⟨rfl, hb1⟩; have HB1 := Lib.hid (show Below w.heap.size w w1 from (belowOne w _).trans (hb1.mono (by simp))); have x1 := (hb1.block _ (by simp)).trans (heap_alloc_new w _); obtain ⟨z0, z1, z2, z3, z4, z5, z6, z7, z8, z9⟩ := ten_of x1; obtain ⟨g0, g1, g2, g3, g4, g5, g6, g7, g8, g9⟩ := free_ten x1; clear x1)
    refine bodyPost_ret (v := .tuple #[.agg #[.int .i64 0, .int .i64 0, .string ⟨#[]⟩, .int .i64 0, .int .i64 0, .bool false, .int .i64 0, .int .i64 0, .bool false, .int .i64 0], .int .i64 60]) (by simp [results, Tryz.results41, go_sem, z0, z1, z2, z3, z4, z5, z6, z7, z8, z9]) rfl ?_
    exact ⟨rfl, below_ten HB1.out (Nat.le_refl _) _ _ _ _ _ _ _ _ _ _⟩
  | some t =>
    have htl : t.length ≤ 281474976710656 := by
      have := Se.seal_open hO
      have := congrArg List.length this
      rw [Se.sealS_len] at this
      omega
    have OP := Lib.hid (fun (w' : World) => Se.open_some hO w' hs)
    have PA := Lib.hid (fun (w' : World) => parse_any t w' (by unfold maxLen; omega))
    have HTS : Hid (takeS9 Tp.nameB s = if (parseS t).1 = 0 then (match takeJ9 Tp.nameB (parseS t).2.1 with | some x => (0, some x) | none => (90, none)) else ((parseS t).1, none)) := by
      show _ = _
      unfold takeS9; rw [hO]; rfl
    rw [HTS.out]
    unfold ParseRet at PA
    generalize parseS t = P at *
    obtain ⟨pe, j, pq⟩ := P
    simp only at PA ⊢
    clear HTS hO hs htl
    by_cases hpe : pe = 0
    · subst hpe
      rw [if_pos rfl, take9_told]
      have TKO0 := fun (w' : World) (d : Nat) (v : Value) (h : JAt Any w' d v j) => takeState_any Any d v j w' h
      have RI0 := fun (w' : World) (d : Nat) (v : Value) (h : JAt Any w' d v j) (u : World) => right9_any (told9 j) u (told9_ok h)
      unfold TsRet at TKO0
      generalize has9 j = F at *
      cases F with
      | false =>
        have TKO := Lib.hid TKO0
        clear TKO0 RI0
        rw [if_neg (by simp)] at TKO
        rw [if_neg (by simp)]
        simp only [Option.getD_none]
        rw [Z0] at TKO ⊢
        clear Z0
        go_enter Tryz.func41, Tryz.ntmps41
        go_wp2_with (first
          | (go_at_call 26; (with_reducible refine (OP.out _).mono ?_); rintro e1 w1 ⟨rfl, hb1⟩; have HB1 := Lib.hid (show Below w.heap.size w w1 from (belowOne w _).trans (hb1.mono (by simp))); have x1 := (hb1.block _ (by simp)).trans (heap_alloc_new w _); have X1 := Lib.hid x1; have hl1 := Own.block_lt x1; clear x1)
          | (go_at_call 27; (with_reducible refine (PA.out _).mono ?_); rintro e2 w2 ⟨k2, m2, e2', t2, an2, nn2, cn2, ai2, ni2, ci2, rfl, ⟨dd, hJ2⟩, hb2⟩; have HB2 := Lib.hid ((HB1.out.trans (hb2.mono HB1.out.size)).alloc (Nat.le_trans HB1.out.size hb2.size) (.cells #[.int .i64 k2, .int .i64 m2, .int .i64 e2', .string t2, .slice an2 nn2 cn2, .slice ai2 ni2 ci2] 45)); have hs2 := hb2.size; have HX2 := Lib.hid ((heap_alloc_old w2 (.cells #[.int .i64 k2, .int .i64 m2, .int .i64 e2', .string t2, .slice an2 nn2 cn2, .slice ai2 ni2 ci2] 45) (by omega)).trans ((hb2.block _ hl1).trans X1.out)); have HJ2 := Lib.hid (hJ2.any.below (belowOne w2 (.cells #[.int .i64 k2, .int .i64 m2, .int .i64 e2', .string t2, .slice an2 nn2 cn2, .slice ai2 ni2 ci2] 45)) (Nat.le_refl _)); clear hJ2; obtain ⟨v0, v1, v2, v3, v4, v5⟩ := six_of (heap_alloc_new w2 (.cells #[.int .i64 k2, .int .i64 m2, .int .i64 e2', .string t2, .slice an2 nn2 cn2, .slice ai2 ni2 ci2] 45)))
          | (go_at_call 78; (with_reducible refine (TKO.out _ _ _ HJ2.out).mono ?_); rintro e3 w3 ⟨rfl, hb3⟩; have HB3 := Lib.hid ((HB2.out.trans (hb3.mono HB2.out.size)).alloc (Nat.le_trans HB2.out.size hb3.size) (.cells #[.int .i64 0, .int .i64 0, .string ⟨#[]⟩, .int .i64 0, .int .i64 0, .bool false, .int .i64 0, .int .i64 0, .bool false, .int .i64 0] 53)); have hs3 := hb3.size; have HX3 := Lib.hid ((heap_alloc_old w3 (.cells #[.int .i64 0, .int .i64 0, .string ⟨#[]⟩, .int .i64 0, .int .i64 0, .bool false, .int .i64 0, .int .i64 0, .bool false, .int .i64 0] 53) (by have := Own.block_lt HX2.out; omega)).trans ((hb3.block _ (Own.block_lt HX2.out)).trans HX2.out)); have hx3 := HX3.out; obtain ⟨z0, z1, z2, z3, z4, z5, z6, z7, z8, z9⟩ := ten_of hx3; obtain ⟨g0, g1, g2, g3, g4, g5, g6, g7, g8, g9⟩ := free_ten hx3; clear hx3; obtain ⟨u0, u1, u2, u3, u4, u5, u6, u7, u8, u9⟩ := ten_of (heap_alloc_new w3 (.cells #[.int .i64 0, .int .i64 0, .string ⟨#[]⟩, .int .i64 0, .int .i64 0, .bool false, .int .i64 0, .int .i64 0, .bool false, .int .i64 0] 53))))
        refine bodyPost_ret (v := .tuple #[.agg #[.int .i64 0, .int .i64 0, .string ⟨#[]⟩, .int .i64 0, .int .i64 0, .bool false, .int .i64 0, .int .i64 0, .bool false, .int .i64 0], .int .i64 90]) (by simp [results, Tryz.results41, go_sem, z0, z1, z2, z3, z4, z5, z6, z7, z8, z9]) rfl ?_
        exact ⟨rfl, below_ten HB3.out (Nat.le_refl _) _ _ _ _ _ _ _ _ _ _⟩
      | true =>
        have TKO := Lib.hid TKO0
        have RI := Lib.hid RI0
        clear TKO0 RI0
        rw [if_pos rfl] at TKO
        generalize told9 j = x at *
        obtain ⟨RR, hRR⟩ : ∃ r, rightT Tp.nameB x = r := ⟨_, rfl⟩
        rw [hRR] at RI ⊢
        clear hRR
        unfold sV sC at TKO RI
        obtain ⟨hd, bo, nm, od, up, lv, nd, sq, dr, ac⟩ := x
        simp only at TKO RI
        cases RR with
        | false =>
          rw [if_neg (by simp)]
          simp only [Option.getD_none]
          rw [Z0]
          clear Z0
          go_enter Tryz.func41, Tryz.ntmps41
          go_wp2_with (first
            | (go_at_call 26; (with_reducible refine (OP.out _).mono ?_); rintro e1 w1 ⟨rfl, hb1⟩; have HB1 := Lib.hid (show Below w.heap.size w w1 from (belowOne w _).trans (hb1.mono (by simp))); have x1 := (hb1.block _ (by simp)).trans (heap_alloc_new w _); have X1 := Lib.hid x1; have hl1 := Own.block_lt x1; clear x1)
            | (go_at_call 27; (with_reducible refine (PA.out _).mono ?_); rintro e2 w2 ⟨k2, m2, e2', t2, an2, nn2, cn2, ai2, ni2, ci2, rfl, ⟨dd, hJ2⟩, hb2⟩; have HB2 := Lib.hid ((HB1.out.trans (hb2.mono HB1.out.size)).alloc (Nat.le_trans HB1.out.size hb2.size) (.cells #[.int .i64 k2, .int .i64 m2, .int .i64 e2', .string t2, .slice an2 nn2 cn2, .slice ai2 ni2 ci2] 45)); have hs2 := hb2.size; have HX2 := Lib.hid ((heap_alloc_old w2 (.cells #[.int .i64 k2, .int .i64 m2, .int .i64 e2', .string t2, .slice an2 nn2 cn2, .slice ai2 ni2 ci2] 45) (by omega)).trans ((hb2.block _ hl1).trans X1.out)); have HJ2 := Lib.hid (hJ2.any.below (belowOne w2 (.cells #[.int .i64 k2, .int .i64 m2, .int .i64 e2', .string t2, .slice an2 nn2 cn2, .slice ai2 ni2 ci2] 45)) (Nat.le_refl _)); clear hJ2; obtain ⟨v0, v1, v2, v3, v4, v5⟩ := six_of (heap_alloc_new w2 (.cells #[.int .i64 k2, .int .i64 m2, .int .i64 e2', .string t2, .slice an2 nn2 cn2, .slice ai2 ni2 ci2] 45)))
            | (go_at_call 78; (with_reducible refine (TKO.out _ _ _ HJ2.out).mono ?_); rintro e3 w3 ⟨rfl, hb3⟩; have HB3 := Lib.hid ((HB2.out.trans (hb3.mono HB2.out.size)).alloc (Nat.le_trans HB2.out.size hb3.size) (.cells #[.int .i64 hd, .int .i64 bo, .string ⟨nm.toArray⟩, .int .i64 od, .int .i64 up, .bool lv, .int .i64 nd, .int .i64 sq, .bool dr, .int .i64 ac] 53)); have hs3 := hb3.size; have HX3 := Lib.hid ((heap_alloc_old w3 (.cells #[.int .i64 hd, .int .i64 bo, .string ⟨nm.toArray⟩, .int .i64 od, .int .i64 up, .bool lv, .int .i64 nd, .int .i64 sq, .bool dr, .int .i64 ac] 53) (by have := Own.block_lt HX2.out; omega)).trans ((hb3.block _ (Own.block_lt HX2.out)).trans HX2.out)); have hx3 := HX3.out; obtain ⟨z0, z1, z2, z3, z4, z5, z6, z7, z8, z9⟩ := ten_of hx3; obtain ⟨g0, g1, g2, g3, g4, g5, g6, g7, g8, g9⟩ := free_ten hx3; clear hx3; obtain ⟨u0, u1, u2, u3, u4, u5, u6, u7, u8, u9⟩ := ten_of (heap_alloc_new w3 (.cells #[.int .i64 hd, .int .i64 bo, .string ⟨nm.toArray⟩, .int .i64 od, .int .i64 up, .bool lv, .int .i64 nd, .int .i64 sq, .bool dr, .int .i64 ac] 53)))
            | (go_at_call 36; (with_reducible refine (RI.out _ _ _ HJ2.out _).mono ?_); rintro e5 w5 ⟨rfl, hb5⟩; have HB5 := Lib.hid (HB3.out.trans (hb5.mono HB3.out.size)); clear z0 z1 z2 z3 z4 z5 z6 z7 z8 z9 g0 g1 g2 g3 g4 g5 g6 g7 g8 g9 u0 u1 u2 u3 u4 u5 u6 u7 u8 u9; obtain ⟨u0, u1, u2, u3, u4, u5, u6, u7, u8, u9⟩ := ten_of ((hb5.block _ (by simp)).trans (heap_alloc_new w3 (.cells #[.int .i64 hd, .int .i64 bo, .string ⟨nm.toArray⟩, .int .i64 od, .int .i64 up, .bool lv, .int .i64 nd, .int .i64 sq, .bool dr, .int .i64 ac] 53))); have hx5 := (hb5.block _ (Own.block_lt HX3.out)).trans HX3.out; obtain ⟨z0, z1, z2, z3, z4, z5, z6, z7, z8, z9⟩ := ten_of hx5; obtain ⟨g0, g1, g2, g3, g4, g5, g6, g7, g8, g9⟩ := free_ten hx5; clear hx5))
          refine bodyPost_ret (v := .tuple #[.agg #[.int .i64 0, .int .i64 0, .string ⟨#[]⟩, .int .i64 0, .int .i64 0, .bool false, .int .i64 0, .int .i64 0, .bool false, .int .i64 0], .int .i64 90]) (by simp [results, Tryz.results41, go_sem, z0, z1, z2, z3, z4, z5, z6, z7, z8, z9]) rfl ?_
          exact ⟨rfl, below_ten HB5.out (Nat.le_refl _) _ _ _ _ _ _ _ _ _ _⟩
        | true =>
          rw [if_pos (by simp)]
          show Calls _ _ _ _ (Ret (.tuple #[.agg #[.int .i64 hd, .int .i64 bo, .string ⟨nm.toArray⟩, .int .i64 od, .int .i64 up, .bool lv, .int .i64 nd, .int .i64 sq, .bool dr, .int .i64 ac], .int .i64 0]) w)
          clear Z0
          go_enter Tryz.func41, Tryz.ntmps41
          go_wp2_with (first
            | (go_at_call 26; (with_reducible refine (OP.out _).mono ?_); rintro e1 w1 ⟨rfl, hb1⟩; have HB1 := Lib.hid (show Below w.heap.size w w1 from (belowOne w _).trans (hb1.mono (by simp))); have x1 := (hb1.block _ (by simp)).trans (heap_alloc_new w _); have X1 := Lib.hid x1; have hl1 := Own.block_lt x1; clear x1)
            | (go_at_call 27; (with_reducible refine (PA.out _).mono ?_); rintro e2 w2 ⟨k2, m2, e2', t2, an2, nn2, cn2, ai2, ni2, ci2, rfl, ⟨dd, hJ2⟩, hb2⟩; have HB2 := Lib.hid ((HB1.out.trans (hb2.mono HB1.out.size)).alloc (Nat.le_trans HB1.out.size hb2.size) (.cells #[.int .i64 k2, .int .i64 m2, .int .i64 e2', .string t2, .slice an2 nn2 cn2, .slice ai2 ni2 ci2] 45)); have hs2 := hb2.size; have HX2 := Lib.hid ((heap_alloc_old w2 (.cells #[.int .i64 k2, .int .i64 m2, .int .i64 e2', .string t2, .slice an2 nn2 cn2, .slice ai2 ni2 ci2] 45) (by omega)).trans ((hb2.block _ hl1).trans X1.out)); have HJ2 := Lib.hid (hJ2.any.below (belowOne w2 (.cells #[.int .i64 k2, .int .i64 m2, .int .i64 e2', .string t2, .slice an2 nn2 cn2, .slice ai2 ni2 ci2] 45)) (Nat.le_refl _)); clear hJ2; obtain ⟨v0, v1, v2, v3, v4, v5⟩ := six_of (heap_alloc_new w2 (.cells #[.int .i64 k2, .int .i64 m2, .int .i64 e2', .string t2, .slice an2 nn2 cn2, .slice ai2 ni2 ci2] 45)))
            | (go_at_call 78; (with_reducible refine (TKO.out _ _ _ HJ2.out).mono ?_); rintro e3 w3 ⟨rfl, hb3⟩; have HB3 := Lib.hid ((HB2.out.trans (hb3.mono HB2.out.size)).alloc (Nat.le_trans HB2.out.size hb3.size) (.cells #[.int .i64 hd, .int .i64 bo, .string ⟨nm.toArray⟩, .int .i64 od, .int .i64 up, .bool lv, .int .i64 nd, .int .i64 sq, .bool dr, .int .i64 ac] 53)); have hs3 := hb3.size; have HX3 := Lib.hid ((heap_alloc_old w3 (.cells #[.int .i64 hd, .int .i64 bo, .string ⟨nm.toArray⟩, .int .i64 od, .int .i64 up, .bool lv, .int .i64 nd, .int .i64 sq, .bool dr, .int .i64 ac] 53) (by have := Own.block_lt HX2.out; omega)).trans ((hb3.block _ (Own.block_lt HX2.out)).trans HX2.out)); have hx3 := HX3.out; obtain ⟨z0, z1, z2, z3, z4, z5, z6, z7, z8, z9⟩ := ten_of hx3; obtain ⟨g0, g1, g2, g3, g4, g5, g6, g7, g8, g9⟩ := free_ten hx3; clear hx3; obtain ⟨u0, u1, u2, u3, u4, u5, u6, u7, u8, u9⟩ := ten_of (heap_alloc_new w3 (.cells #[.int .i64 hd, .int .i64 bo, .string ⟨nm.toArray⟩, .int .i64 od, .int .i64 up, .bool lv, .int .i64 nd, .int .i64 sq, .bool dr, .int .i64 ac] 53)))
            | (go_at_call 36; (with_reducible refine (RI.out _ _ _ HJ2.out _).mono ?_); rintro e5 w5 ⟨rfl, hb5⟩; have HB5 := Lib.hid (HB3.out.trans (hb5.mono HB3.out.size)); clear z0 z1 z2 z3 z4 z5 z6 z7 z8 z9 g0 g1 g2 g3 g4 g5 g6 g7 g8 g9 u0 u1 u2 u3 u4 u5 u6 u7 u8 u9; obtain ⟨u0, u1, u2, u3, u4, u5, u6, u7, u8, u9⟩ := ten_of ((hb5.block _ (by simp)).trans (heap_alloc_new w3 (.cells #[.int .i64 hd, .int .i64 bo, .string ⟨nm.toArray⟩, .int .i64 od, .int .i64 up, .bool lv, .int .i64 nd, .int .i64 sq, .bool dr, .int .i64 ac] 53))); have hx5 := (hb5.block _ (Own.block_lt HX3.out)).trans HX3.out; obtain ⟨z0, z1, z2, z3, z4, z5, z6, z7, z8, z9⟩ := ten_of hx5; obtain ⟨g0, g1, g2, g3, g4, g5, g6, g7, g8, g9⟩ := free_ten hx5; clear hx5))
          refine bodyPost_ret (v := .tuple #[.agg #[.int .i64 hd, .int .i64 bo, .string ⟨nm.toArray⟩, .int .i64 od, .int .i64 up, .bool lv, .int .i64 nd, .int .i64 sq, .bool dr, .int .i64 ac], .int .i64 0]) (by simp [results, Tryz.results41, go_sem, z0, z1, z2, z3, z4, z5, z6, z7, z8, z9]) rfl ?_
          exact ⟨rfl, below_ten HB5.out (Nat.le_refl _) _ _ _ _ _ _ _ _ _ _⟩
    · rw [if_neg hpe]
      have hne : (pe != 0) = true := by simpa using hpe
      simp only [Option.getD_none]
      rw [Z0]
      clear Z0
      go_enter Tryz.func41, Tryz.ntmps41
      go_wp2_with (first
        | (go_at_call 26; (with_reducible refine (OP.out _).mono ?_); rintro e1 w1 ⟨rfl, hb1⟩; have HB1 := Lib.hid (show Below w.heap.size w w1 from (belowOne w _).trans (hb1.mono (by simp))); have x1 := (hb1.block _ (by simp)).trans (heap_alloc_new w _); have X1 := Lib.hid x1; have hl1 := Own.block_lt x1; clear x1)
        | (go_at_call 27; (with_reducible refine (PA.out _).mono ?_); rintro e2 w2 ⟨k2, m2, e2', t2, an2, nn2, cn2, ai2, ni2, ci2, rfl, hJ2, hb2⟩; have HB2 := Lib.hid ((HB1.out.trans (hb2.mono HB1.out.size)).alloc (Nat.le_trans HB1.out.size hb2.size) (.cells #[.int .i64 k2, .int .i64 m2, .int .i64 e2', .string t2, .slice an2 nn2 cn2, .slice ai2 ni2 ci2] 45)); have x2 := (heap_alloc_old w2 (.cells #[.int .i64 k2, .int .i64 m2, .int .i64 e2', .string t2, .slice an2 nn2 cn2, .slice ai2 ni2 ci2] 45) (by have := hb2.size; omega)).trans ((hb2.block _ hl1).trans X1.out); obtain ⟨z0, z1, z2, z3, z4, z5, z6, z7, z8, z9⟩ := ten_of x2; obtain ⟨g0, g1, g2, g3, g4, g5, g6, g7, g8, g9⟩ := free_ten x2; clear x2))
      refine bodyPost_ret (v := .tuple #[.agg #[.int .i64 0, .int .i64 0, .string ⟨#[]⟩, .int .i64 0, .int .i64 0, .bool false, .int .i64 0, .int .i64 0, .bool false, .int .i64 0], .int .i64 pe]) (by simp [results, Tryz.results41, go_sem, z0, z1, z2, z3, z4, z5, z6, z7, z8, z9]) rfl ?_
      exact ⟨rfl, below_ten HB2.out (Nat.le_refl _) _ _ _ _ _ _ _ _ _ _⟩
end Go.Proofs.YtcpggmdiojaalaaGreatDoor.Sta
