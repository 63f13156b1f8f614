/- The law StateForms (fields in another order, and more of them, count for nothing; a field less is no state) answers true for all inputs; taken that Go's own tables (those of strconv, math/bits and unicode/utf8) hold what the program's text lays, which the card ties. -/
import Derived.Test.YtcpggmdiojaalaaGreatDoorAl
import Derived.Test.YtcpggmdiojaalaaGreatDoorAF
import Derived.ShutString
import Derived.Test.YtcpggmdiojaalaaGreatDoorMG
/- StateForms: fields in another order, and more of them, count for nothing; a field less is no state. -/
set_option linter.unusedVariables false
set_option linter.unusedSimpArgs false
namespace Go.Proofs.YtcpggmdiojaalaaGreatDoor.Sta
open Go.RowKit Js Lex Od

set_option maxHeartbeats 16000000 in
set_option maxRecDepth 100000 in
theorem forms9_walk (x : S9) (out : Int) (name : List UInt8) (w : World) (hT : Dec.Tab w) (hx : x.ok) (a0 : -9223372036854775808 ≤ out) (a1 : out ≤ 9223372036854775807) (hm : name.length ≤ 140737488351232) :
    Calls Tryz.prog 10 #[sV x, .int .i64 out, .string ⟨name.toArray⟩] w (Ret (.bool true) w) := by
  have A1 := Lib.hid (fun (w' : World) (hb : Below w.heap.size w w') => awake9_any w' (hT.below hb))
  have F1 := Lib.hid (fun (w' : World) => fit9_any x w' hx)
  have hr := fit9_right Tp.fit_name x
  generalize fit9 Tp.fitL x = y at *
  have L1 := Lib.hid (fun (w' : World) (hb : Below w.heap.size w w') => lay9_yes hr w' (hT.below hb))
  have hlen := layS9_len hr
  have OP := Lib.hid (fun (u : World) => Se.open_some (Se.open_seal (printJ (layJ9 y))) u (show (layS9 y).length ≤ _ by omega))
  have PA := Lib.hid (fun (u : World) => parse_lay9 hr u)
  have HR := Lib.hid hr
  have FN := Lib.hid (fun (u : World) => Tp.Fit_any name u (by unfold Tp.reachN; omega))
  have HFN := Lib.hid (name_ok _ (Tp.fit_name name))
  have I1 := Lib.hid (fun (u : World) => int_num 1 (by decide) u)
  unfold bareV at I1
  have hq : (⟨(Se.sealS (printJ (layJ9 y))).toArray⟩ : ByteArray) = ⟨(layS9 y).toArray⟩ := rfl
  rw [hq] at OP
  have hmo : MoreOk (Tp.fitL name) := by
    obtain ⟨h1, h2⟩ := HFN.out
    refine ⟨?_, by omega⟩
    unfold asciiB at h1 ⊢
    rw [List.all_cons, h1]
    decide
  have hbr := back9_right name_ok hr hmo
  have hbl := back9_len name_ok hr hmo
  have MK := Lib.hid (fun (lo : Nat) (wA wr : World) (nv iv : Value) (h : TF lo wA (back9N (Tp.fitL name)) (back9I y) nv iv wr) => make_back9 h)
  have hps : printS (back9J y (Tp.fitL name)) = printJ (back9J y (Tp.fitL name)) := by unfold printS; rw [if_pos hbr]
  have PR := Lib.hid (fun (w' : World) (v : Value) (hb : Below w.heap.size w w') (hJ : JAt Any w' 16 v (back9J y (Tp.fitL name))) => print_of Any v (back9J y (Tp.fitL name)) w' (hT.below hb) ⟨16, hJ⟩ (by omega))
  rw [hps] at PR
  have SE := Lib.hid (fun (w' : World) => Se.seal_l (printJ (back9J y (Tp.fitL name))) w' (by omega))
  have TK := Lib.hid (fun (w' : World) => Take9_any (Se.sealS (printJ (back9J y (Tp.fitL name)))) w' (by rw [Se.sealS_len]; omega))
  rw [takeS9_back name_ok hr hmo] at TK
  simp only [Option.getD_some] at TK
  have pk0 := Quo.pickS_nonneg (c := out) (n := 10) (by decide)
  have pk1 := Quo.pickS_lt (c := out) (n := 10) (by decide)
  have PK := Lib.hid (fun (u : World) => pick9_any out 10 u a0 a1 (by decide) (by decide))
  generalize Quo.pickS out 10 = kz at *
  obtain ⟨k, rfl⟩ := Int.eq_ofNat_of_zero_le pk0
  have hk10 : k < 10 := by omega
  generalize Se.sealS (printJ (back9J y (Tp.fitL name))) = TB at *
  generalize printJ (back9J y (Tp.fitL name)) = UB at *
  generalize back9J y (Tp.fitL name) = JB at *
  clear hq hlen hr hx hmo hbr hbl hps pk0 pk1
  generalize (⟨(layS9 y).toArray⟩ : ByteArray) = TS at *
  generalize (⟨(printJ (layJ9 y)).toArray⟩ : ByteArray) = US at *
  generalize hfl : Tp.fitL name = fl at *
  have HXN : Hid ((⟨#[120]⟩ : ByteArray) ++ ⟨fl.toArray⟩ = ⟨(120 :: fl).toArray⟩) := Se.bs_append [120] fl
  have hfs : (⟨fl.toArray⟩ : ByteArray).size ≤ 1000 := by rw [bs_size]; have := HFN.out.2; omega
  have hs1 : (⟨#[120]⟩ : ByteArray).size = 1 := rfl
  generalize hfb : (⟨fl.toArray⟩ : ByteArray) = FB at *
  generalize h120 : (⟨#[120]⟩ : ByteArray) = B120 at *
  generalize (⟨name.toArray⟩ : ByteArray) = NB at *
  obtain ⟨hd, bo, nm, od, up, lv, nd, sq, dr, ac⟩ := x
  have HYF : Hid (∃ hd1 bo1 nm1 od1 up1 lv1 nd1 sq1 dr1 ac1, sV y = .agg #[.int .i64 hd1, .int .i64 bo1, .string ⟨nm1.toArray⟩, .int .i64 od1, .int .i64 up1, .bool lv1, .int .i64 nd1, .int .i64 sq1, .bool dr1, .int .i64 ac1] ∧ y = ⟨hd1, bo1, nm1, od1, up1, lv1, nd1, sq1, dr1, ac1⟩) := by
    obtain ⟨hd1, bo1, nm1, od1, up1, lv1, nd1, sq1, dr1, ac1⟩ := y
    exact ⟨_, _, _, _, _, _, _, _, _, _, rfl, rfl⟩
  obtain ⟨hd1, bo1, nm1, od1, up1, lv1, nd1, sq1, dr1, ac1, HSV, HY⟩ := HYF.out
  rw [HSV] at F1 L1 TK
  have HYE := Lib.hid HY
  have HSE := Lib.hid HSV
  clear HYF HSV HY hfl hfb
  unfold sV sC at F1
  simp only at F1
  have B0 := Lib.hid (belowOne w (.cells #[.int .i64 hd, .int .i64 bo, .string ⟨nm.toArray⟩, .int .i64 od, .int .i64 up, .bool lv, .int .i64 nd, .int .i64 sq, .bool dr, .int .i64 ac] 53))
  have X0 := Lib.hid (BX9.new w #[.int .i64 hd, .int .i64 bo, .string ⟨nm.toArray⟩, .int .i64 od, .int .i64 up, .bool lv, .int .i64 nd, .int .i64 sq, .bool dr, .int .i64 ac])
  unfold sV sC
  simp only
  go_enter Tryz.func10, Tryz.ntmps10
  go_wp2_with (first
    | (go_at_call 32; (with_reducible refine (A1.out _ B0.out).mono ?_); rintro e1 w1 ⟨rfl, hb1⟩; have B1 := Lib.hid (below_next B0.out hb1); have X1 := Lib.hid (X0.out.below hb1); obtain ⟨x0, x1, x2, x3, x4, x5, x6, x7, x8, x9⟩ := ten_of X1.out.blk; clear hb1)
    | (go_at_call 33; (with_reducible refine (F1.out _).mono ?_); rintro e2 w2 ⟨rfl, hb2⟩; have U2 := Lib.hid (BX9.new w2 #[.int .i64 hd1, .int .i64 bo1, .string ⟨nm1.toArray⟩, .int .i64 od1, .int .i64 up1, .bool lv1, .int .i64 nd1, .int .i64 sq1, .bool dr1, .int .i64 ac1]); have B2 := Lib.hid (below_box (below_next B1.out hb2) (.cells #[.int .i64 hd1, .int .i64 bo1, .string ⟨nm1.toArray⟩, .int .i64 od1, .int .i64 up1, .bool lv1, .int .i64 nd1, .int .i64 sq1, .bool dr1, .int .i64 ac1] 53)); clear hb2 x0 x1 x2 x3 x4 x5 x6 x7 x8 x9; obtain ⟨x0, x1, x2, x3, x4, x5, x6, x7, x8, x9⟩ := ten_of U2.out.blk)
    | (go_at_call 34; (with_reducible refine (L1.out _ B2.out).mono ?_); rintro e3 w3 ⟨rfl, hb3⟩; have B3 := Lib.hid (below_next B2.out hb3); have U3 := Lib.hid (U2.out.below hb3); clear hb3 x0 x1 x2 x3 x4 x5 x6 x7 x8 x9)
    | (go_at_call 26; (with_reducible refine (OP.out _).mono ?_); rintro e4 w4 ⟨rfl, hb4⟩; have B4 := Lib.hid (below_next B3.out hb4); have U4 := Lib.hid (U3.out.below hb4); clear hb4)
    | (go_at_call 27; (with_reducible refine (PA.out _).mono ?_); rintro e5 w5 ⟨t5, bn, on, cn, bi, oi, ci, rfl, hcn, hci, hbn, hbi, hN5, hI5, hb5⟩; have B5 := Lib.hid (below_box (below_next B4.out hb5) (.cells #[.int .i64 7, .int .i64 0, .int .i64 0, .string t5, .slice (some ⟨bn, on, none⟩) 10 cn, .slice (some ⟨bi, oi, none⟩) 10 ci] 45)); have U5 := Lib.hid ((U4.out.below hb5).box (.cells #[.int .i64 7, .int .i64 0, .int .i64 0, .string t5, .slice (some ⟨bn, on, none⟩) 10 cn, .slice (some ⟨bi, oi, none⟩) 10 ci] 45)); have N5 := Lib.hid hN5; have I5 := Lib.hid hI5; have HB5 := Lib.hid hb5; clear hN5 hI5 hb5; obtain ⟨g0, g1, g2, g3, g4, g5⟩ := six_of (heap_alloc_new w5 (.cells #[.int .i64 7, .int .i64 0, .int .i64 0, .string t5, .slice (some ⟨bn, on, none⟩) 10 cn, .slice (some ⟨bi, oi, none⟩) 10 ci] 45)))
    | (go_at_call 28; (with_reducible refine (FN.out _).mono ?_); rintro e6 w6 ⟨rfl, hb6⟩; have HB6 := Lib.hid hb6; clear hb6 g0 g1 g2 g3 g4 g5)
    | (go_at_call 43; (with_reducible refine (I1.out _).mono ?_); rintro e7 w7 ⟨rfl, hb7⟩; have HB7 := Lib.hid hb7; clear hb7))
  have HF0 : Hid (TF w4.heap.size (w5.alloc (.cells #[.int .i64 7, .int .i64 0, .int .i64 0, .string t5, .slice (some ⟨bn, on, none⟩) 10 cn, .slice (some ⟨bi, oi, none⟩) 10 ci] 45)) [120 :: fl] [numJ 1] (.slice (some ⟨w6.heap.size, 0, none⟩) 1 1) (.slice (some ⟨w7.heap.size, 0, none⟩) 1 1) (w7.alloc (.cells #[.int .i64 4, .int .i64 (Dec.mk 1 0).1, .int .i64 (Dec.mk 1 0).2.1, .string ⟨#[]⟩, .slice none 0 0, .slice none 0 0] 45))) := by
    refine TF.one (nm := 120 :: fl) (t := []) HB6.out ?_ ?_ ?_ rfl (fun S w => (num_jat (n := 1) (by decide)).deep (by omega)) rfl
    · have h7 := HB7.out
      rw [HXN.out] at h7
      exact h7
    · have := HB5.out.size; simp; omega
    · have := HFN.out.2; unfold txtB; simp; omega
  have HVB : Hid ((w5.alloc (.cells #[.int .i64 7, .int .i64 0, .int .i64 0, .string t5, .slice (some ⟨bn, on, none⟩) 10 cn, .slice (some ⟨bi, oi, none⟩) 10 ci] 45)).heap[w5.heap.size]? = some (.cells #[.int .i64 7, .int .i64 0, .int .i64 0, .string t5, .slice (some ⟨bn, on, none⟩) 10 cn, .slice (some ⟨bi, oi, none⟩) 10 ci] 45 (0, 0))) := heap_alloc_new _ _
  have HAB := Lib.hid (belowOne w5 (.cells #[.int .i64 7, .int .i64 0, .int .i64 0, .string t5, .slice (some ⟨bn, on, none⟩) 10 cn, .slice (some ⟨bi, oi, none⟩) 10 ci] 45))
  have HAS : Hid ((w5.alloc (.cells #[.int .i64 7, .int .i64 0, .int .i64 0, .string t5, .slice (some ⟨bn, on, none⟩) 10 cn, .slice (some ⟨bi, oi, none⟩) 10 ci] 45)).heap.size = w5.heap.size + 1) := by show _ = _; simp
  generalize w5.alloc (.cells #[.int .i64 7, .int .i64 0, .int .i64 0, .string t5, .slice (some ⟨bn, on, none⟩) 10 cn, .slice (some ⟨bi, oi, none⟩) 10 ci] 45) = wA at *
  have HLO : Hid (w4.heap.size ≤ w5.heap.size) := HB5.out.size
  obtain ⟨lo, HLOE⟩ : ∃ lo, Hid (w4.heap.size = lo) := ⟨_, rfl⟩
  rw [HLOE.out] at HF0 I5 HLO
  have HNS := Lib.hid (back9N_take fl)
  have HIS := Lib.hid (back9I_take y)
  have HNX := Lib.hid names9_ascii
  have HN11 : Hid ((back9N fl).take 11 = back9N fl) := rfl
  have HI11 : Hid ((back9I y).take 11 = back9I y) := rfl
  have HSt : Hid ((back9N fl).take (11 - 10) = [120 :: fl] ∧ (back9I y).take (11 - 10) = [numJ 1]) := ⟨rfl, rfl⟩
  rw [← HSt.out.1, ← HSt.out.2] at HF0
  have HNL : Hid (∀ k, ((back9N fl).take k).length ≤ 11 ∧ ((back9I y).take k).length ≤ 11) := fun k => by
    have e1 : (back9N fl).length = 11 := rfl
    have e2 : (back9I y).length = 11 := rfl
    rw [List.length_take, List.length_take, e1, e2]
    omega
  generalize back9N fl = NS at *
  generalize back9I y = IS at *
  have HML := Lib.hid (mk_less y k)
  have HJE : Hid (∀ i, i < 10 → ∃ kk mm ee tt, (items9 y).getD i j0 = .mk kk mm ee tt [] []) := item9_leaf y
  have HIL : Hid ((items9 y).length = 10) := rfl
  have hlr := less9_right name_ok HR.out hk10
  have hls := less9_size name_ok HR.out k
  have hps2 : printS (less9J y k) = printJ (less9J y k) := by unfold printS; rw [if_pos hlr]
  have PR2 := Lib.hid (fun (w' : World) (v : Value) (hb : Below w.heap.size w w') (hJ : JAt Any w' 16 v (less9J y k)) => print_of Any v (less9J y k) w' (hT.below hb) ⟨16, hJ⟩ (by omega))
  rw [hps2] at PR2
  have SE2 := Lib.hid (fun (w' : World) => Se.seal_l (printJ (less9J y k)) w' (by omega))
  have TK2 := Lib.hid (fun (w' : World) => Take9_any (Se.sealS (printJ (less9J y k))) w' (by rw [Se.sealS_len]; omega))
  rw [takeS9_less name_ok HR.out hk10] at TK2
  simp only [Option.getD_none] at TK2
  rw [show sV s0 = .agg #[.int .i64 0, .int .i64 0, .string ⟨#[]⟩, .int .i64 0, .int .i64 0, .bool false, .int .i64 0, .int .i64 0, .bool false, .int .i64 0] from rfl] at TK2
  have hoy := ok_right name_ok HR.out
  have R1 := Lib.hid (fun (w' : World) => right9_any ⟨y.h, y.b, y.v, y.o, y.u, false, y.n, y.q, true, y.ac⟩ w' ⟨hoy.h, hoy.b, hoy.o, hoy.u, hoy.n, hoy.q, hoy.ac, hoy.v⟩)
  rw [show rightT Tp.nameB ⟨y.h, y.b, y.v, y.o, y.u, false, y.n, y.q, true, y.ac⟩ = false by simp [rightT]] at R1
  have pk2 := Quo.pickS_nonneg (c := out) (n := 1000) (by decide)
  have pk3 := Quo.pickS_lt (c := out) (n := 1000) (by decide)
  have PK2 := Lib.hid (fun (u : World) => pick9_any out 1000 u a0 a1 (by decide) (by decide))
  generalize Quo.pickS out 1000 = p2 at *
  have R2 := Lib.hid (fun (w' : World) => right9_any ⟨y.h, y.b, y.v, y.o, y.u, y.lv, y.n, 2 * p2 + 1, y.dr, y.ac⟩ w' ⟨hoy.h, hoy.b, hoy.o, hoy.u, hoy.n, ⟨by simp only; omega, by simp only; omega⟩, hoy.ac, hoy.v⟩)
  rw [show rightT Tp.nameB ⟨y.h, y.b, y.v, y.o, y.u, y.lv, y.n, 2 * p2 + 1, y.dr, y.ac⟩ = false by
    unfold rightT
    simp only
    rw [decide_eq_false (show ¬ (2 * p2 + 1) % 2 = 0 by omega)]
    simp] at R2
  rw [HYE.out] at R1 R2
  unfold sV sC at R1 R2
  simp only at R1 R2
  clear hlr hls hps2 hoy
  generalize Se.sealS (printJ (less9J y k)) = TL at *
  generalize printJ (less9J y k) = UL at *
  generalize less9J y k = JL at *
  generalize items9 y = it9 at *
  obtain ⟨i0, hi0, hz0, hz1, hz2⟩ := info_parts json_info
  obtain ⟨i1, hi1, hx0, hx1, hx2⟩ := info_parts str_info2
  have hbnA : bn < wA.heap.size := by have := HAS.out; omega
  have hbiA : bi < wA.heap.size := by have := HAS.out; omega
  go_loopw [16, 17, 18] (fun s16 s17 i wr => ∃ (p : Nat), p ≤ 10 ∧ i = .int .i64 ((p : Int) - 1) ∧ Hid (TF lo wA (NS.take (11 - p)) (IS.take (11 - p)) s16 s17 wr)) (fun _ _ i _ => (intOf i + 1).toNat)
  case atStart => exact ⟨10, Nat.le_refl _, rfl, HF0⟩
  case round =>
    clear HF0
    obtain ⟨p, hp, hi, HT⟩ := hrel
    have hvb := (HT.out.bel.block w5.heap.size (by have := HAS.out; omega)).trans HVB.out
    have HVR := Lib.hid hvb
    cases p with
    | succ p =>
      have hi' : u18 = .int .i64 (p : Int) := by rw [hi]; congr 1; omega
      subst hi'
      clear hi
      obtain ⟨g0, g1, g2, g3, g4, g5⟩ := six_of hvb
      clear hvb
      have a1 : (0 : Int) ≤ (p : Int) := by omega
      have a2 : (p : Int) < 10 := by omega
      have hpl : p < 10 := by omega
      have n1 := (HT.out.bel.cell (p := ⟨bn, on + p, none⟩) hbnA).trans ((HAB.out.cell (p := ⟨bn, on + p, none⟩) hbn).trans (N5.out p hpl))
      unfold strW at n1
      have HSN := Lib.hid (HNS.out p hpl)
      have HSI := Lib.hid (HIS.out p hpl)
      have HTQ : Hid (txtB (names9.getD p [])) := by
        have hm : names9.getD p [] ∈ names9 := by
          rw [List.getD_eq_getElem?_getD, List.getElem?_eq_getElem (show p < names9.length from hpl)]
          exact List.getElem_mem _
        have := (HNX.out _ hm).2
        show txtB _
        unfold txtB
        omega
      obtain ⟨u, hu1, hu2⟩ := I5.out p hpl
      obtain ⟨fk, fm, fe, ft, fan, fnn, fcn, fai, fni, fci, rfl⟩ := jAt_form hu2
      have HU1 := Lib.hid hu1
      have HU2 := Lib.hid hu2
      obtain ⟨hnl, hal⟩ := HNL.out (11 - (p + 1))
      generalize NS.take (11 - (p + 1)) = ns at *
      generalize IS.take (11 - (p + 1)) = acc at *
      generalize names9.getD p [] = nq at *
      generalize it9.getD p j0 = jq at *
      have hbr := HT.out.bel.size
      have hlor : lo ≤ wr.heap.size := by have := HLO.out; have := HAS.out; omega
      obtain ⟨vs, hO⟩ := HT.out.own
      obtain ⟨ao1, cn1, rfl⟩ := own_slice hO.irow
      obtain ⟨an1, cn2, rfl⟩ := own_slice hO.nrow
      have HO := Lib.hid hO
      clear hO hu1 hu2
      go_wp2_with (first
        | (at_builtin; (refine wpList_append_lies _ rfl _ _ 36 rfl lo 9 i1 _ 1 16 Tryz.underlying36 hi1 hx0 hx1 hx2 rfl (by omega) _ ns.length (ns.map strW) rfl (HO.out.nrow.alloc _) ⟨wr.heap.size, 0, none⟩ 1 1 [.string ⟨nq.toArray⟩] rfl rfl (World.news_of_block (cs := #[.string ⟨nq.toArray⟩]) (t := 9) (fr := (0, 0)) (heap_alloc_new _ _)) (by simp [Value.oneCell']) (by omega) (by unfold maxLen; omega) (by omega) (by simp; omega) (wr.heap.size + 1) (by simp) ?_); intro g cp wB hown hgrow hat hlt2; have HT2 := Lib.hid (HT.out.name hgrow (belowOne _ _) (hat.imp id (fun h => by omega)) HTQ.out hown); have hvb2 := (HT2.out.bel.block w5.heap.size (by have := HAS.out; omega)).trans HVB.out; clear g0 g1 g2 g3 g4 g5 n1; obtain ⟨g0, g1, g2, g3, g4, g5⟩ := six_of hvb2; obtain ⟨m0, m1, m2, m3, m4, m5⟩ := (HU1.out.keep ((HT2.out.bel.block bi hbiA).trans (HAB.out.block bi hbi))).six; have hsB := HT2.out.bel.size; obtain ⟨vs2, hO2⟩ := HT2.out.own; have HO2 := Lib.hid hO2; clear hO2 hown hgrow hat hvb2)
        | (at_builtin; (refine wpList_append_lies _ rfl _ _ 43 rfl lo 45 i0 _ 6 88 Tryz.underlying43 hi0 hz0 hz1 hz2 rfl (by omega) _ acc.length (vs2.flatMap aggC) rfl (HO2.out.irow.alloc _) ⟨wB.heap.size, 0, none⟩ 1 1 [.int .i64 fk, .int .i64 fm, .int .i64 fe, .string ft, .slice fan fnn fcn, .slice fai fni fci] rfl rfl (World.news_of_block (cs := #[.int .i64 fk, .int .i64 fm, .int .i64 fe, .string ft, .slice fan fnn fcn, .slice fai fni fci]) (t := 45) (fr := (0, 0)) (heap_alloc_new _ _)) (by simp [Value.oneCell']) (by omega) (by unfold maxLen; omega) (by omega) (by simp; have := HLO.out; have := HAS.out; omega) (wB.heap.size + 1) (by simp) ?_); intro g2' cp2 w4' hown2 hgrow2 hat2 hlt3; have HT4 := Lib.hid (HT2.out.item HO2.out hgrow2 (belowOne _ _) (hat2.imp id (fun h => by omega)) hown2 (HU2.out.keep (fun b hb _ => ⟨hb.1, by have := HAS.out; omega⟩) (fun b hb _ => (HT2.out.bel.block b (by have := HAS.out; omega)).trans (HAB.out.block b hb.2)) (by have := HAS.out; omega))); clear hown2 hgrow2 hat2))
      go_roundw
      case rel =>
        refine ⟨p, by omega, by go_num, ?_⟩
        show TF _ _ _ _ _ _ _
        rw [HSN.out, HSI.out]
        exact HT4.out
      case measure => simp [intOf] <;> omega
    | zero =>
      have hi' : u18 = .int .i64 (-1) := by rw [hi]; rfl
      subst hi'
      clear hi
      have hT := HT.out
      rw [show (11 - 0) = 11 from rfl, HN11.out, HI11.out] at hT
      obtain ⟨an1, cn1, ai1, ci1, rfl, rfl⟩ := hT.slices
      have HTT := Lib.hid hT
      have HAW : Hid (Below w.heap.size w wA) := B5.out
      have BR := Lib.hid (HAW.out.trans (HTT.out.bel.mono HAW.out.size))
      have UR := Lib.hid (U5.out.below HTT.out.bel)
      clear hT HT
      go_upto_region 17 with (first
        | (go_at_call 31; (with_reducible refine (MK.out _ _ _ _ _ HTT.out).mono ?_); rintro e8 w8 ⟨k8, m8, e8', t8, an8, nn8, cn8, ai8, ni8, ci8, rfl, hJ8, hb8⟩; have J8 := Lib.hid hJ8.any; have B8 := Lib.hid (below_next BR.out hb8); have HB8 := Lib.hid hb8; clear hJ8 hb8)
        | (go_at_call 30; (with_reducible refine (PR.out _ _ B8.out J8.out).mono ?_); rintro e9 w9 ⟨rfl, hb9⟩; have B9 := Lib.hid (below_next B8.out hb9); have HB9 := Lib.hid hb9; clear hb9)
        | (go_at_call 23; (with_reducible refine (SE.out _).mono ?_); rintro e10 w10 ⟨rfl, hb10⟩; have B10 := Lib.hid (below_next B9.out hb10); have HB10 := Lib.hid hb10; clear hb10)
        | (go_at_call 41; (with_reducible refine (TK.out _).mono ?_); rintro e11 w11 ⟨rfl, hb11⟩; have B11 := Lib.hid (below_box (below_next B10.out hb11) (.cells #[.int .i64 hd1, .int .i64 bo1, .string ⟨nm1.toArray⟩, .int .i64 od1, .int .i64 up1, .bool lv1, .int .i64 nd1, .int .i64 sq1, .bool dr1, .int .i64 ac1] 53)); have HB11 := Lib.hid hb11; have V11 := Lib.hid (BX9.new w11 #[.int .i64 hd1, .int .i64 bo1, .string ⟨nm1.toArray⟩, .int .i64 od1, .int .i64 up1, .bool lv1, .int .i64 nd1, .int .i64 sq1, .bool dr1, .int .i64 ac1]); clear hb11)
        | (go_at_call 40; (with_reducible refine (PK.out _).mono ?_); rintro e12 w12 ⟨rfl, rfl⟩))
      rename_i K3 A3
      have US9 := Lib.hid (((((UR.out.below HB8.out).below HB9.out).below HB10.out).below HB11.out).box (.cells #[.int .i64 hd1, .int .i64 bo1, .string ⟨nm1.toArray⟩, .int .i64 od1, .int .i64 up1, .bool lv1, .int .i64 nd1, .int .i64 sq1, .bool dr1, .int .i64 ac1] 53))
      have HAS2 := Lib.hid (below_box (below_next (below_next (below_next (below_next HTT.out.bel HB8.out) HB9.out) HB10.out) HB11.out) (.cells #[.int .i64 hd1, .int .i64 bo1, .string ⟨nm1.toArray⟩, .int .i64 od1, .int .i64 up1, .bool lv1, .int .i64 nd1, .int .i64 sq1, .bool dr1, .int .i64 ac1] 53))
      have BS := Lib.hid B11.out
      generalize w11.alloc (.cells #[.int .i64 hd1, .int .i64 bo1, .string ⟨nm1.toArray⟩, .int .i64 od1, .int .i64 up1, .bool lv1, .int .i64 nd1, .int .i64 sq1, .bool dr1, .int .i64 ac1] 53) = wS at *
      have HVS := Lib.hid ((HAS2.out.block w5.heap.size (by have := HAS.out; omega)).trans HVB.out)
      have hv5 := Own.block_lt HVS.out
      obtain ⟨vs, hvl, hvs⟩ := choose10 I5.out
      obtain ⟨aN, HAN⟩ : ∃ a : Option Addr, Hid ((if cn = k + 1 then some (⟨bn, on, none⟩ : Addr) else some ⟨bn, on + (k + 1) * 1, none⟩) = a) := ⟨_, rfl⟩
      obtain ⟨aI, HAI⟩ : ∃ a : Option Addr, Hid ((if ci = k + 1 then some (⟨bi, oi, none⟩ : Addr) else some ⟨bi, oi + (k + 1) * 6, none⟩) = a) := ⟨_, rfl⟩
      have HAN1 : Hid ((if cn = k + 1 then some (⟨bn, on, none⟩ : Addr) else some ⟨bn, on + (k + 1), none⟩) = aN) := by show _ = _; rw [← HAN.out, Nat.mul_one]
      have HW8 : Hid (IntKind.i64.wrap (((k : Nat) : Int) + 1) = ((k : Nat) : Int) + 1) := IntWalk.i64_in _ (by omega)
      have G9 : Hid ((0 : Int) ≤ ((k : Nat) : Int) + 1 ∧ ((k : Nat) : Int) + 1 ≤ 10) := ⟨by omega, by omega⟩
      have G3 : Hid (k ≤ cn) := by show _ ≤ _; omega
      have G14 : Hid (k ≤ ci) := by show _ ≤ _; omega
      have h6 : ∀ v ∈ vs, (aggC v).length = 6 := fun v hv => by
        obtain ⟨i, hi, rfl⟩ := List.mem_iff_getElem.1 hv
        have hq := (hvs i (by omega)).2
        rw [List.getD_eq_getElem?_getD, List.getElem?_eq_getElem hi] at hq
        obtain ⟨_, _, _, _, _, _, _, _, _, _, e⟩ := jAt_form hq
        simp only [Option.getD_some] at e
        rw [e]; rfl
      have h61 : ∀ u ∈ vs.flatMap aggC, u.oneCell' = true := fun u hu => by
        obtain ⟨v, hv, hu⟩ := List.mem_flatMap.1 hu
        obtain ⟨i, hi, rfl⟩ := List.mem_iff_getElem.1 hv
        have hq := (hvs i (by omega)).2
        rw [List.getD_eq_getElem?_getD, List.getElem?_eq_getElem hi] at hq
        obtain ⟨_, _, _, _, _, _, _, _, _, _, e⟩ := jAt_form hq
        simp only [Option.getD_some] at e
        rw [e] at hu
        simp [aggC] at hu
        rcases hu with rfl | rfl | rfl | rfl | rfl | rfl <;> rfl
      have hA5 : ∀ b, b < w5.heap.size → wS.heap[b]? = w5.heap[b]? := fun b hb => (HAS2.out.block b (by have := HAS.out; omega)).trans (HAB.out.block b hb)
      have HNW : Hid (∀ i, i < 10 → wS.cell? ⟨bn, on + i, none⟩ = some (strW (names9.getD i []))) := fun i hi => (World.cell?_of_block (w := w5) (a := ⟨bn, on + i, none⟩) (hA5 bn hbn)).trans (N5.out i hi)
      have HIW : Hid (∀ i, i < 10 → LiesAt wS bi (oi + i * 6) (vs.getD i undef)) := fun i hi => (hvs i hi).1.keep (hA5 bi hbi)
      have HJW : Hid (∀ i, i < 10 → JAt (fun b => lo ≤ b) wS 15 (vs.getD i undef) (it9.getD i j0)) := fun i hi => (hvs i hi).2.keep (fun b hb _ => hb.1) (fun b hb _ => hA5 b hb.2) (by have := HAS2.out.size; have := HAS.out; omega)
      have hbnS : bn < wS.heap.size := by have := HAS2.out.size; omega
      have hbiS : bi < wS.heap.size := by have := HAS2.out.size; omega
      have hloS : lo ≤ wS.heap.size := by have := HAS2.out.size; have := HLO.out; have := HAS.out; omega
      obtain ⟨nl0, nl1, nl2⟩ := names9_len k hk10
      obtain ⟨il0, il1, il2⟩ := items_len hvl h6 k hk10
      have HCN0 : Hid (∀ wz, Below wS.heap.size wS wz → ∀ j u, ((names9.take k).map strW)[j]? = some u → wz.cell? ((⟨bn, on, none⟩ : Addr).add j) = some u) := fun wz hb j u hj => by
        rw [add_off]
        refine strs_cells (fun i hi => ?_) j u hj
        have hik : i < k := by rw [List.length_take] at hi; omega
        rw [getD_take hik]
        exact (hb.cell (p := ⟨bn, on + i, none⟩) hbnS).trans (HNW.out i (by omega))
      have HCN1 : Hid (∀ wz, Below wS.heap.size wS wz → ∀ j u, ((names9.drop (k + 1)).map strW)[j]? = some u → wz.cell? ⟨bn, on + (k + 1) * 1 + j, none⟩ = some u) := fun wz hb j u hj => by
        refine strs_cells (fun i hi => ?_) j u hj
        have hik : k + 1 + i < 10 := by rw [List.length_drop] at hi; have : names9.length = 10 := rfl; omega
        rw [getD_drop, show on + (k + 1) * 1 + i = on + (k + 1 + i) by omega]
        exact (hb.cell (p := ⟨bn, on + (k + 1 + i), none⟩) hbnS).trans (HNW.out _ hik)
      have HCI0 : Hid (∀ wz, Below wS.heap.size wS wz → ∀ j u, ((vs.take k).flatMap aggC)[j]? = some u → wz.cell? ((⟨bi, oi, none⟩ : Addr).add j) = some u) := fun wz hb j u hj => by
        rw [add_off]
        refine lies_cells (fun v hv => h6 v (List.mem_of_mem_take hv)) (fun i hi => ?_) j u hj
        have hik : i < k := by rw [List.length_take] at hi; omega
        rw [getD_take hik]
        exact (HIW.out i (by omega)).keep (hb.block bi hbiS)
      have HCI1 : Hid (∀ wz, Below wS.heap.size wS wz → ∀ j u, ((vs.drop (k + 1)).flatMap aggC)[j]? = some u → wz.cell? ⟨bi, oi + (k + 1) * 6 + j, none⟩ = some u) := fun wz hb j u hj => by
        refine lies_cells (fun v hv => h6 v (List.mem_of_mem_drop hv)) (fun i hi => ?_) j u hj
        have hik : k + 1 + i < 10 := by rw [List.length_drop] at hi; omega
        rw [getD_drop, show oi + (k + 1) * 6 + i * 6 = oi + (k + 1 + i) * 6 by omega]
        exact (HIW.out _ hik).keep (hb.block bi hbiS)
      have HAsc : Asc 4 10 15 21 22 23 24 := ⟨by decide, by decide, by decide, by decide, by decide, by decide⟩
      refine wp_region_inv mixed8 (fun l a wz => ∃ zs, a = (fun zs : List Value => ({ tmps := List.toArray (Value.agg #[Value.int IntKind.i64 hd, Value.int IntKind.i64 bo, Value.string ⟨nm.toArray⟩, Value.int IntKind.i64 od, Value.int IntKind.i64 up, Value.bool lv, Value.int IntKind.i64 nd, Value.int IntKind.i64 sq, Value.bool dr, Value.int IntKind.i64 ac] :: Value.int IntKind.i64 out :: Value.string NB :: Value.pointer (some ⟨w.heap.size, 0, none⟩) :: undef :: undef :: Value.bool false :: Value.bool true :: Value.pointer (some ⟨w2.heap.size, 0, none⟩) :: Value.string TS :: Value.int IntKind.i64 0 :: Value.string US :: Value.int IntKind.i64 0 :: Value.pointer (some ⟨w5.heap.size, 0, none⟩) :: Value.int IntKind.i64 0 :: Value.int IntKind.i64 0 :: Value.slice an1 NS.length cn1 :: Value.slice ai1 IS.length ci1 :: Value.int IntKind.i64 (-1) :: Value.pointer (some ⟨w11.heap.size, 0, none⟩) :: Value.int IntKind.i64 0 :: Value.int IntKind.i64 ((k : Nat) : Int) :: zs.getD 23 undef :: undef :: undef :: undef :: undef :: Value.bool true :: Value.agg #[Value.int IntKind.i64 hd, Value.int IntKind.i64 bo, Value.string ⟨nm.toArray⟩, Value.int IntKind.i64 od, Value.int IntKind.i64 up, Value.bool lv, Value.int IntKind.i64 nd, Value.int IntKind.i64 sq, Value.bool dr, Value.int IntKind.i64 ac] :: Value.agg #[Value.int IntKind.i64 hd1, Value.int IntKind.i64 bo1, Value.string ⟨nm1.toArray⟩, Value.int IntKind.i64 od1, Value.int IntKind.i64 up1, Value.bool lv1, Value.int IntKind.i64 nd1, Value.int IntKind.i64 sq1, Value.bool dr1, Value.int IntKind.i64 ac1] :: Value.tuple #[Value.string TS, Value.int IntKind.i64 0] :: Value.agg #[Value.int IntKind.i64 hd1, Value.int IntKind.i64 bo1, Value.string ⟨nm1.toArray⟩, Value.int IntKind.i64 od1, Value.int IntKind.i64 up1, Value.bool lv1, Value.int IntKind.i64 nd1, Value.int IntKind.i64 sq1, Value.bool dr1, Value.int IntKind.i64 ac1] :: Value.tuple #[Value.string TS, Value.int IntKind.i64 0] :: Value.string TS :: Value.int IntKind.i64 0 :: Value.tuple #[Value.string US, Value.int IntKind.i64 0] :: Value.string TS :: Value.tuple #[Value.string US, Value.int IntKind.i64 0] :: Value.string US :: Value.int IntKind.i64 0 :: Value.tuple #[Value.agg #[Value.int IntKind.i64 7, Value.int IntKind.i64 0, Value.int IntKind.i64 0, Value.string t5, Value.slice (some ⟨bn, on, none⟩) 10 cn, Value.slice (some ⟨bi, oi, none⟩) 10 ci], Value.int IntKind.i64 0, Value.int IntKind.i64 0] :: Value.string US :: Value.tuple #[Value.agg #[Value.int IntKind.i64 7, Value.int IntKind.i64 0, Value.int IntKind.i64 0, Value.string t5, Value.slice (some ⟨bn, on, none⟩) 10 cn, Value.slice (some ⟨bi, oi, none⟩) 10 ci], Value.int IntKind.i64 0, Value.int IntKind.i64 0] :: Value.agg #[Value.int IntKind.i64 7, Value.int IntKind.i64 0, Value.int IntKind.i64 0, Value.string t5, Value.slice (some ⟨bn, on, none⟩) 10 cn, Value.slice (some ⟨bi, oi, none⟩) 10 ci] :: Value.int IntKind.i64 0 :: Value.int IntKind.i64 0 :: Value.bool true :: Value.bool false :: Value.bool false :: Value.int IntKind.i64 0 :: Value.bool false :: Value.bool false :: Value.bool false :: Value.int IntKind.i64 0 :: Value.bool false :: Value.bool false :: Value.bool false :: Value.int IntKind.i64 0 :: Value.bool false :: Value.bool false :: Value.bool false :: Value.pointer (some ⟨w5.heap.size, 4, none⟩) :: Value.slice (some ⟨bn, on, none⟩) 10 cn :: Value.int IntKind.i64 10 :: Value.bool false :: Value.bool false :: Value.bool false :: Value.pointer (some ⟨w5.heap.size, 5, none⟩) :: Value.slice (some ⟨bi, oi, none⟩) 10 ci :: Value.int IntKind.i64 10 :: Value.bool false :: Value.bool false :: Value.string NB :: Value.string FB :: Value.string (B120 ++ FB) :: Value.slice (some ⟨w6.heap.size, 0, none⟩) 1 1 :: Value.agg #[Value.int IntKind.i64 4, Value.int IntKind.i64 (Dec.mk 1 0).fst, Value.int IntKind.i64 (Dec.mk 1 0).snd.fst, Value.string ⟨#[]⟩, Value.slice none 0 0, Value.slice none 0 0] :: Value.slice (some ⟨w7.heap.size, 0, none⟩) 1 1 :: Value.int IntKind.i64 (-1) :: Value.bool false :: u80 :: u81 :: u82 :: u83 :: u84 :: u85 :: u86 :: u87 :: u88 :: u89 :: u90 :: u91 :: u92 :: u93 :: u94 :: u95 :: u96 :: u97 :: Value.tuple #[Value.agg #[Value.int IntKind.i64 hd1, Value.int IntKind.i64 bo1, Value.string ⟨nm1.toArray⟩, Value.int IntKind.i64 od1, Value.int IntKind.i64 up1, Value.bool lv1, Value.int IntKind.i64 nd1, Value.int IntKind.i64 sq1, Value.bool dr1, Value.int IntKind.i64 ac1], Value.int IntKind.i64 0] :: Value.slice an1 NS.length cn1 :: Value.slice ai1 IS.length ci1 :: Value.agg #[Value.int IntKind.i64 k8, Value.int IntKind.i64 m8, Value.int IntKind.i64 e8', Value.string t8, Value.slice an8 nn8 cn8, Value.slice ai8 ni8 ci8] :: Value.string ⟨UB.toArray⟩ :: Value.string ⟨TB.toArray⟩ :: Value.tuple #[Value.agg #[Value.int IntKind.i64 hd1, Value.int IntKind.i64 bo1, Value.string ⟨nm1.toArray⟩, Value.int IntKind.i64 od1, Value.int IntKind.i64 up1, Value.bool lv1, Value.int IntKind.i64 nd1, Value.int IntKind.i64 sq1, Value.bool dr1, Value.int IntKind.i64 ac1], Value.int IntKind.i64 0] :: Value.agg #[Value.int IntKind.i64 hd1, Value.int IntKind.i64 bo1, Value.string ⟨nm1.toArray⟩, Value.int IntKind.i64 od1, Value.int IntKind.i64 up1, Value.bool lv1, Value.int IntKind.i64 nd1, Value.int IntKind.i64 sq1, Value.bool dr1, Value.int IntKind.i64 ac1] :: Value.int IntKind.i64 0 :: Value.int IntKind.i64 out :: Value.int IntKind.i64 ((k : Nat) : Int) :: zs.getD 0 undef :: zs.getD 1 undef :: zs.getD 2 undef :: zs.getD 3 undef :: zs.getD 4 undef :: zs.getD 5 undef :: zs.getD 6 undef :: zs.getD 7 undef :: zs.getD 8 undef :: zs.getD 9 undef :: zs.getD 10 undef :: zs.getD 11 undef :: zs.getD 12 undef :: zs.getD 13 undef :: zs.getD 14 undef :: zs.getD 15 undef :: zs.getD 16 undef :: zs.getD 17 undef :: zs.getD 18 undef :: zs.getD 19 undef :: zs.getD 20 undef :: zs.getD 21 undef :: zs.getD 22 undef :: undef :: undef :: undef :: undef :: undef :: undef :: undef :: undef :: undef :: undef :: undef :: undef :: undef :: undef :: undef :: undef :: undef :: undef :: undef :: undef :: undef :: undef :: undef :: undef :: undef :: undef :: undef :: undef :: undef :: undef :: undef :: undef :: undef :: undef :: undef :: undef :: undef :: []), defers := [] } : Act)) zs ∧ FX 4 10 15 21 22 23 24 wS [some (Value.pointer (some ⟨w5.heap.size, 4, none⟩)), some (Value.slice (some ⟨bn, on, none⟩) 10 cn), some (Value.int .i64 ((k : Nat) : Int)), some (Value.slice (some ⟨bn, on, none⟩) k cn), none, some (Value.pointer (some ⟨w5.heap.size, 4, none⟩)), some (Value.slice (some ⟨bn, on, none⟩) 10 cn), some (Value.int .i64 ((k : Nat) : Int)), some (Value.int .i64 (((k : Nat) : Int) + 1)), some (Value.slice aN (9 - k) (cn - (k + 1))), none, some (Value.pointer (some ⟨w5.heap.size, 5, none⟩)), some (Value.slice (some ⟨bi, oi, none⟩) 10 ci), some (Value.int .i64 ((k : Nat) : Int)), some (Value.slice (some ⟨bi, oi, none⟩) k ci), none, some (Value.pointer (some ⟨w5.heap.size, 5, none⟩)), some (Value.slice (some ⟨bi, oi, none⟩) 10 ci), some (Value.int .i64 ((k : Nat) : Int)), some (Value.int .i64 (((k : Nat) : Int) + 1)), some (Value.slice aI (9 - k) (ci - (k + 1))), none, none, none] (rx9 k vs) JL zs (lst l) wz) ?_ ?_ ?_
      · refine ⟨List.replicate 24 undef, rfl, ?_⟩
        rw [show lst (Array.replicate _ false) = fun _ => false from by funext j; unfold lst; simp [Array.getD_eq_getD_getElem?, Array.getElem?_replicate]; split <;> rfl]
        exact FX.start rfl
      · intro l a wz i hl hi hI
        obtain ⟨hli, o, ho, hpre⟩ := ready_mem hi
        obtain ⟨zs, rfl, hF⟩ := hI
        have hi25 : i < 25 := (Array.getElem?_eq_some_iff.1 ho).1
        have hs25 : l.size = 25 := hl
        clear hi hl
        have hc : i = 0 ∨ i = 1 ∨ i = 2 ∨ i = 3 ∨ i = 4 ∨ i = 5 ∨ i = 6 ∨ i = 7 ∨ i = 8 ∨ i = 9 ∨ i = 10 ∨ i = 11 ∨ i = 12 ∨ i = 13 ∨ i = 14 ∨ i = 15 ∨ i = 16 ∨ i = 17 ∨ i = 18 ∨ i = 19 ∨ i = 20 ∨ i = 21 ∨ i = 22 ∨ i = 23 ∨ i = 24 := by omega
        have hli' : lst l i = false := by
          unfold lst
          rw [Array.getD_eq_getD_getElem?, Array.getElem?_eq_getElem (by omega)] at hli ⊢
          exact hli
        clear hli
        have hzl := hF.len
        match zs, hzl with
        | z0 :: z1 :: z2 :: z3 :: z4 :: z5 :: z6 :: z7 :: z8 :: z9 :: z10 :: z11 :: z12 :: z13 :: z14 :: z15 :: z16 :: z17 :: z18 :: z19 :: z20 :: z21 :: z22 :: z23 :: [], _ =>
        change wpOp _ _ _ _ _ { tmps := List.toArray (Value.agg #[Value.int IntKind.i64 hd, Value.int IntKind.i64 bo, Value.string ⟨nm.toArray⟩, Value.int IntKind.i64 od, Value.int IntKind.i64 up, Value.bool lv, Value.int IntKind.i64 nd, Value.int IntKind.i64 sq, Value.bool dr, Value.int IntKind.i64 ac] :: Value.int IntKind.i64 out :: Value.string NB :: Value.pointer (some ⟨w.heap.size, 0, none⟩) :: undef :: undef :: Value.bool false :: Value.bool true :: Value.pointer (some ⟨w2.heap.size, 0, none⟩) :: Value.string TS :: Value.int IntKind.i64 0 :: Value.string US :: Value.int IntKind.i64 0 :: Value.pointer (some ⟨w5.heap.size, 0, none⟩) :: Value.int IntKind.i64 0 :: Value.int IntKind.i64 0 :: Value.slice an1 NS.length cn1 :: Value.slice ai1 IS.length ci1 :: Value.int IntKind.i64 (-1) :: Value.pointer (some ⟨w11.heap.size, 0, none⟩) :: Value.int IntKind.i64 0 :: Value.int IntKind.i64 ((k : Nat) : Int) :: z23 :: undef :: undef :: undef :: undef :: Value.bool true :: Value.agg #[Value.int IntKind.i64 hd, Value.int IntKind.i64 bo, Value.string ⟨nm.toArray⟩, Value.int IntKind.i64 od, Value.int IntKind.i64 up, Value.bool lv, Value.int IntKind.i64 nd, Value.int IntKind.i64 sq, Value.bool dr, Value.int IntKind.i64 ac] :: Value.agg #[Value.int IntKind.i64 hd1, Value.int IntKind.i64 bo1, Value.string ⟨nm1.toArray⟩, Value.int IntKind.i64 od1, Value.int IntKind.i64 up1, Value.bool lv1, Value.int IntKind.i64 nd1, Value.int IntKind.i64 sq1, Value.bool dr1, Value.int IntKind.i64 ac1] :: Value.tuple #[Value.string TS, Value.int IntKind.i64 0] :: Value.agg #[Value.int IntKind.i64 hd1, Value.int IntKind.i64 bo1, Value.string ⟨nm1.toArray⟩, Value.int IntKind.i64 od1, Value.int IntKind.i64 up1, Value.bool lv1, Value.int IntKind.i64 nd1, Value.int IntKind.i64 sq1, Value.bool dr1, Value.int IntKind.i64 ac1] :: Value.tuple #[Value.string TS, Value.int IntKind.i64 0] :: Value.string TS :: Value.int IntKind.i64 0 :: Value.tuple #[Value.string US, Value.int IntKind.i64 0] :: Value.string TS :: Value.tuple #[Value.string US, Value.int IntKind.i64 0] :: Value.string US :: Value.int IntKind.i64 0 :: Value.tuple #[Value.agg #[Value.int IntKind.i64 7, Value.int IntKind.i64 0, Value.int IntKind.i64 0, Value.string t5, Value.slice (some ⟨bn, on, none⟩) 10 cn, Value.slice (some ⟨bi, oi, none⟩) 10 ci], Value.int IntKind.i64 0, Value.int IntKind.i64 0] :: Value.string US :: Value.tuple #[Value.agg #[Value.int IntKind.i64 7, Value.int IntKind.i64 0, Value.int IntKind.i64 0, Value.string t5, Value.slice (some ⟨bn, on, none⟩) 10 cn, Value.slice (some ⟨bi, oi, none⟩) 10 ci], Value.int IntKind.i64 0, Value.int IntKind.i64 0] :: Value.agg #[Value.int IntKind.i64 7, Value.int IntKind.i64 0, Value.int IntKind.i64 0, Value.string t5, Value.slice (some ⟨bn, on, none⟩) 10 cn, Value.slice (some ⟨bi, oi, none⟩) 10 ci] :: Value.int IntKind.i64 0 :: Value.int IntKind.i64 0 :: Value.bool true :: Value.bool false :: Value.bool false :: Value.int IntKind.i64 0 :: Value.bool false :: Value.bool false :: Value.bool false :: Value.int IntKind.i64 0 :: Value.bool false :: Value.bool false :: Value.bool false :: Value.int IntKind.i64 0 :: Value.bool false :: Value.bool false :: Value.bool false :: Value.pointer (some ⟨w5.heap.size, 4, none⟩) :: Value.slice (some ⟨bn, on, none⟩) 10 cn :: Value.int IntKind.i64 10 :: Value.bool false :: Value.bool false :: Value.bool false :: Value.pointer (some ⟨w5.heap.size, 5, none⟩) :: Value.slice (some ⟨bi, oi, none⟩) 10 ci :: Value.int IntKind.i64 10 :: Value.bool false :: Value.bool false :: Value.string NB :: Value.string FB :: Value.string (B120 ++ FB) :: Value.slice (some ⟨w6.heap.size, 0, none⟩) 1 1 :: Value.agg #[Value.int IntKind.i64 4, Value.int IntKind.i64 (Dec.mk 1 0).fst, Value.int IntKind.i64 (Dec.mk 1 0).snd.fst, Value.string ⟨#[]⟩, Value.slice none 0 0, Value.slice none 0 0] :: Value.slice (some ⟨w7.heap.size, 0, none⟩) 1 1 :: Value.int IntKind.i64 (-1) :: Value.bool false :: u80 :: u81 :: u82 :: u83 :: u84 :: u85 :: u86 :: u87 :: u88 :: u89 :: u90 :: u91 :: u92 :: u93 :: u94 :: u95 :: u96 :: u97 :: Value.tuple #[Value.agg #[Value.int IntKind.i64 hd1, Value.int IntKind.i64 bo1, Value.string ⟨nm1.toArray⟩, Value.int IntKind.i64 od1, Value.int IntKind.i64 up1, Value.bool lv1, Value.int IntKind.i64 nd1, Value.int IntKind.i64 sq1, Value.bool dr1, Value.int IntKind.i64 ac1], Value.int IntKind.i64 0] :: Value.slice an1 NS.length cn1 :: Value.slice ai1 IS.length ci1 :: Value.agg #[Value.int IntKind.i64 k8, Value.int IntKind.i64 m8, Value.int IntKind.i64 e8', Value.string t8, Value.slice an8 nn8 cn8, Value.slice ai8 ni8 ci8] :: Value.string ⟨UB.toArray⟩ :: Value.string ⟨TB.toArray⟩ :: Value.tuple #[Value.agg #[Value.int IntKind.i64 hd1, Value.int IntKind.i64 bo1, Value.string ⟨nm1.toArray⟩, Value.int IntKind.i64 od1, Value.int IntKind.i64 up1, Value.bool lv1, Value.int IntKind.i64 nd1, Value.int IntKind.i64 sq1, Value.bool dr1, Value.int IntKind.i64 ac1], Value.int IntKind.i64 0] :: Value.agg #[Value.int IntKind.i64 hd1, Value.int IntKind.i64 bo1, Value.string ⟨nm1.toArray⟩, Value.int IntKind.i64 od1, Value.int IntKind.i64 up1, Value.bool lv1, Value.int IntKind.i64 nd1, Value.int IntKind.i64 sq1, Value.bool dr1, Value.int IntKind.i64 ac1] :: Value.int IntKind.i64 0 :: Value.int IntKind.i64 out :: Value.int IntKind.i64 ((k : Nat) : Int) :: z0 :: z1 :: z2 :: z3 :: z4 :: z5 :: z6 :: z7 :: z8 :: z9 :: z10 :: z11 :: z12 :: z13 :: z14 :: z15 :: z16 :: z17 :: z18 :: z19 :: z20 :: z21 :: z22 :: undef :: undef :: undef :: undef :: undef :: undef :: undef :: undef :: undef :: undef :: undef :: undef :: undef :: undef :: undef :: undef :: undef :: undef :: undef :: undef :: undef :: undef :: undef :: undef :: undef :: undef :: undef :: undef :: undef :: undef :: undef :: undef :: undef :: undef :: undef :: undef :: undef :: []), defers := [] } _
        obtain ⟨g0, g1, g2, g3, g4, g5⟩ := six_of ((hF.bel.block _ hv5).trans HVS.out)
        rcases hc with rfl | rfl | rfl | rfl | rfl | rfl | rfl | rfl | rfl | rfl | rfl | rfl | rfl | rfl | rfl | rfl | rfl | rfl | rfl | rfl | rfl | rfl | rfl | rfl | rfl
        · clear ho hpre
          refine wpOp_here rfl (fun K' hK => ?_)
          go_simp
          exact hK _ _ ⟨[z0, z1, z2, z3, z4, z5, z6, z7, z8, z9, z10, z11, z12, z13, z14, z15, z16, z17, z18, z19, z20, z21, z22, z23].set 0 (Value.pointer (some ⟨w5.heap.size, 4, none⟩)), rfl, by rw [lst_set (by omega)]; exact hF.pure (k := 0) rfl (by decide) (by decide) (by decide) (by decide) (by decide) (by decide) (by decide)⟩
        · have q0 := hF.cst 0 _ z0 rfl rfl (hpre ⟨0, .data⟩ (by cases ho; simp) rfl)
          subst q0
          clear ho hpre
          refine wpOp_here rfl (fun K' hK => ?_)
          go_simp
          exact hK _ _ ⟨[(Value.pointer (some ⟨w5.heap.size, 4, none⟩)), z1, z2, z3, z4, z5, z6, z7, z8, z9, z10, z11, z12, z13, z14, z15, z16, z17, z18, z19, z20, z21, z22, z23].set 1 (Value.slice (some ⟨bn, on, none⟩) 10 cn), rfl, by rw [lst_set (by omega)]; exact hF.pure (k := 1) rfl (by decide) (by decide) (by decide) (by decide) (by decide) (by decide) (by decide)⟩
        · clear ho hpre
          refine wpOp_here rfl (fun K' hK => ?_)
          go_simp
          exact hK _ _ ⟨[z0, z1, z2, z3, z4, z5, z6, z7, z8, z9, z10, z11, z12, z13, z14, z15, z16, z17, z18, z19, z20, z21, z22, z23].set 2 (Value.int .i64 ((k : Nat) : Int)), rfl, by rw [lst_set (by omega)]; exact hF.pure (k := 2) rfl (by decide) (by decide) (by decide) (by decide) (by decide) (by decide) (by decide)⟩
        · have q1 := hF.cst 1 _ z1 rfl rfl (hpre ⟨1, .data⟩ (by cases ho; simp) rfl)
          subst q1
          have q2 := hF.cst 2 _ z2 rfl rfl (hpre ⟨2, .data⟩ (by cases ho; simp) rfl)
          subst q2
          clear ho hpre
          refine wpOp_here rfl (fun K' hK => ?_)
          go_simp
          rw [if_pos G3.out]
          go_simp
          exact hK _ _ ⟨[z0, (Value.slice (some ⟨bn, on, none⟩) 10 cn), (Value.int .i64 ((k : Nat) : Int)), z3, z4, z5, z6, z7, z8, z9, z10, z11, z12, z13, z14, z15, z16, z17, z18, z19, z20, z21, z22, z23].set 3 (Value.slice (some ⟨bn, on, none⟩) k cn), rfl, by rw [lst_set (by omega)]; exact hF.pure (k := 3) rfl (by decide) (by decide) (by decide) (by decide) (by decide) (by decide) (by decide)⟩
        · have q3 := hF.cst 3 _ z3 rfl rfl (hpre ⟨3, .data⟩ (by cases ho; simp) rfl)
          subst q3
          clear ho hpre
          refine wpOp_here rfl (fun K' hK => ?_)
          refine step_append_at rfl _ _ _ rfl wS.heap.size 9 i1 _ 1 16 Tryz.underlying36 hi1 hx0 hx1 hx2 rfl (by omega) (.slice none 0 0) 0 [] rfl (World.ownsRow_nil _ _ _ _) ⟨bn, on, none⟩ k cn ((names9.take k).map strW) rfl nl0 (HCN0.out _ hF.bel) (strs_one _) (by unfold maxLen; omega) (by omega) hF.bel.size ?_
          intro v' w' hown hg hat
          rw [Nat.zero_add, List.nil_append] at hown
          exact hK _ _ ⟨[z0, z1, z2, (Value.slice (some ⟨bn, on, none⟩) k cn), z4, z5, z6, z7, z8, z9, z10, z11, z12, z13, z14, z15, z16, z17, z18, z19, z20, z21, z22, z23].set 4 (v'), rfl, by rw [lst_set (by omega)]; exact hF.copyA HAsc hli' rfl hown hg hat⟩
        · clear ho hpre
          refine wpOp_here rfl (fun K' hK => ?_)
          go_simp
          exact hK _ _ ⟨[z0, z1, z2, z3, z4, z5, z6, z7, z8, z9, z10, z11, z12, z13, z14, z15, z16, z17, z18, z19, z20, z21, z22, z23].set 5 (Value.pointer (some ⟨w5.heap.size, 4, none⟩)), rfl, by rw [lst_set (by omega)]; exact hF.pure (k := 5) rfl (by decide) (by decide) (by decide) (by decide) (by decide) (by decide) (by decide)⟩
        · have q5 := hF.cst 5 _ z5 rfl rfl (hpre ⟨5, .data⟩ (by cases ho; simp) rfl)
          subst q5
          clear ho hpre
          refine wpOp_here rfl (fun K' hK => ?_)
          go_simp
          exact hK _ _ ⟨[z0, z1, z2, z3, z4, (Value.pointer (some ⟨w5.heap.size, 4, none⟩)), z6, z7, z8, z9, z10, z11, z12, z13, z14, z15, z16, z17, z18, z19, z20, z21, z22, z23].set 6 (Value.slice (some ⟨bn, on, none⟩) 10 cn), rfl, by rw [lst_set (by omega)]; exact hF.pure (k := 6) rfl (by decide) (by decide) (by decide) (by decide) (by decide) (by decide) (by decide)⟩
        · clear ho hpre
          refine wpOp_here rfl (fun K' hK => ?_)
          go_simp
          exact hK _ _ ⟨[z0, z1, z2, z3, z4, z5, z6, z7, z8, z9, z10, z11, z12, z13, z14, z15, z16, z17, z18, z19, z20, z21, z22, z23].set 7 (Value.int .i64 ((k : Nat) : Int)), rfl, by rw [lst_set (by omega)]; exact hF.pure (k := 7) rfl (by decide) (by decide) (by decide) (by decide) (by decide) (by decide) (by decide)⟩
        · have q7 := hF.cst 7 _ z7 rfl rfl (hpre ⟨7, .data⟩ (by cases ho; simp) rfl)
          subst q7
          clear ho hpre
          refine wpOp_here rfl (fun K' hK => ?_)
          go_simp
          rw [HW8.out]
          exact hK _ _ ⟨[z0, z1, z2, z3, z4, z5, z6, (Value.int .i64 ((k : Nat) : Int)), z8, z9, z10, z11, z12, z13, z14, z15, z16, z17, z18, z19, z20, z21, z22, z23].set 8 (Value.int .i64 (((k : Nat) : Int) + 1)), rfl, by rw [lst_set (by omega)]; exact hF.pure (k := 8) rfl (by decide) (by decide) (by decide) (by decide) (by decide) (by decide) (by decide)⟩
        · have q6 := hF.cst 6 _ z6 rfl rfl (hpre ⟨6, .data⟩ (by cases ho; simp) rfl)
          subst q6
          have q8 := hF.cst 8 _ z8 rfl rfl (hpre ⟨8, .data⟩ (by cases ho; simp) rfl)
          subst q8
          clear ho hpre
          refine wpOp_here rfl (fun K' hK => ?_)
          go_simp
          rw [if_pos G9.out]
          go_simp
          rw [HAN1.out]
          exact hK _ _ ⟨[z0, z1, z2, z3, z4, z5, (Value.slice (some ⟨bn, on, none⟩) 10 cn), z7, (Value.int .i64 (((k : Nat) : Int) + 1)), z9, z10, z11, z12, z13, z14, z15, z16, z17, z18, z19, z20, z21, z22, z23].set 9 (Value.slice aN (9 - k) (cn - (k + 1))), rfl, by rw [lst_set (by omega)]; exact hF.pure (k := 9) rfl (by decide) (by decide) (by decide) (by decide) (by decide) (by decide) (by decide)⟩
        · have q9 := hF.cst 9 _ z9 rfl rfl (hpre ⟨9, .data⟩ (by cases ho; simp) rfl)
          subst q9
          have p4 : lst l 4 = true := hpre ⟨4, .data⟩ (by cases ho; simp) rfl
          have hN : lst l 24 = false := hF.not_s hli' (by simp)
          have hr := hF.rowA hN p4 hli'
          obtain ⟨ad, had, hadc⟩ := part_at (n := 10) HAN.out hcn (l := (names9.drop (k + 1)).map strW) (by rw [nl1]; omega) (HCN1.out _ hF.bel)
          subst had
          clear ho hpre
          refine wpOp_here rfl (fun K' hK => ?_)
          refine step_append_at rfl _ _ _ rfl wS.heap.size 9 i1 _ 1 16 Tryz.underlying36 hi1 hx0 hx1 hx2 rfl (by omega) z4 k ((names9.take k).map strW) rfl hr ad (9 - k) (cn - (k + 1)) ((names9.drop (k + 1)).map strW) rfl nl1 hadc (strs_one _) (by unfold maxLen; omega) (by omega) hF.bel.size ?_
          intro v' w' hown hg hat
          rw [names9_join, show k + (9 - k) = 9 by omega] at hown
          exact hK _ _ ⟨[z0, z1, z2, z3, z4, z5, z6, z7, z8, (Value.slice (some ad) (9 - k) (cn - (k + 1))), z10, z11, z12, z13, z14, z15, z16, z17, z18, z19, z20, z21, z22, z23].set 10 (v'), rfl, by rw [lst_set (by omega)]; exact hF.growB HAsc hli' p4 rfl hown hg hat⟩
        · clear ho hpre
          refine wpOp_here rfl (fun K' hK => ?_)
          go_simp
          exact hK _ _ ⟨[z0, z1, z2, z3, z4, z5, z6, z7, z8, z9, z10, z11, z12, z13, z14, z15, z16, z17, z18, z19, z20, z21, z22, z23].set 11 (Value.pointer (some ⟨w5.heap.size, 5, none⟩)), rfl, by rw [lst_set (by omega)]; exact hF.pure (k := 11) rfl (by decide) (by decide) (by decide) (by decide) (by decide) (by decide) (by decide)⟩
        · have q11 := hF.cst 11 _ z11 rfl rfl (hpre ⟨11, .data⟩ (by cases ho; simp) rfl)
          subst q11
          clear ho hpre
          refine wpOp_here rfl (fun K' hK => ?_)
          go_simp
          exact hK _ _ ⟨[z0, z1, z2, z3, z4, z5, z6, z7, z8, z9, z10, (Value.pointer (some ⟨w5.heap.size, 5, none⟩)), z12, z13, z14, z15, z16, z17, z18, z19, z20, z21, z22, z23].set 12 (Value.slice (some ⟨bi, oi, none⟩) 10 ci), rfl, by rw [lst_set (by omega)]; exact hF.pure (k := 12) rfl (by decide) (by decide) (by decide) (by decide) (by decide) (by decide) (by decide)⟩
        · clear ho hpre
          refine wpOp_here rfl (fun K' hK => ?_)
          go_simp
          exact hK _ _ ⟨[z0, z1, z2, z3, z4, z5, z6, z7, z8, z9, z10, z11, z12, z13, z14, z15, z16, z17, z18, z19, z20, z21, z22, z23].set 13 (Value.int .i64 ((k : Nat) : Int)), rfl, by rw [lst_set (by omega)]; exact hF.pure (k := 13) rfl (by decide) (by decide) (by decide) (by decide) (by decide) (by decide) (by decide)⟩
        · have q12 := hF.cst 12 _ z12 rfl rfl (hpre ⟨12, .data⟩ (by cases ho; simp) rfl)
          subst q12
          have q13 := hF.cst 13 _ z13 rfl rfl (hpre ⟨13, .data⟩ (by cases ho; simp) rfl)
          subst q13
          clear ho hpre
          refine wpOp_here rfl (fun K' hK => ?_)
          go_simp
          rw [if_pos G14.out]
          go_simp
          exact hK _ _ ⟨[z0, z1, z2, z3, z4, z5, z6, z7, z8, z9, z10, z11, (Value.slice (some ⟨bi, oi, none⟩) 10 ci), (Value.int .i64 ((k : Nat) : Int)), z14, z15, z16, z17, z18, z19, z20, z21, z22, z23].set 14 (Value.slice (some ⟨bi, oi, none⟩) k ci), rfl, by rw [lst_set (by omega)]; exact hF.pure (k := 14) rfl (by decide) (by decide) (by decide) (by decide) (by decide) (by decide) (by decide)⟩
        · have q14 := hF.cst 14 _ z14 rfl rfl (hpre ⟨14, .data⟩ (by cases ho; simp) rfl)
          subst q14
          clear ho hpre
          refine wpOp_here rfl (fun K' hK => ?_)
          refine step_append_at rfl _ _ _ rfl wS.heap.size 45 i0 _ 6 88 Tryz.underlying43 hi0 hz0 hz1 hz2 rfl (by omega) (.slice none 0 0) 0 [] rfl (World.ownsRow_nil _ _ _ _) ⟨bi, oi, none⟩ k ci ((vs.take k).flatMap aggC) rfl il0 (HCI0.out _ hF.bel) (fun u hu => h61 u (by obtain ⟨v, hv, hu⟩ := List.mem_flatMap.1 hu; exact List.mem_flatMap.2 ⟨v, List.mem_of_mem_take hv, hu⟩)) (by unfold maxLen; omega) (by omega) hF.bel.size ?_
          intro v' w' hown hg hat
          rw [Nat.zero_add, List.nil_append] at hown
          exact hK _ _ ⟨[z0, z1, z2, z3, z4, z5, z6, z7, z8, z9, z10, z11, z12, z13, (Value.slice (some ⟨bi, oi, none⟩) k ci), z15, z16, z17, z18, z19, z20, z21, z22, z23].set 15 (v'), rfl, by rw [lst_set (by omega)]; exact hF.copyC HAsc hli' rfl hown hg hat⟩
        · clear ho hpre
          refine wpOp_here rfl (fun K' hK => ?_)
          go_simp
          exact hK _ _ ⟨[z0, z1, z2, z3, z4, z5, z6, z7, z8, z9, z10, z11, z12, z13, z14, z15, z16, z17, z18, z19, z20, z21, z22, z23].set 16 (Value.pointer (some ⟨w5.heap.size, 5, none⟩)), rfl, by rw [lst_set (by omega)]; exact hF.pure (k := 16) rfl (by decide) (by decide) (by decide) (by decide) (by decide) (by decide) (by decide)⟩
        · have q16 := hF.cst 16 _ z16 rfl rfl (hpre ⟨16, .data⟩ (by cases ho; simp) rfl)
          subst q16
          clear ho hpre
          refine wpOp_here rfl (fun K' hK => ?_)
          go_simp
          exact hK _ _ ⟨[z0, z1, z2, z3, z4, z5, z6, z7, z8, z9, z10, z11, z12, z13, z14, z15, (Value.pointer (some ⟨w5.heap.size, 5, none⟩)), z17, z18, z19, z20, z21, z22, z23].set 17 (Value.slice (some ⟨bi, oi, none⟩) 10 ci), rfl, by rw [lst_set (by omega)]; exact hF.pure (k := 17) rfl (by decide) (by decide) (by decide) (by decide) (by decide) (by decide) (by decide)⟩
        · clear ho hpre
          refine wpOp_here rfl (fun K' hK => ?_)
          go_simp
          exact hK _ _ ⟨[z0, z1, z2, z3, z4, z5, z6, z7, z8, z9, z10, z11, z12, z13, z14, z15, z16, z17, z18, z19, z20, z21, z22, z23].set 18 (Value.int .i64 ((k : Nat) : Int)), rfl, by rw [lst_set (by omega)]; exact hF.pure (k := 18) rfl (by decide) (by decide) (by decide) (by decide) (by decide) (by decide) (by decide)⟩
        · have q18 := hF.cst 18 _ z18 rfl rfl (hpre ⟨18, .data⟩ (by cases ho; simp) rfl)
          subst q18
          clear ho hpre
          refine wpOp_here rfl (fun K' hK => ?_)
          go_simp
          rw [HW8.out]
          exact hK _ _ ⟨[z0, z1, z2, z3, z4, z5, z6, z7, z8, z9, z10, z11, z12, z13, z14, z15, z16, z17, (Value.int .i64 ((k : Nat) : Int)), z19, z20, z21, z22, z23].set 19 (Value.int .i64 (((k : Nat) : Int) + 1)), rfl, by rw [lst_set (by omega)]; exact hF.pure (k := 19) rfl (by decide) (by decide) (by decide) (by decide) (by decide) (by decide) (by decide)⟩
        · have q17 := hF.cst 17 _ z17 rfl rfl (hpre ⟨17, .data⟩ (by cases ho; simp) rfl)
          subst q17
          have q19 := hF.cst 19 _ z19 rfl rfl (hpre ⟨19, .data⟩ (by cases ho; simp) rfl)
          subst q19
          clear ho hpre
          refine wpOp_here rfl (fun K' hK => ?_)
          go_simp
          rw [if_pos G9.out]
          go_simp
          rw [HAI.out]
          exact hK _ _ ⟨[z0, z1, z2, z3, z4, z5, z6, z7, z8, z9, z10, z11, z12, z13, z14, z15, z16, (Value.slice (some ⟨bi, oi, none⟩) 10 ci), z18, (Value.int .i64 (((k : Nat) : Int) + 1)), z20, z21, z22, z23].set 20 (Value.slice aI (9 - k) (ci - (k + 1))), rfl, by rw [lst_set (by omega)]; exact hF.pure (k := 20) rfl (by decide) (by decide) (by decide) (by decide) (by decide) (by decide) (by decide)⟩
        · have q20 := hF.cst 20 _ z20 rfl rfl (hpre ⟨20, .data⟩ (by cases ho; simp) rfl)
          subst q20
          have p15 : lst l 15 = true := hpre ⟨15, .data⟩ (by cases ho; simp) rfl
          have hN : lst l 24 = false := hF.not_s hli' (by simp)
          have hr := hF.rowC hN p15 hli'
          obtain ⟨ad, had, hadc⟩ := part_at (n := 10) HAI.out hci (l := (vs.drop (k + 1)).flatMap aggC) (by rw [il1]; omega) (HCI1.out _ hF.bel)
          subst had
          clear ho hpre
          refine wpOp_here rfl (fun K' hK => ?_)
          refine step_append_at rfl _ _ _ rfl wS.heap.size 45 i0 _ 6 88 Tryz.underlying43 hi0 hz0 hz1 hz2 rfl (by omega) z15 k ((vs.take k).flatMap aggC) rfl hr ad (9 - k) (ci - (k + 1)) ((vs.drop (k + 1)).flatMap aggC) rfl il1 hadc (fun u hu => h61 u (by obtain ⟨v, hv, hu⟩ := List.mem_flatMap.1 hu; exact List.mem_flatMap.2 ⟨v, List.mem_of_mem_drop hv, hu⟩)) (by unfold maxLen; omega) (by omega) hF.bel.size ?_
          intro v' w' hown hg hat
          rw [items_join, show k + (9 - k) = 9 by omega] at hown
          exact hK _ _ ⟨[z0, z1, z2, z3, z4, z5, z6, z7, z8, z9, z10, z11, z12, z13, z14, z15, z16, z17, z18, z19, (Value.slice (some ad) (9 - k) (ci - (k + 1))), z21, z22, z23].set 21 (v'), rfl, by rw [lst_set (by omega)]; exact hF.growD HAsc hli' p15 rfl hown hg hat⟩
        · have p10 : lst l 10 = true := hpre ⟨10, .data⟩ (by cases ho; simp) rfl
          have p21 : lst l 21 = true := hpre ⟨21, .data⟩ (by cases ho; simp) rfl
          have hN : lst l 24 = false := hF.not_s hli' (by simp)
          have hrb := hF.rowB hN p10
          have hrd := hF.rowD hN p21
          have hc := make_rows lo wS wz (names9.eraseIdx k) (vs.eraseIdx k) (it9.eraseIdx k) z10 z21 hF.bel hloS (by rw [nl2]; exact hrb) (by rw [List.length_eraseIdx, HIL.out, if_pos hk10]; exact hrd) (by rw [il2, List.length_eraseIdx, HIL.out, if_pos hk10]) (fun x hx => by have := (HNX.out x (List.mem_of_mem_eraseIdx hx)).2; unfold txtB; omega) (fun i hi => by
            rw [List.length_eraseIdx, HIL.out, if_pos hk10] at hi
            rw [getD_erase, getD_erase]
            split
            · exact HJW.out i (by omega)
            · exact HJW.out (i + 1) (by omega)) (by omega) (by rw [List.length_eraseIdx, HIL.out, if_pos hk10]; omega)
          rw [HML.out] at hc
          unfold CRet at hc
          clear ho hpre
          refine wpOp_here rfl (fun K' hK => ?_)
          go_simp
          refine hc.mono ?_
          rintro e6 w6 ⟨k6, m6, e6', t6, an6, nn6, cn6, ai6, ni6, ci6, rfl, hJ6, hb6⟩
          exact hK _ _ ⟨[z0, z1, z2, z3, z4, z5, z6, z7, z8, z9, z10, z11, z12, z13, z14, z15, z16, z17, z18, z19, z20, z21, z22, z23].set 22 ((.agg #[.int .i64 k6, .int .i64 m6, .int .i64 e6', .string t6, .slice an6 nn6 cn6, .slice ai6 ni6 ci6])), rfl, by rw [lst_set (by omega)]; exact hF.made HAsc hli' p10 p21 rfl hb6 hJ6⟩
        · clear ho hpre
          refine wpOp_here rfl (fun K' hK => ?_)
          go_simp
          exact hK _ _ ⟨[z0, z1, z2, z3, z4, z5, z6, z7, z8, z9, z10, z11, z12, z13, z14, z15, z16, z17, z18, z19, z20, z21, z22, z23].set 23 (.pointer (some ⟨wz.heap.size, 0, none⟩)), rfl, by rw [lst_set (by omega)]; exact hF.box HAsc hli' rfl⟩
        · have p22 : lst l 22 = true := hpre ⟨22, .data⟩ (by cases ho; simp) rfl
          have p23 : lst l 23 = true := hpre ⟨23, .data⟩ (by cases ho; simp) rfl
          obtain ⟨g, hg, hge, hh⟩ := hF.place hli' p23
          have hg' : z23 = .pointer (some ⟨g, 0, none⟩) := hg
          obtain ⟨k6, m6, e6', t6, an6, nn6, cn6, ai6, ni6, ci6, hu, hJ⟩ := hF.rm p22 hli'
          have hu' : z22 = .agg #[.int .i64 k6, .int .i64 m6, .int .i64 e6', .string t6, .slice an6 nn6 cn6, .slice ai6 ni6 ci6] := hu
          subst hg' hu'
          obtain ⟨⟨c0, c1, c2, c3, c4, c5⟩, f0, f1, f2, f3, f4, f5⟩ := twelve_of hh
          clear ho hpre
          refine wpOp_here rfl (fun K' hK => ?_)
          go_simp
          rw [put6_is]
          exact hK _ _ ⟨[z0, z1, z2, z3, z4, z5, z6, z7, z8, z9, z10, z11, z12, z13, z14, z15, z16, z17, z18, z19, z20, z21, (.agg #[.int .i64 k6, .int .i64 m6, .int .i64 e6', .string t6, .slice an6 nn6 cn6, .slice ai6 ni6 ci6]), (.pointer (some ⟨g, 0, none⟩))], rfl, by rw [lst_set (by omega)]; exact hF.store HAsc hli' p22 p23 rfl hge hh rfl⟩
      · intro l a wz hl hr hI
        obtain ⟨zs, rfl, hF⟩ := hI
        have hall := Od.all_run (acB_of (by kernel_rfl)) hl hr 24 (by rw [← hl, hl]; decide)
        have hfin := hF.fin hall
        have hzl := hF.len
        match zs, hzl with
        | z0 :: z1 :: z2 :: z3 :: z4 :: z5 :: z6 :: z7 :: z8 :: z9 :: z10 :: z11 :: z12 :: z13 :: z14 :: z15 :: z16 :: z17 :: z18 :: z19 :: z20 :: z21 :: z22 :: z23 :: [], _ =>
        obtain ⟨g, k6, m6, e6', t6, an6, nn6, cn6, ai6, ni6, ci6, hz, hb, hh, hJ⟩ := hfin
        have hz' : z23 = .pointer (some ⟨g, 0, none⟩) := hz
        subst hz'
        refine A3 _ _ ?_
        change Code.wp _ _ _ { tmps := List.toArray (Value.agg #[Value.int IntKind.i64 hd, Value.int IntKind.i64 bo, Value.string ⟨nm.toArray⟩, Value.int IntKind.i64 od, Value.int IntKind.i64 up, Value.bool lv, Value.int IntKind.i64 nd, Value.int IntKind.i64 sq, Value.bool dr, Value.int IntKind.i64 ac] :: Value.int IntKind.i64 out :: Value.string NB :: Value.pointer (some ⟨w.heap.size, 0, none⟩) :: undef :: undef :: Value.bool false :: Value.bool true :: Value.pointer (some ⟨w2.heap.size, 0, none⟩) :: Value.string TS :: Value.int IntKind.i64 0 :: Value.string US :: Value.int IntKind.i64 0 :: Value.pointer (some ⟨w5.heap.size, 0, none⟩) :: Value.int IntKind.i64 0 :: Value.int IntKind.i64 0 :: Value.slice an1 NS.length cn1 :: Value.slice ai1 IS.length ci1 :: Value.int IntKind.i64 (-1) :: Value.pointer (some ⟨w11.heap.size, 0, none⟩) :: Value.int IntKind.i64 0 :: Value.int IntKind.i64 ((k : Nat) : Int) :: Value.pointer (some ⟨g, 0, none⟩) :: undef :: undef :: undef :: undef :: Value.bool true :: Value.agg #[Value.int IntKind.i64 hd, Value.int IntKind.i64 bo, Value.string ⟨nm.toArray⟩, Value.int IntKind.i64 od, Value.int IntKind.i64 up, Value.bool lv, Value.int IntKind.i64 nd, Value.int IntKind.i64 sq, Value.bool dr, Value.int IntKind.i64 ac] :: Value.agg #[Value.int IntKind.i64 hd1, Value.int IntKind.i64 bo1, Value.string ⟨nm1.toArray⟩, Value.int IntKind.i64 od1, Value.int IntKind.i64 up1, Value.bool lv1, Value.int IntKind.i64 nd1, Value.int IntKind.i64 sq1, Value.bool dr1, Value.int IntKind.i64 ac1] :: Value.tuple #[Value.string TS, Value.int IntKind.i64 0] :: Value.agg #[Value.int IntKind.i64 hd1, Value.int IntKind.i64 bo1, Value.string ⟨nm1.toArray⟩, Value.int IntKind.i64 od1, Value.int IntKind.i64 up1, Value.bool lv1, Value.int IntKind.i64 nd1, Value.int IntKind.i64 sq1, Value.bool dr1, Value.int IntKind.i64 ac1] :: Value.tuple #[Value.string TS, Value.int IntKind.i64 0] :: Value.string TS :: Value.int IntKind.i64 0 :: Value.tuple #[Value.string US, Value.int IntKind.i64 0] :: Value.string TS :: Value.tuple #[Value.string US, Value.int IntKind.i64 0] :: Value.string US :: Value.int IntKind.i64 0 :: Value.tuple #[Value.agg #[Value.int IntKind.i64 7, Value.int IntKind.i64 0, Value.int IntKind.i64 0, Value.string t5, Value.slice (some ⟨bn, on, none⟩) 10 cn, Value.slice (some ⟨bi, oi, none⟩) 10 ci], Value.int IntKind.i64 0, Value.int IntKind.i64 0] :: Value.string US :: Value.tuple #[Value.agg #[Value.int IntKind.i64 7, Value.int IntKind.i64 0, Value.int IntKind.i64 0, Value.string t5, Value.slice (some ⟨bn, on, none⟩) 10 cn, Value.slice (some ⟨bi, oi, none⟩) 10 ci], Value.int IntKind.i64 0, Value.int IntKind.i64 0] :: Value.agg #[Value.int IntKind.i64 7, Value.int IntKind.i64 0, Value.int IntKind.i64 0, Value.string t5, Value.slice (some ⟨bn, on, none⟩) 10 cn, Value.slice (some ⟨bi, oi, none⟩) 10 ci] :: Value.int IntKind.i64 0 :: Value.int IntKind.i64 0 :: Value.bool true :: Value.bool false :: Value.bool false :: Value.int IntKind.i64 0 :: Value.bool false :: Value.bool false :: Value.bool false :: Value.int IntKind.i64 0 :: Value.bool false :: Value.bool false :: Value.bool false :: Value.int IntKind.i64 0 :: Value.bool false :: Value.bool false :: Value.bool false :: Value.pointer (some ⟨w5.heap.size, 4, none⟩) :: Value.slice (some ⟨bn, on, none⟩) 10 cn :: Value.int IntKind.i64 10 :: Value.bool false :: Value.bool false :: Value.bool false :: Value.pointer (some ⟨w5.heap.size, 5, none⟩) :: Value.slice (some ⟨bi, oi, none⟩) 10 ci :: Value.int IntKind.i64 10 :: Value.bool false :: Value.bool false :: Value.string NB :: Value.string FB :: Value.string (B120 ++ FB) :: Value.slice (some ⟨w6.heap.size, 0, none⟩) 1 1 :: Value.agg #[Value.int IntKind.i64 4, Value.int IntKind.i64 (Dec.mk 1 0).fst, Value.int IntKind.i64 (Dec.mk 1 0).snd.fst, Value.string ⟨#[]⟩, Value.slice none 0 0, Value.slice none 0 0] :: Value.slice (some ⟨w7.heap.size, 0, none⟩) 1 1 :: Value.int IntKind.i64 (-1) :: Value.bool false :: u80 :: u81 :: u82 :: u83 :: u84 :: u85 :: u86 :: u87 :: u88 :: u89 :: u90 :: u91 :: u92 :: u93 :: u94 :: u95 :: u96 :: u97 :: Value.tuple #[Value.agg #[Value.int IntKind.i64 hd1, Value.int IntKind.i64 bo1, Value.string ⟨nm1.toArray⟩, Value.int IntKind.i64 od1, Value.int IntKind.i64 up1, Value.bool lv1, Value.int IntKind.i64 nd1, Value.int IntKind.i64 sq1, Value.bool dr1, Value.int IntKind.i64 ac1], Value.int IntKind.i64 0] :: Value.slice an1 NS.length cn1 :: Value.slice ai1 IS.length ci1 :: Value.agg #[Value.int IntKind.i64 k8, Value.int IntKind.i64 m8, Value.int IntKind.i64 e8', Value.string t8, Value.slice an8 nn8 cn8, Value.slice ai8 ni8 ci8] :: Value.string ⟨UB.toArray⟩ :: Value.string ⟨TB.toArray⟩ :: Value.tuple #[Value.agg #[Value.int IntKind.i64 hd1, Value.int IntKind.i64 bo1, Value.string ⟨nm1.toArray⟩, Value.int IntKind.i64 od1, Value.int IntKind.i64 up1, Value.bool lv1, Value.int IntKind.i64 nd1, Value.int IntKind.i64 sq1, Value.bool dr1, Value.int IntKind.i64 ac1], Value.int IntKind.i64 0] :: Value.agg #[Value.int IntKind.i64 hd1, Value.int IntKind.i64 bo1, Value.string ⟨nm1.toArray⟩, Value.int IntKind.i64 od1, Value.int IntKind.i64 up1, Value.bool lv1, Value.int IntKind.i64 nd1, Value.int IntKind.i64 sq1, Value.bool dr1, Value.int IntKind.i64 ac1] :: Value.int IntKind.i64 0 :: Value.int IntKind.i64 out :: Value.int IntKind.i64 ((k : Nat) : Int) :: z0 :: z1 :: z2 :: z3 :: z4 :: z5 :: z6 :: z7 :: z8 :: z9 :: z10 :: z11 :: z12 :: z13 :: z14 :: z15 :: z16 :: z17 :: z18 :: z19 :: z20 :: z21 :: z22 :: undef :: undef :: undef :: undef :: undef :: undef :: undef :: undef :: undef :: undef :: undef :: undef :: undef :: undef :: undef :: undef :: undef :: undef :: undef :: undef :: undef :: undef :: undef :: undef :: undef :: undef :: undef :: undef :: undef :: undef :: undef :: undef :: undef :: undef :: undef :: undef :: undef :: []), defers := [] } _
        obtain ⟨r0, r1, r2, r3, r4, r5⟩ := six_of hh
        have BZ := Lib.hid (below_next BS.out hb)
        have UZ := Lib.hid (US9.out.below hb)
        have VZ := Lib.hid (V11.out.below hb)
        have JZ := Lib.hid hJ
        clear hF hall hl hr hz hJ hh hb HCN0 HCN1 HCI0 HCI1 HNW HIW HJW h6 h61 hA5 A3 hvs HAN HAN1 HAI PA I5 MK SE PR OP L1 F1 A1 TK HNS HIS hvb HVR HVB HSt HNL HNX HTT
        go_upto_region 19 with (first
          | (go_at_call 30; (with_reducible refine (PR2.out _ _ BZ.out JZ.out).mono ?_); rintro e13 w13 ⟨rfl, hb13⟩; have B13 := Lib.hid (below_next BZ.out hb13); have U13 := Lib.hid (UZ.out.below hb13); have V13 := Lib.hid (VZ.out.below hb13); clear hb13)
          | (go_at_call 23; (with_reducible refine (SE2.out _).mono ?_); rintro e14 w14 ⟨rfl, hb14⟩; have B14 := Lib.hid (below_next B13.out hb14); have U14 := Lib.hid (U13.out.below hb14); have V14 := Lib.hid (V13.out.below hb14); clear hb14)
          | (go_at_call 41; (with_reducible refine (TK2.out _).mono ?_); rintro e15 w15 ⟨rfl, hb15⟩; have B15 := Lib.hid (below_box (below_next B14.out hb15) (.cells #[.int .i64 0, .int .i64 0, .string ⟨#[]⟩, .int .i64 0, .int .i64 0, .bool false, .int .i64 0, .int .i64 0, .bool false, .int .i64 0] 53)); have U15 := Lib.hid ((U14.out.below hb15).box (.cells #[.int .i64 0, .int .i64 0, .string ⟨#[]⟩, .int .i64 0, .int .i64 0, .bool false, .int .i64 0, .int .i64 0, .bool false, .int .i64 0] 53)); have V15 := Lib.hid ((V14.out.below hb15).box (.cells #[.int .i64 0, .int .i64 0, .string ⟨#[]⟩, .int .i64 0, .int .i64 0, .bool false, .int .i64 0, .int .i64 0, .bool false, .int .i64 0] 53)); clear hb15))
        generalize w15.alloc (.cells #[.int .i64 0, .int .i64 0, .string ⟨#[]⟩, .int .i64 0, .int .i64 0, .bool false, .int .i64 0, .int .i64 0, .bool false, .int .i64 0] 53) = wX at *
        obtain ⟨s0, s1, s2, s3, s4, s5, s6, s7, s8, s9⟩ := ten_of U15.out.blk
        go_upto_region 22 with fail
        have hbk := heap_alloc_new wX (.cells #[.int .i64 hd1, .int .i64 bo1, .string ⟨nm1.toArray⟩, .int .i64 od1, .int .i64 up1, .bool false, .int .i64 nd1, .int .i64 sq1, .bool true, .int .i64 ac1] 53)
        have hbb := belowOne wX (.cells #[.int .i64 hd1, .int .i64 bo1, .string ⟨nm1.toArray⟩, .int .i64 od1, .int .i64 up1, .bool false, .int .i64 nd1, .int .i64 sq1, .bool true, .int .i64 ac1] 53)
        generalize wX.alloc (.cells #[.int .i64 hd1, .int .i64 bo1, .string ⟨nm1.toArray⟩, .int .i64 od1, .int .i64 up1, .bool false, .int .i64 nd1, .int .i64 sq1, .bool true, .int .i64 ac1] 53) = wY at *
        have BY := Lib.hid (below_next B15.out hbb)
        have UY := Lib.hid (U15.out.below hbb)
        have VY := Lib.hid (V15.out.below hbb)
        have DY : Hid (BX9 #[.int .i64 hd1, .int .i64 bo1, .string ⟨nm1.toArray⟩, .int .i64 od1, .int .i64 up1, .bool false, .int .i64 nd1, .int .i64 sq1, .bool true, .int .i64 ac1] wX.heap.size wY) := ⟨hbk⟩
        clear hbk hbb s0 s1 s2 s3 s4 s5 s6 s7 s8 s9
        generalize wX.heap.size = bX at *
        obtain ⟨s0, s1, s2, s3, s4, s5, s6, s7, s8, s9⟩ := ten_of UY.out.blk
        have pk4 : 2 * p2 + 1 ≤ 2001 := by omega
        have pk5 : 0 ≤ 2 * p2 := by omega
        go_upto_region 24 with (go_at_call 40; (with_reducible refine (PK2.out _).mono ?_); rintro e16 w16 ⟨rfl, rfl⟩)
        have hbk := heap_alloc_new wY (.cells #[.int .i64 hd1, .int .i64 bo1, .string ⟨nm1.toArray⟩, .int .i64 od1, .int .i64 up1, .bool lv1, .int .i64 nd1, .int .i64 (2 * p2 + 1), .bool dr1, .int .i64 ac1] 53)
        have hbb := belowOne wY (.cells #[.int .i64 hd1, .int .i64 bo1, .string ⟨nm1.toArray⟩, .int .i64 od1, .int .i64 up1, .bool lv1, .int .i64 nd1, .int .i64 (2 * p2 + 1), .bool dr1, .int .i64 ac1] 53)
        generalize wY.alloc (.cells #[.int .i64 hd1, .int .i64 bo1, .string ⟨nm1.toArray⟩, .int .i64 od1, .int .i64 up1, .bool lv1, .int .i64 nd1, .int .i64 (2 * p2 + 1), .bool dr1, .int .i64 ac1] 53) = wZ at *
        have BW := Lib.hid (below_next BY.out hbb)
        have UW := Lib.hid (UY.out.below hbb)
        have VW := Lib.hid (VY.out.below hbb)
        have DW := Lib.hid (DY.out.below hbb)
        have EW : Hid (BX9 #[.int .i64 hd1, .int .i64 bo1, .string ⟨nm1.toArray⟩, .int .i64 od1, .int .i64 up1, .bool lv1, .int .i64 nd1, .int .i64 (2 * p2 + 1), .bool dr1, .int .i64 ac1] wY.heap.size wZ) := ⟨hbk⟩
        clear hbk hbb s0 s1 s2 s3 s4 s5 s6 s7 s8 s9
        generalize wY.heap.size = bY at *
        obtain ⟨s0, s1, s2, s3, s4, s5, s6, s7, s8, s9⟩ := ten_of UW.out.blk
        obtain ⟨t0, t1, t2, t3, t4, t5, t6, t7, t8, t9⟩ := ten_of VW.out.blk
        obtain ⟨d0, d1, d2, d3, d4, d5, d6, d7, d8, d9⟩ := ten_of DW.out.blk
        go_wp2_with (first
          | (go_at_call 36; (with_reducible refine (R1.out _).mono ?_); rintro e17 w17 ⟨rfl, hb17⟩; have B17 := Lib.hid (below_next BW.out hb17); have E17 := Lib.hid (EW.out.below hb17); obtain ⟨o0, o1, o2, o3, o4, o5, o6, o7, o8, o9⟩ := ten_of E17.out.blk; clear hb17)
          | (go_at_call 36; (with_reducible refine (R2.out _).mono ?_); rintro e18 w18 ⟨rfl, hb18⟩; have B18 := Lib.hid (below_next B17.out hb18); clear hb18))
        go_ret
        exact ⟨rfl, B18.out⟩
end Go.Proofs.YtcpggmdiojaalaaGreatDoor.Sta

/- The law StateForms (fields in another order, and more of them, count for nothing; a field less is no state) answers true for all raw states, numbers and names; taken that Go's own tables (those of strconv, math/bits and unicode/utf8) hold what the program's text lays, which the card ties. -/
set_option linter.unusedSimpArgs false
set_option linter.unusedVariables false
namespace Go.Proofs.YtcpggmdiojaalaaGreatDoor.stateForms
open Go.ChangeShapes Go.WideShapes Go.ChangeAt Go.RowKit Go.Proofs.YtcpggmdiojaalaaGreatDoor.Sta Go.Proofs.YtcpggmdiojaalaaGreatDoor.Od
open Go.Proofs.YtcpggmdiojaalaaGreatDoor.Js (laid5 laid_met laidWorld tab_of_laid)
open Go.ChangeMaps (open_string shut_string)

set_option maxRecDepth 100000 in
theorem contract (H : Type) (enc : TypeId × Value → H) (W : World) (base : Nat) (args : Array Value) (ds gs : List (DataW H)) (before : List MemPlace)
    (hval : ∀ (j : Nat) t v, Tryz.f10.params[j]? = some t → args[j]? = some v → Value.okWide Tryz.prog W .any base t v)
    (hW : DataW.Whole enc Tryz.prog Tryz.f10.params.toList Rows.stateFormsSpec.vars false W args.toList ds gs before) (hz : (DataW.weightsEach Tryz.prog (Tryz.f10.params.toList ++ (OpenSpec.ofChange Rows.stateFormsSpec).bare.plain.varTypes Tryz.prog) (ds ++ gs)).all (· ≤ reachBytes) = true) (hL : laidMetH Tryz.prog laid5 W) :
    Calls Tryz.prog 10 args W fun e W' => ∃ v, e = .returned v ∧ Rows.stateFormsSpec.post enc Tryz.prog Tryz.f10 false true false false W args v W' := by
  have hT := tab_of_laid hL
  clear hL
  have hW' := hW
  have hlt := hW.lt
  obtain ⟨p, q, hA0, hV, rfl, hfz, hnd⟩ := hW
  have hA : DataW.TrodAll enc Tryz.prog W 0 (fun _ => true) true Tryz.f10.params.toList args.toList ds p := hA0
  rw [Tryz.params10] at hA hval
  obtain ⟨v0, vs0, d0, ds0, p0, q0, hargs, rfl, rfl, h0, r0⟩ := trodAll_cons hA
  obtain ⟨v1, vs1, d1, ds1, p1, q1, rfl, rfl, rfl, h1, r1⟩ := trodAll_cons r0
  obtain ⟨v2, vs2, d2, ds2, p2, q2, rfl, rfl, rfl, h2, r2⟩ := trodAll_cons r1
  obtain ⟨rfl, rfl, rfl⟩ := trodAll_nil r2
  obtain rfl : args = #[v0, v1, v2] := Array.ext' hargs
  obtain ⟨rfl, rfl⟩ := trodVars_none hV
  have k0 := h0
  have k1 := h1
  have k2 := h2
  have wt0 : Wt 53 d0 := wt_of hz (j := 0) (by rw [Tryz.params10]; rfl) rfl
  obtain ⟨z0, rfl, hz0⟩ := open_state (hval 0 53 v0 rfl rfl) h0 wt0
  obtain ⟨x1, rfl, rfl, rfl, wx1⟩ := open_int Tryz.underlying3 (hval 1 3 v1 rfl rfl) h1
  obtain ⟨b1, c1⟩ := bounds_i64 wx1
  have wt2 : Wt 9 d2 := wt_of hz (j := 2) (by rw [Tryz.params10]; rfl) rfl
  obtain ⟨s2, rfl, rfl, rfl, hs2⟩ := open_string Tryz.underlying9 (hval 2 9 v2 rfl rfl) h2
  have l2 := wt_string wt2
  clear hs2
  obtain ⟨t2, rfl⟩ : ∃ t : List UInt8, s2 = ⟨t.toArray⟩ := ⟨s2.data.toList, by cases s2; simp⟩
  clear hA0
  simp only [List.append_nil] at hW'
  refine (forms9_walk z0 x1 t2 W hT hz0 b1 c1 (by simp at l2; omega)).mono fun e W' ⟨he, hg⟩ => ?_
  subst he
  exact ⟨_, rfl, _, _, _, [], _, [], hW', trodAll_cons_mk (shut_bool Tryz.underlying4 _) trodAll_mk0,
    (trodAll_cons_mk (Below.trod laidOut (by kernel_rfl) (of_decide_eq_true (by kernel_rfl)) k0 hg (fun x hx => by first | (exact absurd hx (by simp)) | exact hlt x (by simp [hx]))) (trodAll_cons_mk (Below.trod laidOut (by kernel_rfl) (of_decide_eq_true (by kernel_rfl)) k1 hg (fun x hx => by first | (exact absurd hx (by simp)) | exact hlt x (by simp [hx]))) (trodAll_cons_mk (Below.trod laidOut (by kernel_rfl) (of_decide_eq_true (by kernel_rfl)) k2 hg (fun x hx => by first | (exact absurd hx (by simp)) | exact hlt x (by simp [hx]))) trodAll_mk0))), rfl,
    hg.frame _, fun h => by cases h⟩

theorem reads (os : Os) {H : Type} (enc : TypeId × Value → H) : ∃ places, DataW.whole enc Tryz.prog ((laidWorld os).forCall (fun _ _ => 0) ⟨#[], #[.agg #[.int .i64 0, .int .i64 0, .string ⟨#[]⟩, .int .i64 0, .int .i64 0, .bool false, .int .i64 0, .int .i64 0, .bool false, .int .i64 0], .int .i64 0, .string ⟨#[]⟩], []⟩).memory Tryz.f10.params.toList Rows.stateFormsSpec.vars false (#[Value.agg #[.int .i64 0, .int .i64 0, .string ⟨#[]⟩, .int .i64 0, .int .i64 0, .bool false, .int .i64 0, .int .i64 0, .bool false, .int .i64 0], Value.int .i64 0, Value.string ⟨#[]⟩] : Array Value).toList 8 = some ([.agg [.lit (.int .i64 0), .lit (.int .i64 0), .lit (.string []), .lit (.int .i64 0), .lit (.int .i64 0), .lit (.bool false), .lit (.int .i64 0), .lit (.int .i64 0), .lit (.bool false), .lit (.int .i64 0)], .lit (.int .i64 0), .lit (.string [])], [], places) :=
  ⟨[], by kernel_rfl⟩

set_option maxRecDepth 100000 in
theorem lifted (os : Os) (started : os.Started) (H : Type) (enc : TypeId × Value → H) (F : Stop.Interp) :
    ReturnsInHanded {} Tryz.checked os 10 .any ((OpenSpec.ofChange Rows.stateFormsSpec).preRow enc Tryz.prog Tryz.f10 Rows.stateFormsRow.domain false Rows.stateFormsRow.laid) (((OpenSpec.ofChange Rows.stateFormsSpec).at F).post enc Tryz.prog Tryz.f10 false true false false) := by
  obtain ⟨places, hx⟩ := reads os enc
  refine returnsInHanded_of_row (C := Tryz.checked) (s := OpenSpec.ofChange Rows.stateFormsSpec) own started (by kernel_rfl) Tryz.func10
    (witness_row_at (enc := enc) (C := Tryz.checked) false (laidWorld os) #[.agg #[.int .i64 0, .int .i64 0, .string ⟨#[]⟩, .int .i64 0, .int .i64 0, .bool false, .int .i64 0, .int .i64 0, .bool false, .int .i64 0], .int .i64 0, .string ⟨#[]⟩] rfl (by kernel_rfl) (by kernel_rfl) (by kernel_rfl)
      (OpenSpec.preRow_of_cond 8 hx (by kernel_rfl) (fun k hk => by cases hk) (by kernel_rfl) (laid_met os _))) ?_
  intro W base args ds gs before hval hW _ _ hz hL _ _
  exact contract H enc W base args ds gs before hval hW hz hL

theorem said : Rows.StateFormsSaid :=
  OpenClaim.holds_of_cond 10 Tryz.f10 rfl rfl rfl rfl rfl rfl rfl ⟨rfl, rfl, rfl, rfl, rfl⟩ rfl rfl rfl rfl rfl (by kernel_rfl) Tryz.func10 (by kernel_rfl)
    (of_decide_eq_true (by kernel_rfl)) (by unfold Func.isWrapper; first | (rw [if_pos (by decide +kernel)]; kernel_rfl) | (rw [if_neg (by decide +kernel)]; exact ⟨rfl, rfl⟩))
    (fun os started H enc _ F => by rw [OpenClaim.pre_eq_preRow]; exact lifted os started H enc F)

theorem plain (f : FuncId) (fn : Func) (hf : Tryz.pinned.checked.prog.funcNamed Rows.stateFormsRow.func = some f) (hfn : Tryz.pinned.checked.prog.funcs[f]? = some fn) :
    false = Tryz.pinned.checked.prog.looks [] ∧ ∀ (j : Nat) t, fn.params[j]? = some t → Tryz.pinned.checked.prog.wantsStandIn t = false := by
  obtain rfl : f = 10 := Option.some.inj ((show Tryz.prog.funcNamed Rows.stateFormsRow.func = some 10 by kernel_rfl).symm.trans hf) |>.symm
  obtain rfl : fn = Tryz.f10 := (Option.some.inj (Tryz.func10.symm.trans hfn)).symm
  refine ⟨by kernel_rfl, fun j t ht => ?_⟩
  rw [Tryz.params10] at ht
  have hm := Array.mem_of_getElem? ht
  have hh : t = 53 ∨ t = 3 ∨ t = 9 := by simp at hm; first | (rcases hm with h | h | h <;> simp [h]) | (rcases hm with h | h | h <;> simp [h])
  rcases hh with rfl | rfl | rfl
  · exact (show Tryz.prog.wantsStandIn 53 = false by kernel_rfl)
  · exact (show Tryz.prog.wantsStandIn 3 = false by kernel_rfl)
  · exact (show Tryz.prog.wantsStandIn 9 = false by kernel_rfl)

theorem card : Rows.StateFormsCardSaid :=
  Claim7.holds_tied_plain_at .later [] _ _ _ _ said (fun _ h => by cases h) (by kernel_rfl) (fun _ h => by cases h) stateForms_row_tie rfl ⟨rfl, rfl⟩ (by kernel_rfl) rfl plain (by kernel_rfl)
end Go.Proofs.YtcpggmdiojaalaaGreatDoor.stateForms
