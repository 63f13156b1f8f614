import Derived.Test.YtpkifkpodaoicaaFv
import Derived.Deep.DeepCutAuto
import Derived.Deep.CutRange
import Derived.Deep.CutBlock
import Derived.Lib.QuietBelow
import Derived.Test.YtpkifkpodaoicaaMx
import Derived.Deep.RegionLaw
/- The walk of the law FieldMakes: it answers true. -/
set_option linter.unusedVariables false
set_option linter.unusedSimpArgs false
namespace Go.Proofs.Ytpkifkpodaoicaa.Js
open Go.RowKit Lex

set_option maxHeartbeats 8000000 in
set_option maxRecDepth 100000 in
theorem makes_walk (nv : Value) (names : List (List UInt8)) (rv : Value) (rs : List RT) (other : List UInt8) (w : World) (hN : StrsAt Any w nv names) (hR : RsAt w rv rs) : Calls Try.prog 4 #[nv, rv, .string ⟨other.toArray⟩] w (Ret (.bool true) w) := by
  have A1 := Lib.hid awake5_any
  obtain ⟨an, cn, rfl, hnc, hnm, _, hncl⟩ := id hN
  have HSN := Lib.hid hN
  have HNC := Lib.hid hncl
  obtain ⟨ro, rcap, rfl, hrc, hrm, hrl⟩ := hR
  have HRC : Hid (∀ q, q < rs.length → ∃ b off u, ro = some ⟨b, off, none⟩ ∧ b < w.heap.size ∧ LiesAt w b (off + q * 5) u ∧ ∀ n, RAt w n u (rs.getD q rt0)) := fun q hq => by
    obtain ⟨b, off, rfl, hbl, hel⟩ := hrl (by omega)
    obtain ⟨u, h1, h2⟩ := hel q (by omega)
    exact ⟨b, off, u, rfl, hbl, h1, h2⟩
  clear hrl hncl hN
  obtain ⟨m, HM⟩ : ∃ m, Hid (rs.length = m) := ⟨_, rfl⟩
  rw [HM.out] at hrc hrm HRC ⊢
  obtain ⟨nn, HNN⟩ : ∃ n, Hid (names.length = n) := ⟨_, rfl⟩
  rw [HNN.out] at hnc hnm HNC ⊢
  obtain ⟨i0, hi0, hz0, hz1, hz2⟩ := info_parts json_info
  go_enter Try.func4, Try.ntmps4
  go_upto_block 0 with (go_at_call 8; (with_reducible refine (A1.out _).mono ?_); rintro e1 w1 ⟨rfl, hb1⟩)
  have HB1 := Lib.hid hb1
  have HT0 : Hid (TI w w1.heap.size [] (its (rs.take 0)) (.slice none 0 0) (.slice none 0 0) w1) := ⟨HB1.out, HB1.out.size, ⟨[], own3_nil⟩, Nat.le_refl _⟩
  clear hb1
  go_cut [8] from 9 to 38 (fun s8 wx => Hid (TI w w1.heap.size [] (its (rs.take (min m 12))) (.slice none 0 0) s8 wx))
  case first =>
    go_wp2_with fail
    go_loopw [8, 9] (fun s8 i wr => ∃ (q : Nat), q ≤ m ∧ q ≤ 12 ∧ i = .int .i64 (q : Int) ∧ Hid (TI w w1.heap.size [] (its (rs.take q)) (.slice none 0 0) s8 wr)) (fun _ i _ => 13 - (intOf i).toNat)
    case atStart => exact ⟨0, Nat.zero_le _, Nat.zero_le _, rfl, HT0⟩
    case round =>
      clear HT0
      obtain ⟨q, hq1, hq2, rfl, HT⟩ := hrel
      by_cases hl1 : q < m
      · by_cases hl2 : q < 12
        · have a1 : (q : Int) < (m : Int) := by omega
          have a2 : (q : Int) < 12 := by omega
          obtain ⟨br, offr, u, rfl, hbr, hu1, hu2⟩ := HRC.out q hl1
          have F14 := Lib.hid (fun (w' : World) (hb : Below w.heap.size w w') => fit14 w' u _ (fun n => (hu2 n).below hb))
          unfold FRet at F14
          obtain ⟨k', m', e', ao', tl, c, ai', ni', ci', rfl, -⟩ := (hu2 0).form
          have HSI := Lib.hid (its_snoc (rs := rs) (q := q) (by rw [HM.out]; exact hl1))
          have hal : (its (rs.take q)).length ≤ 12 := by unfold its; simp; omega
          generalize its (rs.take q) = acc at *
          generalize rs.getD q rt0 = y at *
          have hbw := HT.out.bel
          have hbl1 := HT.out.lo
          have hbl2 := HT.out.hi
          obtain ⟨z0, z1, z2, z3, z4⟩ := (hu1.keep (hbw.block br hbr)).five
          have hbrr : br < wr.heap.size := Nat.lt_of_lt_of_le hbr hbw.size
          obtain ⟨vs, hO⟩ := HT.out.own
          obtain ⟨ao1, c1, rfl⟩ := own_slice hO.irow
          have HO := Lib.hid hO
          have HBW := Lib.hid hbw
          clear hO hu1 hu2 hbw
          go_wp2_with (first
            | (go_at_call 33; (with_reducible refine (F14.out _ HBW.out).mono ?_); rintro e3 w3 ⟨k3, m3, e3', t3, an3, nn3, cn3, ai3, ni3, ci3, rfl, hJ3, hb3⟩; have HO3 := Lib.hid (HO.out.below hb3 (Nat.le_refl _)); have HB3 := Lib.hid hb3; have HJ3 := Lib.hid hJ3; have hs3 := hb3.size; clear hb3 hJ3)
            | (at_builtin; (refine wpList_append_lies _ rfl _ _ 25 rfl w1.heap.size 27 i0 _ 6 88 Try.underlying25 hi0 hz0 hz1 hz2 rfl (by omega) _ acc.length (vs.flatMap aggC) rfl (HO3.out.irow.alloc _) ⟨w3.heap.size, 0, none⟩ 1 1 [.int .i64 k3, .int .i64 m3, .int .i64 e3', .string t3, .slice an3 nn3 cn3, .slice ai3 ni3 ci3] rfl rfl (World.news_of_block (cs := #[.int .i64 k3, .int .i64 m3, .int .i64 e3', .string t3, .slice an3 nn3 cn3, .slice ai3 ni3 ci3]) (t := 27) (fr := (0, 0)) (heap_alloc_new _ _)) (by simp [Value.oneCell']) (by omega) (by unfold maxLen; omega) (by omega) (by simp; omega) (w3.heap.size + 1) (by simp) ?_); intro g2 cp2 w4 hown2 hgrow2 hat2 hlt2; have HT4 := Lib.hid (HT.out.item HO.out HB3.out hgrow2 (belowOne _ _) (hat2.imp id (fun h => by omega)) hown2 HJ3.out); clear hown2 hgrow2 hat2))
          go_roundw
          case rel =>
            refine ⟨q + 1, by omega, by omega, by go_num, ?_⟩
            rw [HSI.out]
            exact HT4
          case measure => simp [intOf]; omega
        · obtain rfl : q = 12 := by omega
          have a1 : (12 : Int) < (m : Int) := by omega
          go_wp2_with fail
          go_meet
          rw [show min m 12 = 12 by omega]
          exact HT
      · obtain rfl : q = m := by omega
        go_wp2_with fail
        go_meet
        rw [show min q 12 = q by omega]
        exact HT
  case rest =>
    have hT := hcut.out
    have hal : (its (rs.take (min m 12))).length ≤ 12 := by unfold its; simp; omega
    generalize its (rs.take (min m 12)) = acc at *
    obtain ⟨vs, hO⟩ := hT.own
    obtain ⟨ai1, ci1, rfl⟩ := own_slice hO.irow
    have HBc := Lib.hid hT.bel
    have HIT : Hid (ItemsAt Any wc 15 ai1 acc) := hO.its.2.2
    have hci := hO.its.2.1
    have hM1 := make5_any Any Any 15 wc an cn ai1 ci1 names acc (HSN.out.below HBc.out (Nat.le_refl _)) (by omega) hO.its.2.1 hO.its.2.2 (by omega)
    rw [HNN.out] at hM1
    unfold CRet at hM1
    have M1 := Lib.hid hM1
    obtain ⟨na, HNA⟩ : ∃ n, Hid (acc.length = n) := ⟨_, rfl⟩
    rw [HNA.out] at M1 hal hci ⊢
    clear hcut hT hO HT0 HRC hM1 HB1
    have hjf := mkJ_form names acc
    have HGO := Lib.hid (show (getS (mkJ names acc) other).2 = (names.take (min names.length acc.length)).contains other by rw [getS_make]; exact asc_some names acc other)
    have HFD := Lib.hid (fun (i F : Nat) (h : FP names i (-1) F) (h1 : i < names.length) (h2 : i < acc.length) => h.done h1 h2)
    rw [HNN.out, HNA.out] at HGO HFD
    generalize mkJ names acc = jv at *
    obtain ⟨L, HL⟩ : ∃ L, Hid (min nn na = L) := ⟨_, rfl⟩
    have hmin : min (nn : Int) (na : Int) = (L : Int) := by have := HL.out; omega
    have hL1 : L ≤ nn := by have := HL.out; omega
    have hL2 : L ≤ na := by have := HL.out; omega
    rw [HL.out] at HGO
    obtain ⟨k0, m0, e0, t0, ns0, is0⟩ := jv
    obtain ⟨hk7, hlen0⟩ := hjf
    change k0 = 7 at hk7
    change ns0.length = is0.length at hlen0
    subst hk7
    go_wp2_with (go_at_call 9; (with_reducible refine (M1.out).mono ?_); rintro e2 w2 ⟨k2, m2, e2', t2, an2, nn2, cn2, ai2, ni2, ci2, rfl, hJ2, hb2⟩; obtain ⟨_, _, _, _, _, -, hJe, -⟩ := hJ2.open_; simp only [Value.agg.injEq, Array.mk.injEq, List.cons.injEq, Value.int.injEq, Value.slice.injEq, and_true, true_and] at hJe; obtain ⟨rfl, -, -, -, ⟨-, rfl, -⟩, -, rfl, -⟩ := hJe; have HV3 : Hid (VI wc w2.heap.size #[.int .i64 7, .int .i64 m2, .int .i64 e2', .string t2, .slice an2 ns0.length cn2, .slice ai2 is0.length ci2] (.mk 7 m0 e0 t0 ns0 is0) (w2.alloc (.cells #[.int .i64 7, .int .i64 m2, .int .i64 e2', .string t2, .slice an2 ns0.length cn2, .slice ai2 is0.length ci2] 27))) := ⟨hb2.trans ((belowOne _ _).mono hb2.size), heap_alloc_new _ _, (hJ2.any).below (belowOne _ _) (Nat.le_refl _)⟩)
    clear M1 hJ2 hb2
    rw [hlen0] at HV3
    try rw [hlen0]
    generalize is0.length = N0 at *
    generalize (J.mk 7 m0 e0 t0 ns0 is0) = jv at *
    obtain ⟨X, HX⟩ : ∃ X : Array Value, Hid (X = #[.int .i64 7, .int .i64 m2, .int .i64 e2', .string t2, .slice an2 N0 cn2, .slice ai2 N0 ci2]) := ⟨_, rfl⟩
    generalize w2.alloc (.cells #[.int .i64 7, .int .i64 m2, .int .i64 e2', .string t2, .slice an2 N0 cn2, .slice ai2 N0 ci2] 27) = w3 at *
    generalize w2.heap.size = bb at *
    rw [← HX.out] at HV3
    have HC : Hid (∀ p, p < nn → ∃ b off, an = some ⟨b, off, none⟩ ∧ b < wc.heap.size ∧ wc.cell? ⟨b, off + p, none⟩ = some (strW (names.getD p []))) := fun p hp => by
      obtain ⟨b, off, rfl, _, hbl, hel⟩ := HNC.out (by omega)
      exact ⟨b, off, rfl, Nat.lt_of_lt_of_le hbl HBc.out.size, (World.cell?_of_block (w := w) (a := ⟨b, off + p, none⟩) (HBc.out.block b hbl)).trans (hel p hp)⟩
    clear HNC HSN
    go_loopw [12, 13] (fun s12 i wr => ∃ (q : Nat), q ≤ L ∧ s12 = .bool ((names.take q).contains other) ∧ i = .int .i64 (q : Int) ∧ Hid (VI wc bb X jv wr)) (fun _ i _ => L - (intOf i).toNat)
    case atStart => exact ⟨0, Nat.zero_le _, rfl, rfl, HV3⟩
    case round =>
      clear HV3
      obtain ⟨q, hqL, rfl, rfl, HI⟩ := hrel
      by_cases hlt : q < L
      · have a1 : (q : Int) < (L : Int) := by omega
        have a2 : (q : Int) < (nn : Int) := by omega
        have a3 : (q : Int) < (na : Int) := by omega
        obtain ⟨bn, on, rfl, hbn, hxq⟩ := HC.out q (by omega)
        have hbnr : bn < wr.heap.size := Nat.lt_of_lt_of_le hbn HI.out.bel.size
        have xq := (World.cell?_of_block (w := wc) (a := ⟨bn, on + q, none⟩) (HI.out.bel.block bn hbn)).trans hxq
        have HCS := Lib.hid (contains_snoc (xs := names) (q := q) (by rw [HNN.out]; omega) other)
        have HXQ := Lib.hid hxq
        unfold strW at xq
        clear hxq
        go_upto_region 13 with fail
        go_cut [12] from 52 to 60 (fun s12 wx => s12 = .bool ((names.take (q + 1)).contains other) ∧ wr = wx)
        case first =>
          obtain ⟨b0, HB0⟩ : ∃ b, Hid ((names.take q).contains other = b) := ⟨_, rfl⟩
          rw [HB0.out]
          have HCT := Lib.hid HCS.out
          rw [HB0.out] at HCT
          generalize names.getD q [] = xn at *
          generalize (names.take (q + 1)).contains other = cq at *
          cases b0 with
          | true =>
            go_wp2_with fail
            go_meet
            exact ⟨by rw [HCT.out]; rfl, rfl⟩
          | false =>
            by_cases hx : xn = other
            · subst hx
              go_wp2_with fail
              go_meet
              exact ⟨by rw [HCT.out]; simp, rfl⟩
            · have hne : (xn == other) = false := by simpa using hx
              have HXX := Lib.hid hx
              clear hx
              go_wp2_with fail
              go_meet
              exact ⟨by rw [HCT.out]; simpa using HXX.out, rfl⟩
        case rest =>
          obtain ⟨rfl, rfl⟩ := hcut
          clear HCS xq
          go_wp2_with fail
          go_loopw [14, 15] (fun s14 s15 wx => ∃ (k : Int) (F : Nat), -1 ≤ k ∧ k ≤ q ∧ F ≤ q ∧ s14 = .int .i64 (F : Int) ∧ s15 = .int .i64 k ∧ Hid (FP names q k F) ∧ Hid (VI wc bb X jv wx)) (fun _ k _ => (intOf k + 1).toNat)
          case atStart => exact ⟨q, q, by omega, by omega, Nat.le_refl _, rfl, rfl, FP.begin _ _, HI⟩
          case round =>
            clear HI
            obtain ⟨k, F, hk0, hk1, hF, rfl, rfl, HP, HI2⟩ := hrel
            by_cases hk : 0 ≤ k
            · obtain ⟨p, rfl⟩ : ∃ p : Nat, k = p := ⟨k.toNat, by omega⟩
              obtain ⟨b', off', he, _, hxp⟩ := HC.out p (by omega)
              simp only [Option.some.injEq, Addr.mk.injEq, and_true] at he
              obtain ⟨rfl, rfl⟩ := he
              have xp := (World.cell?_of_block (w := wc) (a := ⟨bn, on + p, none⟩) (HI2.out.bel.block bn hbn)).trans hxp
              have xq := (World.cell?_of_block (w := wc) (a := ⟨bn, on + q, none⟩) (HI2.out.bel.block bn hbn)).trans HXQ.out
              have b1 : (p : Int) < (nn : Int) := by omega
              have b2 : (0 : Int) ≤ (p : Int) := by omega
              have hbw : bn < wr.heap.size := Nat.lt_of_lt_of_le hbn HI2.out.bel.size
              unfold strW at xp xq
              clear hxp
              have HPP := Lib.hid (fun (e : names.getD p [] = names.getD q []) => HP.out.yes (by omega) e)
              have HPN := Lib.hid (fun (e : names.getD p [] ≠ names.getD q []) => HP.out.no e)
              generalize names.getD p [] = xa at *
              generalize names.getD q [] = xb at *
              by_cases hx : xa = xb
              · subst hx
                have HP2 := Lib.hid (HPP.out rfl)
                clear HPP HPN HP
                go_wp2_with fail
                go_quiet (fail)
                go_wp2_with fail
                refine ⟨⟨(p : Int) - 1, p, by omega, by omega, by omega, rfl, rfl, HP2.out, HI2.out.below (bdrewN (Below.refl _ _) _)⟩, by simp [intOf]⟩
              · have hne : (xa == xb) = false := by simpa using hx
                have HXX := Lib.hid hx
                clear hx
                go_wp2_with fail
                go_quiet (fail)
                go_wp2_with fail
                first
                  | refine ⟨⟨(p : Int) - 1, F, by omega, by omega, by omega, rfl, rfl, HPN.out HXX.out, HI2.out.below (bdrewN (Below.refl _ _) _)⟩, by simp [intOf]⟩
                  | (go_roundw; first | exact ⟨(p : Int) - 1, F, by omega, by omega, by omega, rfl, rfl, HPN.out HXX.out, HI2.out.below (bdrewN (Below.refl _ _) _)⟩ | simp [intOf])
            · obtain rfl : k = -1 := by omega
              have HG := Lib.hid (HFD.out q F HP.out (by omega) (by omega))
              clear HP
              have xq := (World.cell?_of_block (w := wc) (a := ⟨bn, on + q, none⟩) (HI2.out.bel.block bn hbn)).trans HXQ.out
              unfold strW at xq
              have HIL := Lib.hid HI2.out
              rw [HX.out] at HIL
              have hG1 := fun (w' : World) (h : VI wc bb #[.int .i64 7, .int .i64 m2, .int .i64 e2', .string t2, .slice an2 N0 cn2, .slice ai2 N0 ci2] jv w') => get5_any Any 16 _ jv (names.getD q []) w' h.jat
              rw [HG.out] at hG1
              unfold GRet at hG1
              have GA := Lib.hid (hG1 wr.drew (HIL.out.below (Below.refl _ _).drew))
              have GB := Lib.hid (hG1 (wr.alloc (.cells #[.int .i64 0, .int .i64 0, .int .i64 0, .string ⟨#[]⟩, .slice none 0 0, .slice none 0 0] 27)).drew ((HIL.out.alloc _).below (Below.refl _ _).drew))
              clear hG1
              generalize names.getD q [] = xn at *
              obtain ⟨y, HY⟩ : ∃ y, Hid (acc.getD F j0 = y) := ⟨_, rfl⟩
              rw [HY.out] at GA GB
              obtain ⟨v0, v1, v2, v3, v4, v5⟩ := six_of HIL.out.box
              have hbbl := Own.block_lt HIL.out.box
              have hbnw : bn < wr.heap.size := Nat.lt_of_lt_of_le hbn HI2.out.bel.size
              go_wp2_with fail
              go_cut [16, 17] from 77 to 85 (fun s16 s17 wy => s17 = .bool true ∧ Hid (V2 wc bb #[.int .i64 7, .int .i64 m2, .int .i64 e2', .string t2, .slice an2 N0 cn2, .slice ai2 N0 ci2] jv y s16 wy))
              case first =>
                go_region_law (first
                  | (go_simp; go_at_call 12; (with_reducible refine (GA.out).mono ?_); rintro e5 w5 ⟨k5, m5, e5', t5, an5, nn5, cn5, ai5, ni5, ci5, rfl, hJ5, hb5⟩; have HB5 := Lib.hid (((Below.refl _ _).drew).trans hb5 : Below wr.heap.size wr w5); have HJ5 := Lib.hid hJ5)
                  | (go_simp; go_at_call 12; (with_reducible refine (GB.out).mono ?_); rintro e5 w5 ⟨k5, m5, e5', t5, an5, nn5, cn5, ai5, ni5, ci5, rfl, hJ5, hb5⟩; have HZ5 := Lib.hid ((hb5.block _ (by show wr.heap.size < (wr.alloc (.cells #[.int .i64 0, .int .i64 0, .int .i64 0, .string ⟨#[]⟩, .slice none 0 0, .slice none 0 0] 27)).heap.size; simp)).trans (heap_alloc_new wr (.cells #[.int .i64 0, .int .i64 0, .int .i64 0, .string ⟨#[]⟩, .slice none 0 0, .slice none 0 0] 27)) : w5.heap[wr.heap.size]? = some (.cells #[.int .i64 0, .int .i64 0, .int .i64 0, .string ⟨#[]⟩, .slice none 0 0, .slice none 0 0] 27)); obtain ⟨⟨z0, z1, z2, z3, z4, z5⟩, g0, g1, g2, g3, g4, g5⟩ := twelve_of HZ5.out; have HB5 := Lib.hid (((((Below.refl _ _).alloc (Nat.le_refl _) _).drew).trans (hb5.mono (by show wr.heap.size ≤ (wr.alloc (.cells #[.int .i64 0, .int .i64 0, .int .i64 0, .string ⟨#[]⟩, .slice none 0 0, .slice none 0 0] 27)).heap.size; simp))) : Below wr.heap.size wr w5); have HJ5 := Lib.hid hJ5))
                all_goals go_wp2_with fail
                all_goals go_meet
                all_goals first
                  | (with_reducible exact ⟨rfl, Lib.hid (V2.ofA HIL.out HB5.out HJ5.out)⟩)
                  | (with_reducible exact ⟨rfl, Lib.hid (V2.ofB HIL.out HB5.out HZ5.out HJ5.out)⟩)
              case rest =>
                obtain ⟨rfl, hv2⟩ := hcut
                obtain ⟨bx, k6, m6, e6, t6, an6, nn6, cn6, ai6, ni6, ci6, rfl, hVI, hbx, hJ6⟩ := hv2.out
                have HVI := Lib.hid hVI
                clear hv2 GA GB v0 v1 v2 v3 v4 v5 xq hbbl hbnw HI2 HIL
                obtain ⟨bi, oi, c0, c1, c2, c3, c4, c5, rfl, hbi, hli, hJi⟩ := item_at (P := (F : Int)) HIT.out (by omega) (by rw [HNA.out]; omega)
                rw [show ((F : Int)).toNat = F from rfl, HY.out] at hJi
                rw [show ((F : Int)).toNat = F from rfl] at hli
                obtain ⟨k7, m7, e7, t7, an7, nn7, cn7, ai7, ni7, ci7, he7⟩ := jAt_form hJi
                simp only [Value.agg.injEq, Array.mk.injEq, List.cons.injEq, and_true] at he7
                obtain ⟨rfl, rfl, rfl, rfl, rfl, rfl⟩ := he7
                have SA := Lib.hid (fun (w' : World) (hb : Below wc.heap.size wc w') => rsame_of Any Any _ _ y y w' ⟨16, hJ6.below hb (Nat.le_refl _)⟩ ⟨15, (hJi.below HVI.out.bel (Nat.le_refl _)).below hb (Nat.le_refl _)⟩)
                rw [sameJ_refl] at SA
                obtain ⟨x0, x1, x2, x3, x4, x5⟩ := six_of hbx
                obtain ⟨y0, y1, y2, y3, y4, y5⟩ := (hli.keep (HVI.out.bel.block bi hbi)).six
                have rx0 := cell_regrown x0
                have rx1 := cell_regrown x1
                have rx2 := cell_regrown x2
                have rx3 := cell_regrown x3
                have rx4 := cell_regrown x4
                have rx5 := cell_regrown x5
                have ry0 := cell_regrown y0
                have ry1 := cell_regrown y1
                have ry2 := cell_regrown y2
                have ry3 := cell_regrown y3
                have ry4 := cell_regrown y4
                have ry5 := cell_regrown y5
                have cSA := Lib.hid (fun (d : Nat) (os : Array Obj) => Calls.regrown_of (SA.out _ (below_regrown wc d os)))
                have hF3 : (F : Int) < (na : Int) := by omega
                clear SA x0 x1 x2 x3 x4 x5 y0 y1 y2 y3 y4 y5 hVI hbx hJ6 hli hJi
                go_wp2_with fail
                refine wp_region_quiet_below mixed5 (by kernel_rfl) ?_
                repeat (quiet_step (with_reducible exact cSA.out _ _))
                refine wpQuiet_nil ?_
                intro _ hw'
                obtain ⟨⟨dq, osq⟩, hw''⟩ := hw'
                subst hw''
                go_wp2_with fail
                have HV9 := HVI.out.below (below_regrown wc dq osq)
                rw [← HX.out] at HV9
                go_roundw
                case rel => exact ⟨q + 1, by omega, by simp, by go_num, HV9⟩
                case measure => simp [intOf]; omega
      · obtain rfl : q = L := by omega
        have hG1 := fun (w' : World) (h : VI wc bb X jv w') => get5_any Any 16 _ jv other w' h.jat
        unfold GRet at hG1
        rw [HGO.out] at hG1
        have hG0 := hG1 wr HI.out
        rw [HX.out] at hG0
        have G1 := Lib.hid hG0
        clear hG0
        have hbx := HI.out.box
        rw [HX.out] at hbx
        obtain ⟨x0, x1, x2, x3, x4, x5⟩ := six_of hbx
        have HBX := Lib.hid hbx
        clear hG1 hbx HC
        generalize (names.take q).contains other = bo at *
        have hll := HI.out.bel.size
        cases bo
        all_goals
          go_wp2_with (go_at_call 12; (with_reducible refine (G1.out).mono ?_); rintro e5 w5 ⟨k5, m5, e5', t5, an5, nn5, cn5, ai5, ni5, ci5, rfl, hJ5, hb5⟩; obtain ⟨y0, y1, y2, y3, y4, y5⟩ := six_of ((hb5.block _ (Own.block_lt HBX.out)).trans HBX.out); have hl5 := Nat.lt_of_lt_of_le (Own.block_lt HBX.out) hb5.size)
          trace_state
          go_ret
          exact ⟨by first | rfl | simp, HBc.out.trans ((HI.out.bel.trans ((hb5.trans ((belowOne _ _).mono hb5.size)).mono hll)).mono HBc.out.size)⟩
end Go.Proofs.Ytpkifkpodaoicaa.Js
