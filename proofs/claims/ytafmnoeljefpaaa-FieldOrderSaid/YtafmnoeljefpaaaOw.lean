import Derived.Test.YtafmnoeljefpaaaFv
import Derived.Test.YtafmnoeljefpaaaFq
import Derived.Test.YtafmnoeljefpaaaOr
import Derived.Test.YtafmnoeljefpaaaRg
import Derived.Test.YtafmnoeljefpaaaMx
import Derived.Deep.DeepCutAuto
import Derived.Deep.CutRange
import Derived.Deep.CutBlock
/- The walk of the law FieldOrder: it answers true. -/
set_option linter.unusedVariables false
set_option linter.unusedSimpArgs false
namespace Go.Proofs.Ytafmnoeljefpaaa.Js
open Go.RowKit Lex

set_option maxHeartbeats 8000000 in
set_option maxRecDepth 100000 in
theorem order_walk (sv : Value) (fs0 : List Fd) (rv : Value) (rs : List RT) (more : List UInt8) (xv : Value) (x : RT) (w : World) (hF0 : FdsAt w sv fs0) (hR0 : RsAt w rv rs) (hmo : txtB more) (hX0 : ∀ n, RAt w n xv x) : Calls Try.prog 3 #[sv, rv, .string ⟨more.toArray⟩, xv] w (Ret (.bool true) w) := by
  have A1 := Lib.hid awake5_any
  obtain ⟨xk, xm, xe, xao, xtl, xc, xai, xni, xci, rfl, -⟩ := (hX0 0).form
  have HB0 : Hid (Below w.heap.size w (w.alloc (.cells #[.int .i64 xk, .int .i64 xm, .int .i64 xe, .slice xao xtl xc, .slice xai xni xci] 26))) := belowOne _ _
  have hF := hF0.below HB0.out
  have hR := hR0.below HB0.out
  have HX : Hid (∀ n, RAt (w.alloc (.cells #[.int .i64 xk, .int .i64 xm, .int .i64 xe, .slice xao xtl xc, .slice xai xni xci] 26)) n _ x) := fun n => (hX0 n).below HB0.out
  have HBX : Hid ((w.alloc (.cells #[.int .i64 xk, .int .i64 xm, .int .i64 xe, .slice xao xtl xc, .slice xai xni xci] 26)).heap[w.heap.size]? = some (.cells #[.int .i64 xk, .int .i64 xm, .int .i64 xe, .slice xao xtl xc, .slice xai xni xci] 26 (0, 0))) := heap_alloc_new _ _
  clear hF0 hR0 hX0
  obtain ⟨wb, hwb⟩ : ∃ u, w.alloc (.cells #[.int .i64 xk, .int .i64 xm, .int .i64 xe, .slice xao xtl xc, .slice xai xni xci] 26) = u := ⟨_, rfl⟩
  rw [hwb] at HB0 HX HBX hF hR
  have hbn : w.heap.size < wb.heap.size := Own.block_lt HBX.out
  obtain ⟨ao, cap, rfl, hc, hmx, _, _⟩ := id hF
  obtain ⟨n0, HN0⟩ : ∃ n, Hid (fs0.length = n) := ⟨_, rfl⟩
  have HF : Hid (FdsAt wb (.slice ao (min n0 8) cap) (fs0.take (min n0 8))) := by
    have h := hF.take8 (min n0 8) (by rw [HN0.out]; omega)
    exact h
  have HLs : Hid ((fs0.take (min n0 8)).length = min n0 8) := by show _ = _; simp; rw [HN0.out]; omega
  rw [HN0.out] at hc hmx ⊢
  clear hF
  generalize fs0.take (min n0 8) = fs at *
  obtain ⟨n, Hn⟩ : ∃ n, Hid (min n0 8 = n) := ⟨_, rfl⟩
  have hn8 : n ≤ 8 := by have := Hn.out; omega
  have hnc : n ≤ cap := by have := Hn.out; omega
  have hcase : (n0 ≤ 8 ∧ n0 = n) ∨ (8 < n0 ∧ n = 8) := by have := Hn.out; omega
  have HCASE := Lib.hid hcase
  rw [Hn.out] at HF HLs
  clear hcase
  obtain ⟨ro, rcap, rfl, hrc, hrm, hrl⟩ := hR
  have HRL := Lib.hid hrl
  clear hrl
  obtain ⟨m, HM⟩ : ∃ m, Hid (rs.length = m) := ⟨_, rfl⟩
  rw [HM.out] at hrc hrm HRL ⊢
  obtain ⟨i0, hi0, hz0, hz1, hz2⟩ := info_parts json_info
  obtain ⟨i1, hi1, hx0, hx1, hx2⟩ := info_parts str_info2
  have HFC : Hid (∀ q, q < n → ∃ b off, ao = some ⟨b, off, none⟩ ∧ b < wb.heap.size ∧ LiesAt wb b (off + q * 5) (fdV (fs.getD q fd0)) ∧ (fs.getD q fd0).good) := fun q hq => by
    obtain ⟨_, _, e, _, _, hgd, hcl⟩ := HF.out
    simp only [Value.slice.injEq] at e
    obtain ⟨rfl, _, rfl⟩ := e
    obtain ⟨b, off, rfl, hbl, hel⟩ := hcl (by rw [HLs.out]; omega)
    exact ⟨b, off, rfl, hbl, hel q (by rw [HLs.out]; exact hq), hgd _ (by rw [List.getD_eq_getElem?_getD, List.getElem?_eq_getElem (by rw [HLs.out]; exact hq)]; exact List.getElem_mem _)⟩
  have HRC : Hid (∀ q, q < m → ∃ b off u, ro = some ⟨b, off, none⟩ ∧ b < wb.heap.size ∧ LiesAt wb b (off + q * 5) u ∧ ∀ n, RAt wb n u (rs.getD q rt0)) := fun q hq => by
    obtain ⟨b, off, rfl, hbl, hel⟩ := HRL.out (by omega)
    obtain ⟨u, h1, h2⟩ := hel q (by omega)
    exact ⟨b, off, u, rfl, hbl, h1, h2⟩
  clear HRL
  go_enter Try.func3, Try.ntmps3
  go_upto_region 1 with fail
  clear hwb
  go_upto_if 22 with (go_at_call 4; (with_reducible refine (A1.out _).mono ?_); rintro e1 w1 ⟨rfl, hb1⟩)
  have HB1 := Lib.hid hb1
  clear hb1
  go_cut [0] from 22 to 24 (fun s0 wx => s0 = .slice ao n cap ∧ w1 = wx)
  case first =>
    rcases HCASE.out with ⟨h1, h2⟩ | ⟨h1, h2⟩
    · subst h2
      have h3 : ¬ (8 : Int) < (n0 : Int) := by omega
      go_wp2_with fail
      go_meet
      exact ⟨rfl, rfl⟩
    · subst h2
      have h3 : (8 : Int) < (n0 : Int) := by omega
      go_wp2_with fail
      go_meet
      exact ⟨rfl, rfl⟩
  case rest =>
    obtain ⟨rfl, rfl⟩ := hcut
    have hT0 : TL wb w1.heap.size fs rs 0 (.slice none 0 0) (.slice none 0 0) w1 := ⟨HB1.out, HB1.out.size, ⟨[], own3_nil⟩, Nat.le_refl _⟩
    have HT0 := Lib.hid hT0
    clear hT0
    go_upto_block 0 with fail
    go_cut [10, 11] from 12 to 60 (fun s6 s7 wx => Hid (TL wb w1.heap.size fs rs (min n m) s6 s7 wx))
    case first =>
      go_wp2_with fail
      go_loopw [10, 11, 12] (fun s6 s7 i wr => ∃ (q : Nat), q ≤ n ∧ q ≤ m ∧ i = .int .i64 (q : Int) ∧ Hid (TL wb w1.heap.size fs rs q s6 s7 wr)) (fun _ _ i _ => n - (intOf i).toNat)
      case atStart => exact ⟨0, Nat.zero_le _, Nat.zero_le _, rfl, HT0⟩
      case round =>
        clear HT0
        obtain ⟨q, hq1, hq2, rfl, HT⟩ := hrel
        by_cases hl1 : q < n
        · by_cases hl2 : q < m
          · have a1 : (q : Int) < (n : Int) := by omega
            have a2 : (q : Int) < (m : Int) := by omega
            obtain ⟨b, off, rfl, hbl, hu, hgd⟩ := HFC.out q hl1
            obtain ⟨br, offr, u, rfl, hbr, hu1, hu2⟩ := HRC.out q hl2
            have HNM : Hid (txtB (fs.getD q fd0).nm) := hgd.1
            have F14 := Lib.hid (fun (w' : World) (hb : Below wb.heap.size wb w') => fit14 w' u _ (fun n => (hu2 n).below hb))
            unfold FRet at F14
            obtain ⟨k', m', e', ao', tl, c, ai', ni', ci', rfl, -⟩ := (hu2 0).form
            have HSN := Lib.hid (nms_snoc (fs := fs) (q := q) (by rw [HLs.out]; exact hl1))
            have HSI := Lib.hid (its_snoc (rs := rs) (q := q) (by rw [HM.out]; exact hl2))
            have HTI : Hid (TI wb w1.heap.size (nms (fs.take q)) (its (rs.take q)) u10 u11 wr) := HT.out
            have hnl : (nms (fs.take q)).length ≤ 8 := by unfold nms; simp; omega
            have hal : (its (rs.take q)).length ≤ 8 := by unfold its; simp; omega
            generalize nms (fs.take q) = ns at *
            generalize its (rs.take q) = acc at *
            generalize rs.getD q rt0 = y at *
            generalize fs.getD q fd0 = f at *
            obtain ⟨nm, fk, lo, hi, fr⟩ := f
            unfold fdV at hu
            have hbw := HTI.out.bel
            have hbl1 := HTI.out.lo
            have hbl2 := HTI.out.hi
            obtain ⟨x0, x1, x2, x3, x4⟩ := (hu.keep (hbw.block b hbl)).five
            have HV := Lib.hid hu1
            obtain ⟨vs, hO⟩ := HTI.out.own
            obtain ⟨ao1, c1, rfl⟩ := own_slice hO.irow
            obtain ⟨an1, cn1, rfl⟩ := own_slice hO.nrow
            have HO := Lib.hid hO
            clear hO hu hu1 hu2 HT hgd hbw
            by_cases hnm : nm = more
            · subst hnm
              go_wp2_with fail
              go_ret
              exact ⟨rfl, HB0.out.trans (HTI.out.bel.mono (Nat.le_of_lt hbn))⟩
            · have hne : (nm == more) = false := by simpa using hnm
              clear hnm
              go_wp2_with (first
                | (at_builtin; (refine wpList_append_lies _ rfl _ _ 28 rfl w1.heap.size 9 i1 _ 1 16 Try.underlying28 hi1 hx0 hx1 hx2 rfl (by omega) _ ns.length (ns.map strW) rfl (HO.out.nrow.alloc _) ⟨wr.heap.size, 0, none⟩ 1 1 [.string ⟨nm.toArray⟩] rfl rfl (World.news_of_block (cs := #[.string ⟨nm.toArray⟩]) (t := 9) (fr := (0, 0)) (heap_alloc_new _ _)) (by simp [Value.oneCell']) (by omega) (by unfold maxLen; omega) (by omega) (by simp; omega) (wr.heap.size + 1) (by simp) ?_); intro g cp w2 hown hgrow hat hlt; have HT2 := Lib.hid (HTI.out.name hgrow (belowOne _ _) (hat.imp id (fun h => by omega)) HNM.out hown); have HB2 := Lib.hid HT2.out.bel; obtain ⟨z0, z1, z2, z3, z4⟩ := (HV.out.keep (HB2.out.block br hbr)).five; clear hown hgrow hat x0 x1 x2 x3 x4)
                | (go_at_call 5; (with_reducible refine (F14.out _ HB2.out).mono ?_); rintro e3 w3 ⟨k3, m3, e3', t3, an3, nn3, cn3, ai3, ni3, ci3, rfl, hJ3, hb3⟩; obtain ⟨vs2, hO2⟩ := HT2.out.own; have HO2 := Lib.hid hO2; have HO3 := Lib.hid (hO2.below hb3 (Nat.le_refl _)); have HB3 := Lib.hid hb3; have HJ3 := Lib.hid hJ3; have hs3 := hb3.size; have hlo3 := HT2.out.hi; clear hO2 hb3 hJ3)
                | (at_builtin; (refine wpList_append_lies _ rfl _ _ 29 rfl w1.heap.size 35 i0 _ 6 88 Try.underlying29 hi0 hz0 hz1 hz2 rfl (by omega) _ acc.length (vs2.flatMap aggC) rfl (HO3.out.irow.alloc _) ⟨w3.heap.size, 0, none⟩ 1 1 [.int .i64 k3, .int .i64 m3, .int .i64 e3', .string t3, .slice an3 nn3 cn3, .slice ai3 ni3 ci3] rfl rfl (World.news_of_block (cs := #[.int .i64 k3, .int .i64 m3, .int .i64 e3', .string t3, .slice an3 nn3 cn3, .slice ai3 ni3 ci3]) (t := 35) (fr := (0, 0)) (heap_alloc_new _ _)) (by simp [Value.oneCell']) (by omega) (by unfold maxLen; omega) (by omega) (by simp; omega) (w3.heap.size + 1) (by simp) ?_); intro g2 cp2 w4 hown2 hgrow2 hat2 hlt2; have HT4 := Lib.hid (HT2.out.item HO2.out HB3.out hgrow2 (belowOne _ _) (hat2.imp id (fun h => by omega)) hown2 HJ3.out); clear hown2 hgrow2 hat2))
              go_roundw
              case rel =>
                refine ⟨q + 1, by omega, by omega, by go_num, ?_⟩
                show TI _ _ _ _ _ _ _
                rw [HSN.out, HSI.out]
                exact HT4.out
              case measure => simp [intOf]; omega
          · obtain rfl : q = m := by omega
            have a1 : (q : Int) < (n : Int) := by omega
            go_wp2_with fail
            go_meet
            rw [show min n q = q by omega]
            exact HT
        · obtain rfl : q = n := by omega
          go_wp2_with fail
          go_meet
          rw [show min q m = q by omega]
          exact HT
    case rest =>
      have hT : TI wb w1.heap.size (nms (fs.take (min n m))) (its (rs.take (min n m))) u10 u11 wc := hcut.out
      have HTc := Lib.hid hT
      have hbw := hT.bel
      clear hcut hT HT0
      go_upto_block 2 with fail
      go_cut [] from 13 to 74 (fun wx => Hid (∀ p, p < n → (fs.getD p fd0).nm ≠ more) ∧ wc = wx)
      case first =>
        go_wp2_with fail
        go_loopw [13] (fun i wr => ∃ (q : Nat), q ≤ n ∧ i = .int .i64 (q : Int) ∧ Hid (∀ p, p < q → (fs.getD p fd0).nm ≠ more) ∧ wc = wr) (fun i _ => n - (intOf i).toNat)
        case atStart => exact ⟨0, Nat.zero_le _, rfl, fun p hp => absurd hp (by omega), rfl⟩
        case round =>
          obtain ⟨q, hq1, rfl, HN, rfl⟩ := hrel
          by_cases hl1 : q < n
          · have a1 : (q : Int) < (n : Int) := by omega
            obtain ⟨b, off, rfl, hbl, hu, hgd⟩ := HFC.out q hl1
            have HNE : Hid ((fs.getD q fd0).nm ≠ more → ∀ p, p < q + 1 → (fs.getD p fd0).nm ≠ more) := fun h p hp => by
              by_cases e : p = q
              · subst e; exact h
              · exact HN.out p (by omega)
            generalize fs.getD q fd0 = f at *
            obtain ⟨nm, fk, lo, hi, fr⟩ := f
            unfold fdV at hu
            obtain ⟨x0, x1, x2, x3, x4⟩ := (hu.keep (hbw.block b hbl)).five
            clear hu hgd HFC HRC
            by_cases hnm : nm = more
            · subst hnm
              go_wp2_with fail
              go_ret
              exact ⟨rfl, HB0.out.trans (hbw.mono (Nat.le_of_lt hbn))⟩
            · have hne : (nm == more) = false := by simpa using hnm
              have HNF := Lib.hid (HNE.out hnm)
              clear hnm HNE
              go_wp2_with fail
              go_roundw
              case rel => exact ⟨q + 1, by omega, by go_num, HNF, trivial⟩
              case measure => simp [intOf]; omega
          · obtain rfl : q = n := by omega
            go_wp2_with fail
            go_meet
            exact ⟨HN, rfl⟩
      case rest =>
        obtain ⟨HNF, rfl⟩ := hcut
        have hT := HTc.out
        have hnl : (nms (fs.take (min n m))).length ≤ 8 := by unfold nms; simp; omega
        have hal : (its (rs.take (min n m))).length ≤ 8 := by unfold its; simp; omega
        have HNA : Hid ((nms (fs.take (min n m))).length = (its (rs.take (min n m))).length) := by
          show _ = _
          unfold nms its
          simp [HLs.out, HM.out]
        generalize nms (fs.take (min n m)) = ns at *
        generalize its (rs.take (min n m)) = acc at *
        obtain ⟨vs, hO⟩ := hT.own
        obtain ⟨ai1, ci1, rfl⟩ := own_slice hO.irow
        obtain ⟨an1, cn1, rfl⟩ := own_slice hO.nrow
        have M1 := Lib.hid (make5_any Any Any 15 wc an1 cn1 ai1 ci1 ns acc (hO.strs (by omega)) (by omega) hO.its.2.1 hO.its.2.2 (by omega))
        unfold CRet at M1
        have HBc := Lib.hid hT.bel
        clear hT hO HFC HRC hbw
        go_upto_region 19 with (go_at_call 6; (with_reducible refine (M1.out).mono ?_); rintro e2 w2 ⟨k2, m2, e2', t2, an2, nn2, cn2, ai2, ni2, ci2, rfl, hJ2, hb2⟩; have HV3 : Hid (VI wb w2.heap.size #[.int .i64 k2, .int .i64 m2, .int .i64 e2', .string t2, .slice an2 nn2 cn2, .slice ai2 ni2 ci2] (mkJ ns acc) (w2.alloc (.cells #[.int .i64 k2, .int .i64 m2, .int .i64 e2', .string t2, .slice an2 nn2 cn2, .slice ai2 ni2 ci2] 35))) := ⟨(HBc.out.trans (hb2.mono HBc.out.size)).trans ((belowOne _ _).mono (Nat.le_trans HBc.out.size hb2.size)), heap_alloc_new _ _, (hJ2.any).below (belowOne _ _) (Nat.le_refl _)⟩; have HT3 : Hid (TI wb w1.heap.size ns acc _ _ _) := (HTc.out.below hb2).below (belowOne w2 (.cells #[.int .i64 k2, .int .i64 m2, .int .i64 e2', .string t2, .slice an2 nn2 cn2, .slice ai2 ni2 ci2] 35)))
        clear HTc M1 HBc
        generalize hw3 : w2.alloc (.cells #[.int .i64 k2, .int .i64 m2, .int .i64 e2', .string t2, .slice an2 nn2 cn2, .slice ai2 ni2 ci2] 35) = w3 at *
        clear hw3 hJ2 hb2
        generalize w2.heap.size = bb at *
        have HXC := Lib.hid ((HV3.out.bel.block _ (Own.block_lt HBX.out)).trans HBX.out)
        obtain ⟨x0, x1, x2, x3, x4⟩ := five_of HXC.out
        have F14 := Lib.hid (fun (w' : World) (hb : Below wb.heap.size wb w') => fit14 w' _ _ (fun n => RAt.below hb (HX.out n)))
        unfold FRet at F14
        generalize fitJ 14 x = y at *
        go_upto_region 20 with (go_at_call 5; (with_reducible refine (F14.out _ HV3.out.bel).mono ?_); rintro e4 w4 ⟨k4, m4, e4', t4, an4, nn4, cn4, ai4, ni4, ci4, rfl, hJ4, hb4⟩; have HV4 := Lib.hid ((HV3.out.below hb4).below (belowOne w4 (.cells #[.int .i64 k4, .int .i64 m4, .int .i64 e4', .string t4, .slice an4 nn4 cn4, .slice ai4 ni4 ci4] 35))); have HT4 := Lib.hid ((HT3.out.below hb4).below (belowOne w4 (.cells #[.int .i64 k4, .int .i64 m4, .int .i64 e4', .string t4, .slice an4 nn4 cn4, .slice ai4 ni4 ci4] 35))); have HY4 : Hid (VI wb w4.heap.size #[.int .i64 k4, .int .i64 m4, .int .i64 e4', .string t4, .slice an4 nn4 cn4, .slice ai4 ni4 ci4] y (w4.alloc (.cells #[.int .i64 k4, .int .i64 m4, .int .i64 e4', .string t4, .slice an4 nn4 cn4, .slice ai4 ni4 ci4] 35))) := ⟨HV4.out.bel, heap_alloc_new _ _, (hJ4.any.deep (by omega)).below (belowOne _ _) (Nat.le_refl _)⟩; have HJ5 : Hid (JAt (fun b => w1.heap.size ≤ b) (w4.alloc (.cells #[.int .i64 k4, .int .i64 m4, .int .i64 e4', .string t4, .slice an4 nn4 cn4, .slice ai4 ni4 ci4] 35)) 15 (.agg #[.int .i64 k4, .int .i64 m4, .int .i64 e4', .string t4, .slice an4 nn4 cn4, .slice ai4 ni4 ci4]) y) := (hJ4.keep (fun b h _ => Nat.le_trans HT3.out.hi h) (fun _ _ _ => rfl) (Nat.le_refl _)).below (belowOne _ _) (Nat.le_refl _); clear hJ4 hb4 HV3 HT3)
        generalize hw5 : w4.alloc (.cells #[.int .i64 k4, .int .i64 m4, .int .i64 e4', .string t4, .slice an4 nn4 cn4, .slice ai4 ni4 ci4] 35) = w5 at *
        clear hw5
        generalize w4.heap.size = yb at *
        clear x0 x1 x2 x3 x4 HXC F14
        obtain ⟨vs5, hO5⟩ := HT4.out.own
        have HO5 := Lib.hid hO5
        have hlo5 := HT4.out.hi
        clear hO5
        go_cut [16] from 16 to 88 (fun s16 wx => Hid (VB w5 (mkJ (more :: ns) (y :: acc)) s16 wx))
        case first =>
          rename_i J1 K1 hJ1 hK1
          clear A1 HX HF HNF HV4 HB1 HB0 HBX
          refine wp_region_inv mixed5 (fun l a wz => ∃ z80 z81 z82 z83 z84 z85 z86 z87 z88 z16 : Value, a = { tmps := List.toArray (Value.slice ao n cap :: Value.slice ro m rcap :: Value.string ⟨more.toArray⟩ :: Value.agg #[.int .i64 xk, .int .i64 xm, .int .i64 xe, .slice xao xtl xc, .slice xai xni xci] :: undef :: undef :: undef :: Value.pointer (some ⟨w.heap.size, 0, none⟩) :: u8 :: Value.bool true :: Value.slice an1 ns.length cn1 :: Value.slice ai1 acc.length ci1 :: u12 :: u13 :: Value.pointer (some ⟨bb, 0, none⟩) :: Value.pointer (some ⟨yb, 0, none⟩) :: z16 :: u17 :: u18 :: u19 :: u20 :: u21 :: u22 :: u23 :: u24 :: u25 :: u26 :: u27 :: u28 :: u29 :: u30 :: u31 :: u32 :: u33 :: u34 :: u35 :: u36 :: u37 :: u38 :: u39 :: u40 :: u41 :: u42 :: u43 :: u44 :: u45 :: u46 :: u47 :: u48 :: u49 :: u50 :: u51 :: u52 :: u53 :: u54 :: u55 :: u56 :: u57 :: u58 :: u59 :: u60 :: u61 :: u62 :: u63 :: u64 :: u65 :: u66 :: u67 :: u68 :: u69 :: u70 :: u71 :: u72 :: u73 :: u74 :: Value.slice an1 ns.length cn1 :: Value.slice ai1 acc.length ci1 :: Value.agg #[.int .i64 k2, .int .i64 m2, .int .i64 e2', .string t2, .slice an2 nn2 cn2, .slice ai2 ni2 ci2] :: Value.agg #[.int .i64 xk, .int .i64 xm, .int .i64 xe, .slice xao xtl xc, .slice xai xni xci] :: Value.agg #[.int .i64 k4, .int .i64 m4, .int .i64 e4', .string t4, .slice an4 nn4 cn4, .slice ai4 ni4 ci4] :: z80 :: z81 :: z82 :: z83 :: z84 :: z85 :: z86 :: z87 :: z88 :: undef :: undef :: undef :: undef :: undef :: undef :: undef :: undef :: undef :: undef :: undef :: undef :: undef :: undef :: undef :: undef :: undef :: undef :: undef :: undef :: undef :: undef :: undef :: undef :: undef :: undef :: undef :: undef :: undef :: undef :: undef :: undef :: undef :: undef :: undef :: undef :: undef :: undef :: undef :: undef :: undef :: undef :: undef :: undef :: []), defers := [] } ∧ F20 w5 (.slice an1 ns.length cn1) (.slice ai1 acc.length ci1) more ns #[.int .i64 k4, .int .i64 m4, .int .i64 e4', .string t4, .slice an4 nn4 cn4, .slice ai4 ni4 ci4] (vs5.flatMap aggC) acc.length (mkJ (more :: ns) (y :: acc)) (lst l) z80 z81 z82 z83 z84 z85 z86 z87 z88 z16 wz) ?_ ?_ ?_
          · exact ⟨undef, undef, undef, undef, undef, undef, undef, undef, undef, u16, rfl, by
              rw [show lst (Array.replicate _ false) = fun _ => false from by funext j; unfold lst; simp [Array.getD_eq_getD_getElem?, Array.getElem?_replicate]; split <;> rfl]
              exact F20.start (Nat.le_refl _)⟩
          · intro l a wz i hl hi hI
            obtain ⟨hli, o, ho, hpre⟩ := ready_mem hi
            obtain ⟨z80, z81, z82, z83, z84, z85, z86, z87, z88, z16, rfl, hF⟩ := hI
            have hi11 : i < 11 := (Array.getElem?_eq_some_iff.1 ho).1
            have hs11 : l.size = 11 := hl
            clear hi hl
            have hc : i = 0 ∨ i = 1 ∨ i = 2 ∨ i = 3 ∨ i = 4 ∨ i = 5 ∨ i = 6 ∨ i = 7 ∨ i = 8 ∨ i = 9 ∨ i = 10 := by omega
            have hli' : lst l i = false := by
              unfold lst
              rw [Array.getD_eq_getD_getElem?, Array.getElem?_eq_getElem (by omega)] at hli ⊢
              exact hli
            clear hli
            rcases hc with rfl | rfl | rfl | rfl | rfl | rfl | rfl | rfl | rfl | rfl | rfl
            · clear ho hpre
              refine wpOp_here rfl (fun K' hK => ?_)
              go_simp
              exact hK _ _ ⟨_, _, _, _, _, _, _, _, _, _, rfl, by rw [lst_set (by omega)]; exact hF.m0 hli'⟩
            · have p0 : lst l 0 = true := hpre ⟨0, .data⟩ (by cases ho; simp) rfl
              have hz := hF.f0 p0
              subst hz
              clear ho hpre
              refine wpOp_here rfl (fun K' hK => ?_)
              go_simp
              exact hK _ _ ⟨_, _, _, _, _, _, _, _, _, _, rfl, by rw [lst_set (by omega)]; exact hF.m1 hli'⟩
            · clear ho hpre
              refine wpOp_here rfl (fun K' hK => ?_)
              go_simp
              exact hK _ _ ⟨_, _, _, _, _, _, _, _, _, _, rfl, by rw [lst_set (by omega)]; exact hF.m2 hli'⟩
            · have p1 : lst l 1 = true := hpre ⟨1, .data⟩ (by cases ho; simp) rfl
              have p2 : lst l 2 = true := hpre ⟨2, .data⟩ (by cases ho; simp) rfl
              have hz := hF.f2 p2
              subst hz
              have hN : lst l 10 = false := by
                cases h : lst l 10 with
                | false => rfl
                | true => have e := (hF.o8 (hF.o10 h).2.2.2.2.2.2.1).1; rw [e] at hli'; cases hli'
              have hr := (hF.led hN).row 0 ⟨true, z81, 9, 1, 1, [strW more]⟩ (by simp [os20, p1, hli']) rfl
              have hrn := row_keep HO5.out.nrow (fun g _ hl => hF.bel.block g hl)
              clear ho hpre
              refine wpOp_here rfl (fun K' hK => ?_)
              refine step_append_rows rfl _ _ _ rfl w5.heap.size w1.heap.size 9 i1 _ 1 16 Try.underlying28 hi1 hx0 hx1 hx2 rfl (by omega) z81 1 [strW more] rfl hr _ ns.length (ns.map strW) rfl hrn (fun u hu => by obtain ⟨x, _, rfl⟩ := List.mem_map.1 hu; rfl) (by unfold maxLen; omega) (by omega) hF.bel.size ?_
              intro v' w' hown hg hat
              exact hK _ _ ⟨_, _, _, _, _, _, _, _, _, _, rfl, by rw [lst_set (by omega)]; exact hF.m3 hli' p1 hown hg hat⟩
            · clear ho hpre
              obtain ⟨c0, c1, c2, c3, c4, c5⟩ := six_of ((hF.bel.block _ (Own.block_lt HY4.out.box)).trans HY4.out.box)
              refine wpOp_here rfl (fun K' hK => ?_)
              go_simp
              exact hK _ _ ⟨_, _, _, _, _, _, _, _, _, _, rfl, by rw [lst_set (by omega)]; exact hF.m4 hli'⟩
            · have p4 : lst l 4 = true := hpre ⟨4, .data⟩ (by cases ho; simp) rfl
              have hz := hF.f4 p4
              subst hz
              clear ho hpre
              refine wpOp_here rfl (fun K' hK => ?_)
              go_simp
              exact hK _ _ ⟨_, _, _, _, _, _, _, _, _, _, rfl, by rw [lst_set (by omega)]; exact hF.m5 hli' rfl⟩
            · clear ho hpre
              refine wpOp_here rfl (fun K' hK => ?_)
              go_simp
              exact hK _ _ ⟨_, _, _, _, _, _, _, _, _, _, rfl, by rw [lst_set (by omega)]; exact hF.m6 hli'⟩
            · have p5 : lst l 5 = true := hpre ⟨5, .data⟩ (by cases ho; simp) rfl
              have p6 : lst l 6 = true := hpre ⟨6, .data⟩ (by cases ho; simp) rfl
              have p3 : lst l 3 = true := hpre ⟨3, .chain⟩ (by cases ho; simp) rfl
              have hz := hF.f6 p6
              subst hz
              have hN : lst l 10 = false := by
                cases h : lst l 10 with
                | false => rfl
                | true => have e := (hF.o8 (hF.o10 h).2.2.2.2.2.2.1).2; rw [e] at hli'; cases hli'
              have hr := (hF.led hN).row 1 ⟨true, z85, 35, 6, 1, [.int .i64 k4, .int .i64 m4, .int .i64 e4', .string t4, .slice an4 nn4 cn4, .slice ai4 ni4 ci4]⟩ (by simp [os20, p5, hli']) rfl
              have hri := row_keep HO5.out.irow (fun g _ hl => hF.bel.block g hl)
              clear ho hpre
              refine wpOp_here rfl (fun K' hK => ?_)
              refine step_append_rows rfl _ _ _ rfl w5.heap.size w1.heap.size 35 i0 _ 6 88 Try.underlying29 hi0 hz0 hz1 hz2 rfl (by omega) z85 1 _ rfl hr _ acc.length (vs5.flatMap aggC) rfl hri (own3_cells HO5.out) (by unfold maxLen; omega) (by omega) hF.bel.size ?_
              intro v' w' hown hg hat
              exact hK _ _ ⟨_, _, _, _, _, _, _, _, _, _, rfl, by rw [lst_set (by omega)]; exact hF.m7 hli' p5 p3 hown hg hat⟩
            · have p3 : lst l 3 = true := hpre ⟨3, .data⟩ (by cases ho; simp) rfl
              have p7 : lst l 7 = true := hpre ⟨7, .data⟩ (by cases ho; simp) rfl
              have hN : lst l 10 = false := by
                cases h : lst l 10 with
                | false => rfl
                | true => have e := (hF.o10 h).2.2.2.2.2.2.1; rw [e] at hli'; cases hli'
              have hr0 := (hF.led hN).row 0 ⟨true, z83, 9, 1, 1 + ns.length, strW more :: ns.map strW⟩ (by simp [os20, p3, hF.o3 p3]) rfl
              have hr1 := (hF.led hN).row 1 ⟨true, z87, 35, 6, 1 + acc.length, [.int .i64 k4, .int .i64 m4, .int .i64 e4', .string t4, .slice an4 nn4 cn4, .slice ai4 ni4 ci4] ++ vs5.flatMap aggC⟩ (by simp [os20, p7, (hF.o7 p7).1]) rfl
              have MK := make_rows w1.heap.size w5 wz (more :: ns) (.agg #[.int .i64 k4, .int .i64 m4, .int .i64 e4', .string t4, .slice an4 nn4 cn4, .slice ai4 ni4 ci4] :: vs5) (y :: acc) z83 z87 hF.bel hlo5 (by simpa [Nat.add_comm] using hr0) (by simpa [Nat.add_comm, aggC] using hr1) (by simp [HO5.out.vl]) (fun x hx => by rcases List.mem_cons.1 hx with rfl | hx; exact hmo; exact HO5.out.txt x hx)
                (fun i hi => by
                  cases i with
                  | zero => exact HJ5.out
                  | succ i => exact (HO5.out.items i (by simpa using hi)).keep (fun b h _ => h.1) (fun _ _ _ => rfl) (Nat.le_refl _)) (by simp; omega) (by simp; omega)
              unfold CRet at MK
              clear ho hpre hr0 hr1
              refine wpOp_here rfl (fun K' hK => ?_)
              go_simp
              refine MK.mono ?_
              rintro e6 w6 ⟨k6, m6, e6', t6, an6, nn6, cn6, ai6, ni6, ci6, rfl, hJ6, hb6⟩
              exact hK _ _ ⟨_, _, _, _, _, _, _, _, _, _, rfl, by rw [lst_set (by omega)]; exact hF.m8 hli' p3 p7 hb6 hJ6⟩
            · clear ho hpre
              refine wpOp_here rfl (fun K' hK => ?_)
              go_simp
              exact hK _ _ ⟨_, _, _, _, _, _, _, _, _, _, rfl, by rw [lst_set (by omega)]; exact hF.m9 hli'⟩
            · have hall : lst l 0 = true ∧ lst l 1 = true ∧ lst l 2 = true ∧ lst l 4 = true ∧ lst l 5 = true ∧ lst l 6 = true ∧ lst l 8 = true ∧ lst l 9 = true := ⟨hpre ⟨0, .phase⟩ (by cases ho; simp) rfl, hpre ⟨1, .phase⟩ (by cases ho; simp) rfl, hpre ⟨2, .phase⟩ (by cases ho; simp) rfl, hpre ⟨4, .phase⟩ (by cases ho; simp) rfl, hpre ⟨5, .phase⟩ (by cases ho; simp) rfl, hpre ⟨6, .phase⟩ (by cases ho; simp) rfl, hpre ⟨8, .phase⟩ (by cases ho; simp) rfl, hpre ⟨9, .phase⟩ (by cases ho; simp) rfl⟩
              obtain ⟨g, hg, hge, hh⟩ := hF.box hli' hall.2.2.2.2.2.2.2
              obtain ⟨k6, m6, e6', t6, an6, nn6, cn6, ai6, ni6, ci6, hu, hJ6⟩ := hF.r8 hall.2.2.2.2.2.2.1 hli'
              have hfin := hF.m10 hli' hall hg hge hh hu hJ6
              subst hg hu
              obtain ⟨c0, c1, c2, c3, c4, c5⟩ := six_of hh
              have f0 := free_of hh 0
              have f1 := free_of hh 1
              have f2 := free_of hh 2
              have f3 := free_of hh 3
              have f4 := free_of hh 4
              have f5 := free_of hh 5
              clear ho hpre
              refine wpOp_here rfl (fun K' hK => ?_)
              go_simp
              exact hK _ _ ⟨_, _, _, _, _, _, _, _, _, _, rfl, by rw [lst_set (by omega)]; simpa only [put6, Nat.zero_add] using hfin⟩
          · intro l a wz hl hr hI
            obtain ⟨z80, z81, z82, z83, z84, z85, z86, z87, z88, z16, rfl, hF⟩ := hI
            have h10 : lst l 10 = true := all_run (fun i o ho => by
              have hi11 : i < 11 := (Array.getElem?_eq_some_iff.1 ho).1
              have hc : i = 0 ∨ i = 1 ∨ i = 2 ∨ i = 3 ∨ i = 4 ∨ i = 5 ∨ i = 6 ∨ i = 7 ∨ i = 8 ∨ i = 9 ∨ i = 10 := by omega
              rcases hc with rfl | rfl | rfl | rfl | rfl | rfl | rfl | rfl | rfl | rfl | rfl <;> (cases ho; decide)) hl hr 10 (by decide)
            refine hK1 _ _ ?_
            go_meet
            exact hF.fin h10
        case rest =>
          obtain ⟨ga, ka, ma, ea, ta, ana, nna, cna, aia, nia, cia, rfl, hbA, hbxA, hJA⟩ := hcut.out
          have HO6 := Lib.hid (HO5.out.below hbA (Nat.le_refl _))
          have hlo6 := Nat.le_trans hlo5 hbA.size
          have HY6 := Lib.hid (HY4.out.below hbA)
          have HJ6 := Lib.hid (HJ5.out.below hbA (Nat.le_refl _))
          have HV6 := Lib.hid (HV4.out.below hbA)
          have HA6 : Hid (VI wb ga #[.int .i64 ka, .int .i64 ma, .int .i64 ea, .string ta, .slice ana nna cna, .slice aia nia cia] (mkJ (more :: ns) (y :: acc)) wc) := ⟨HV6.out.bel, hbxA, hJA⟩
          clear hcut HO5 HY4 HJ5 HV4 HT4 hbA hbxA hJA
          go_upto_region 21 with fail
          go_cut [17] from 17 to 99 (fun s17 wx => Hid (VB wc (mkJ (ns ++ [more]) (acc ++ [y])) s17 wx))
          case first =>
            rename_i J1 K1 hJ1 hK1
            clear A1 HX HF HNF HV6 HB1 HB0 HBX HA6
            refine wp_region_inv mixed5 (fun l a wz => ∃ z89 z90 z91 z92 z93 z94 z95 z96 z97 z98 z99 z17 : Value, a = { tmps := List.toArray (Value.slice ao n cap :: Value.slice ro m rcap :: Value.string ⟨more.toArray⟩ :: Value.agg #[.int .i64 xk, .int .i64 xm, .int .i64 xe, .slice xao xtl xc, .slice xai xni xci] :: undef :: undef :: undef :: Value.pointer (some ⟨w.heap.size, 0, none⟩) :: u8 :: Value.bool true :: Value.slice an1 ns.length cn1 :: Value.slice ai1 acc.length ci1 :: u12 :: u13 :: Value.pointer (some ⟨bb, 0, none⟩) :: Value.pointer (some ⟨yb, 0, none⟩) :: Value.pointer (some ⟨ga, 0, none⟩) :: z17 :: u18 :: u19 :: u20 :: u21 :: u22 :: u23 :: u24 :: u25 :: u26 :: u27 :: u28 :: u29 :: u30 :: u31 :: u32 :: u33 :: u34 :: u35 :: u36 :: u37 :: u38 :: u39 :: u40 :: u41 :: u42 :: u43 :: u44 :: u45 :: u46 :: u47 :: u48 :: u49 :: u50 :: u51 :: u52 :: u53 :: u54 :: u55 :: u56 :: u57 :: u58 :: u59 :: u60 :: u61 :: u62 :: u63 :: u64 :: u65 :: u66 :: u67 :: u68 :: u69 :: u70 :: u71 :: u72 :: u73 :: u74 :: u75 :: u76 :: u77 :: u78 :: u79 :: u80 :: u81 :: u82 :: u83 :: u84 :: u85 :: u86 :: u87 :: u88 :: z89 :: z90 :: z91 :: z92 :: z93 :: z94 :: z95 :: z96 :: z97 :: z98 :: z99 :: undef :: undef :: undef :: undef :: undef :: undef :: undef :: undef :: undef :: undef :: undef :: undef :: undef :: undef :: undef :: undef :: undef :: undef :: undef :: undef :: undef :: undef :: undef :: undef :: undef :: undef :: undef :: undef :: undef :: undef :: undef :: undef :: undef :: []), defers := [] } ∧ F21 wc (.slice an1 ns.length cn1) (.slice ai1 acc.length ci1) more ns #[.int .i64 k4, .int .i64 m4, .int .i64 e4', .string t4, .slice an4 nn4 cn4, .slice ai4 ni4 ci4] (vs5.flatMap aggC) acc.length (mkJ (ns ++ [more]) (acc ++ [y])) (lst l) z89 z90 z91 z92 z93 z94 z95 z96 z97 z98 z99 z17 wz) ?_ ?_ ?_
            · exact ⟨undef, undef, undef, undef, undef, undef, undef, undef, undef, undef, undef, u17, rfl, by
                rw [show lst (Array.replicate _ false) = fun _ => false from by funext j; unfold lst; simp [Array.getD_eq_getD_getElem?, Array.getElem?_replicate]; split <;> rfl]
                exact F21.start⟩
            · intro l a wz i hl hi hI
              obtain ⟨hli, o, ho, hpre⟩ := ready_mem hi
              obtain ⟨z89, z90, z91, z92, z93, z94, z95, z96, z97, z98, z99, z17, rfl, hF⟩ := hI
              have hi13 : i < 13 := (Array.getElem?_eq_some_iff.1 ho).1
              have hs13 : l.size = 13 := hl
              clear hi hl
              have hc : i = 0 ∨ i = 1 ∨ i = 2 ∨ i = 3 ∨ i = 4 ∨ i = 5 ∨ i = 6 ∨ i = 7 ∨ i = 8 ∨ i = 9 ∨ i = 10 ∨ i = 11 ∨ i = 12 := by omega
              have hli' : lst l i = false := by
                unfold lst
                rw [Array.getD_eq_getD_getElem?, Array.getElem?_eq_getElem (by omega)] at hli ⊢
                exact hli
              clear hli
              rcases hc with rfl | rfl | rfl | rfl | rfl | rfl | rfl | rfl | rfl | rfl | rfl | rfl | rfl
              · clear ho hpre
                refine wpOp_here rfl (fun K' hK => ?_)
                go_simp
                exact hK _ _ ⟨_, _, _, _, _, _, _, _, _, _, _, _, rfl, by rw [lst_set (by omega)]; exact hF.m0 hli'⟩
              · have p0 : lst l 0 = true := hpre ⟨0, .data⟩ (by cases ho; simp) rfl
                have hz := hF.g0 p0
                subst hz
                have hN : lst l 12 = false := by
                  cases h : lst l 12 with
                  | false => rfl
                  | true => have e := hF.p12 h; rw [e.2.1] at hli'; cases hli'
                have hrn := row_keep HO6.out.nrow (fun g _ hl => hF.bel.block g hl)
                clear ho hpre
                refine wpOp_here rfl (fun K' hK => ?_)
                refine step_append_rows rfl _ _ _ rfl wc.heap.size w1.heap.size 9 i1 _ 1 16 Try.underlying28 hi1 hx0 hx1 hx2 rfl (by omega) (.slice none 0 0) 0 [] rfl (World.ownsRow_nil _ _ _ _) _ ns.length (ns.map strW) rfl hrn (fun u hu => by obtain ⟨x, _, rfl⟩ := List.mem_map.1 hu; rfl) (by unfold maxLen; omega) (by omega) hF.bel.size ?_
                intro v' w' hown hg hat
                rw [Nat.zero_add, List.nil_append] at hown
                exact hK _ _ ⟨_, _, _, _, _, _, _, _, _, _, _, _, rfl, by rw [lst_set (by omega)]; exact hF.m1 hli' hown hg hat⟩
              · clear ho hpre
                refine wpOp_here rfl (fun K' hK => ?_)
                go_simp
                exact hK _ _ ⟨_, _, _, _, _, _, _, _, _, _, _, _, rfl, by rw [lst_set (by omega)]; exact hF.m2 hli'⟩
              · have p2 : lst l 2 = true := hpre ⟨2, .data⟩ (by cases ho; simp) rfl
                have hz := hF.g2 p2
                subst hz
                clear ho hpre
                refine wpOp_here rfl (fun K' hK => ?_)
                go_simp
                exact hK _ _ ⟨_, _, _, _, _, _, _, _, _, _, _, _, rfl, by rw [lst_set (by omega)]; exact hF.m3 hli'⟩
              · have p1 : lst l 1 = true := hpre ⟨1, .data⟩ (by cases ho; simp) rfl
                have p3 : lst l 3 = true := hpre ⟨3, .data⟩ (by cases ho; simp) rfl
                have hN : lst l 12 = false := by
                  cases h : lst l 12 with
                  | false => rfl
                  | true => have e := hF.p12 h; rw [e.2.2.2.2.1] at hli'; cases hli'
                have hr := (hF.led hN).row 0 ⟨true, z90, 9, 1, ns.length, ns.map strW⟩ (by simp [os21, p1, hli']) rfl
                have hrx := (hF.led hN).row 1 ⟨true, z92, 9, 1, 1, [strW more]⟩ (by simp [os21, p3]) rfl
                clear ho hpre
                refine wpOp_here rfl (fun K' hK => ?_)
                refine step_append_rows rfl _ _ _ rfl wc.heap.size wc.heap.size 9 i1 _ 1 16 Try.underlying28 hi1 hx0 hx1 hx2 rfl (by omega) z90 ns.length (ns.map strW) rfl hr z92 1 [strW more] rfl hrx (fun u hu => by rw [List.mem_singleton] at hu; rw [hu]; rfl) (by unfold maxLen; omega) (by omega) hF.bel.size ?_
                intro v' w' hown hg hat
                exact hK _ _ ⟨_, _, _, _, _, _, _, _, _, _, _, _, rfl, by rw [lst_set (by omega)]; exact hF.m4 hli' p1 p3 hown hg hat⟩
              · clear ho hpre
                refine wpOp_here rfl (fun K' hK => ?_)
                go_simp
                exact hK _ _ ⟨_, _, _, _, _, _, _, _, _, _, _, _, rfl, by rw [lst_set (by omega)]; exact hF.m5 hli'⟩
              · have p5 : lst l 5 = true := hpre ⟨5, .data⟩ (by cases ho; simp) rfl
                have p4 : lst l 4 = true := hpre ⟨4, .chain⟩ (by cases ho; simp) rfl
                have hz := hF.g5 p5
                subst hz
                have hN : lst l 12 = false := by
                  cases h : lst l 12 with
                  | false => rfl
                  | true => have e := hF.p12 h; rw [e.2.2.2.2.2.2.1] at hli'; cases hli'
                have hri := row_keep HO6.out.irow (fun g _ hl => hF.bel.block g hl)
                clear ho hpre
                refine wpOp_here rfl (fun K' hK => ?_)
                refine step_append_rows rfl _ _ _ rfl wc.heap.size w1.heap.size 35 i0 _ 6 88 Try.underlying29 hi0 hz0 hz1 hz2 rfl (by omega) (.slice none 0 0) 0 [] rfl (World.ownsRow_nil _ _ _ _) _ acc.length (vs5.flatMap aggC) rfl hri (own3_cells HO6.out) (by unfold maxLen; omega) (by omega) hF.bel.size ?_
                intro v' w' hown hg hat
                rw [Nat.zero_add, List.nil_append] at hown
                exact hK _ _ ⟨_, _, _, _, _, _, _, _, _, _, _, _, rfl, by rw [lst_set (by omega)]; exact hF.m6 hli' p4 hown hg hat⟩
              · obtain ⟨c0, c1, c2, c3, c4, c5⟩ := six_of ((hF.bel.block _ (Own.block_lt HY6.out.box)).trans HY6.out.box)
                clear ho hpre
                refine wpOp_here rfl (fun K' hK => ?_)
                go_simp
                exact hK _ _ ⟨_, _, _, _, _, _, _, _, _, _, _, _, rfl, by rw [lst_set (by omega)]; exact hF.m7 hli'⟩
              · have p7 : lst l 7 = true := hpre ⟨7, .data⟩ (by cases ho; simp) rfl
                have hz := hF.g7 p7
                subst hz
                clear ho hpre
                refine wpOp_here rfl (fun K' hK => ?_)
                go_simp
                exact hK _ _ ⟨_, _, _, _, _, _, _, _, _, _, _, _, rfl, by rw [lst_set (by omega)]; exact hF.m8 hli' rfl⟩
              · have p6 : lst l 6 = true := hpre ⟨6, .data⟩ (by cases ho; simp) rfl
                have p8 : lst l 8 = true := hpre ⟨8, .data⟩ (by cases ho; simp) rfl
                have hN : lst l 12 = false := by
                  cases h : lst l 12 with
                  | false => rfl
                  | true => have e := hF.p12 h; rw [e.2.2.2.2.2.2.2.2.2.1] at hli'; cases hli'
                have hr := (hF.led hN).row 2 ⟨true, z95, 35, 6, acc.length, vs5.flatMap aggC⟩ (by simp [os21, p6, hli']) rfl
                have hrx := (hF.led hN).row 3 ⟨true, z97, 35, 6, 1, [.int .i64 k4, .int .i64 m4, .int .i64 e4', .string t4, .slice an4 nn4 cn4, .slice ai4 ni4 ci4]⟩ (by simp [os21, p8]) rfl
                clear ho hpre
                refine wpOp_here rfl (fun K' hK => ?_)
                refine step_append_rows rfl _ _ _ rfl wc.heap.size wc.heap.size 35 i0 _ 6 88 Try.underlying29 hi0 hz0 hz1 hz2 rfl (by omega) z95 acc.length (vs5.flatMap aggC) rfl hr z97 1 _ rfl hrx (by simp [Value.oneCell']) (by unfold maxLen; omega) (by omega) hF.bel.size ?_
                intro v' w' hown hg hat
                exact hK _ _ ⟨_, _, _, _, _, _, _, _, _, _, _, _, rfl, by rw [lst_set (by omega)]; exact hF.m9 hli' p6 p8 hown hg hat⟩
              · have p4 : lst l 4 = true := hpre ⟨4, .data⟩ (by cases ho; simp) rfl
                have p9 : lst l 9 = true := hpre ⟨9, .data⟩ (by cases ho; simp) rfl
                have hN : lst l 12 = false := by
                  cases h : lst l 12 with
                  | false => rfl
                  | true => have e := hF.p12 h; rw [e.2.2.2.2.2.2.2.2.2.2.1] at hli'; cases hli'
                have hr0 := (hF.led hN).row 0 ⟨true, z93, 9, 1, ns.length + 1, ns.map strW ++ [strW more]⟩ (by simp [os21, p4, (hF.p4 p4).1]) rfl
                have hr1 := (hF.led hN).row 2 ⟨true, z98, 35, 6, acc.length + 1, vs5.flatMap aggC ++ [.int .i64 k4, .int .i64 m4, .int .i64 e4', .string t4, .slice an4 nn4 cn4, .slice ai4 ni4 ci4]⟩ (by simp [os21, p9, (hF.p9 p9).1]) rfl
                have MK := make_rows w1.heap.size wc wz (ns ++ [more]) (vs5 ++ [.agg #[.int .i64 k4, .int .i64 m4, .int .i64 e4', .string t4, .slice an4 nn4 cn4, .slice ai4 ni4 ci4]]) (acc ++ [y]) z93 z98 hF.bel hlo6 (by simpa using hr0) (by simpa [aggC] using hr1) (by simp [HO6.out.vl]) (fun x hx => by rcases List.mem_append.1 hx with hx | hx; exact HO6.out.txt x hx; rw [List.mem_singleton] at hx; rw [hx]; exact hmo)
                  (fun i hi => by
                    by_cases hia : i < acc.length
                    · rw [List.getD_eq_getElem?_getD, List.getD_eq_getElem?_getD, List.getElem?_append_left (by rw [HO6.out.vl]; exact hia), List.getElem?_append_left hia, ← List.getD_eq_getElem?_getD, ← List.getD_eq_getElem?_getD]
                      exact (HO6.out.items i hia).keep (fun b h _ => h.1) (fun _ _ _ => rfl) (Nat.le_refl _)
                    · have hi' : i = acc.length := by simp at hi; omega
                      subst hi'
                      rw [List.getD_eq_getElem?_getD, List.getD_eq_getElem?_getD, List.getElem?_append_right (by rw [HO6.out.vl]; exact Nat.le_refl _), List.getElem?_append_right (Nat.le_refl _), HO6.out.vl, Nat.sub_self]
                      exact HJ6.out) (by simp; omega) (by simp; omega)
                unfold CRet at MK
                clear ho hpre hr0 hr1
                refine wpOp_here rfl (fun K' hK => ?_)
                go_simp
                refine MK.mono ?_
                rintro e6 w6 ⟨k6, m6, e6', t6, an6, nn6, cn6, ai6, ni6, ci6, rfl, hJx, hb6⟩
                exact hK _ _ ⟨_, _, _, _, _, _, _, _, _, _, _, _, rfl, by rw [lst_set (by omega)]; exact hF.m10 hli' p4 p9 hb6 hJx⟩
              · clear ho hpre
                refine wpOp_here rfl (fun K' hK => ?_)
                go_simp
                exact hK _ _ ⟨_, _, _, _, _, _, _, _, _, _, _, _, rfl, by rw [lst_set (by omega)]; exact hF.m11 hli'⟩
              · have hall : lst l 0 = true ∧ lst l 1 = true ∧ lst l 2 = true ∧ lst l 3 = true ∧ lst l 4 = true ∧ lst l 5 = true ∧ lst l 6 = true ∧ lst l 7 = true ∧ lst l 8 = true ∧ lst l 9 = true ∧ lst l 10 = true ∧ lst l 11 = true := ⟨hpre ⟨0, .phase⟩ (by cases ho; simp) rfl, hpre ⟨1, .phase⟩ (by cases ho; simp) rfl, hpre ⟨2, .phase⟩ (by cases ho; simp) rfl, hpre ⟨3, .phase⟩ (by cases ho; simp) rfl, hpre ⟨4, .phase⟩ (by cases ho; simp) rfl, hpre ⟨5, .phase⟩ (by cases ho; simp) rfl, hpre ⟨6, .phase⟩ (by cases ho; simp) rfl, hpre ⟨7, .phase⟩ (by cases ho; simp) rfl, hpre ⟨8, .phase⟩ (by cases ho; simp) rfl, hpre ⟨9, .phase⟩ (by cases ho; simp) rfl, hpre ⟨10, .phase⟩ (by cases ho; simp) rfl, hpre ⟨11, .phase⟩ (by cases ho; simp) rfl⟩
                obtain ⟨g, hg, hge, hh⟩ := hF.box hli' hall.2.2.2.2.2.2.2.2.2.2.2
                obtain ⟨k6, m6, e6', t6, an6, nn6, cn6, ai6, ni6, ci6, hu, hJx⟩ := hF.r10 hall.2.2.2.2.2.2.2.2.2.2.1 hli'
                have hfin := hF.m12 hli' hall hg hge hh hu hJx
                subst hg hu
                obtain ⟨c0, c1, c2, c3, c4, c5⟩ := six_of hh
                have f0 := free_of hh 0
                have f1 := free_of hh 1
                have f2 := free_of hh 2
                have f3 := free_of hh 3
                have f4 := free_of hh 4
                have f5 := free_of hh 5
                clear ho hpre
                refine wpOp_here rfl (fun K' hK => ?_)
                go_simp
                exact hK _ _ ⟨_, _, _, _, _, _, _, _, _, _, _, _, rfl, by rw [lst_set (by omega)]; simpa only [put6, Nat.zero_add] using hfin⟩
            · intro l a wz hl hr hI
              obtain ⟨z89, z90, z91, z92, z93, z94, z95, z96, z97, z98, z99, z17, rfl, hF⟩ := hI
              have h12 : lst l 12 = true := all_run (fun i o ho => by
                have hi13 : i < 13 := (Array.getElem?_eq_some_iff.1 ho).1
                have hc : i = 0 ∨ i = 1 ∨ i = 2 ∨ i = 3 ∨ i = 4 ∨ i = 5 ∨ i = 6 ∨ i = 7 ∨ i = 8 ∨ i = 9 ∨ i = 10 ∨ i = 11 ∨ i = 12 := by omega
                rcases hc with rfl | rfl | rfl | rfl | rfl | rfl | rfl | rfl | rfl | rfl | rfl | rfl | rfl <;> (cases ho; decide)) hl hr 12 (by decide)
              refine hK1 _ _ ?_
              go_meet
              exact hF.fin h12
          case rest =>
            obtain ⟨gb, kb, mb, eb, tb, anb, nnb, cnb, aib, nib, cib, rfl, hbB, hbxB, hJB⟩ := hcut.out
            have HV7 := Lib.hid (HV6.out.below hbB)
            have HA7 := Lib.hid (HA6.out.below hbB)
            have HY7 := Lib.hid (HY6.out.below hbB)
            have HB7 : Hid (VI wb gb #[.int .i64 kb, .int .i64 mb, .int .i64 eb, .string tb, .slice anb nnb cnb, .slice aib nib cib] (mkJ (ns ++ [more]) (acc ++ [y])) wc) := ⟨HV7.out.bel, hbxB, hJB⟩
            have hfs : ∀ f ∈ fs, f.nm ≠ more := fun f hf => by
              obtain ⟨p, hp, rfl⟩ := List.mem_iff_getElem.1 hf
              have := HNF.out p (by rw [← HLs.out]; exact hp)
              rwa [List.getD_eq_getElem?_getD, List.getElem?_eq_getElem hp] at this
            have C1 := Lib.hid (fun (w' : World) (hb : Below wc.heap.size wc w') => check_any Any 16 _ (mkJ ns acc) _ fs w' (HV7.out.below hb).jat (HF.out.below (HV7.out.below hb).bel))
            have C2 := Lib.hid (fun (w' : World) (hb : Below wc.heap.size wc w') => check_any Any 16 _ (mkJ (more :: ns) (y :: acc)) _ fs w' (HA7.out.below hb).jat (HF.out.below (HA7.out.below hb).bel))
            have C3 := Lib.hid (fun (w' : World) (hb : Below wc.heap.size wc w') => check_any Any 16 _ (mkJ (ns ++ [more]) (acc ++ [y])) _ fs w' (HB7.out.below hb).jat (HF.out.below (HB7.out.below hb).bel))
            have C4 := Lib.hid (fun (w' : World) (hb : Below wc.heap.size wc w') => check_any Any 16 _ y _ fs w' (HY7.out.below hb).jat (HF.out.below (HY7.out.below hb).bel))
            rw [ord_front ns acc more y fs hfs] at C2
            rw [ord_back ns acc HNA.out more y fs hfs] at C3
            have HKY : Hid (y.k = 7 ∨ n = 0 ∨ chkL y fs 0 = 0) := by
              show _ ∨ _
              by_cases h7 : y.k = 7
              · exact .inl h7
              · by_cases hn0 : n = 0
                · exact .inr (.inl hn0)
                · exact .inr (.inr (chkL_no h7 (fun e => hn0 (by rw [← HLs.out, e]; rfl))))
            have HK4 : Hid (y.k = k4) := by
              obtain ⟨yk, ym, ye, yt, yns, yis⟩ := y
              obtain ⟨d', an', cn', ai', ci', _, hv, _⟩ := HY7.out.jat.open_
              simp only [Value.agg.injEq, Array.mk.injEq, List.cons.injEq, Value.int.injEq, true_and] at hv
              exact hv.1.symm
            have hbe := HV7.out.bel
            obtain ⟨v0, v1, v2, v3, v4, v5⟩ := six_of HV7.out.box
            have BA := HA7.out.box
            have BB := HB7.out.box
            have BY := HY7.out.box
            have la := Own.block_lt BA
            have lb := Own.block_lt BB
            have ly := Own.block_lt BY
            have HBA := Lib.hid BA
            have HBB := Lib.hid BB
            have HBY := Lib.hid BY
            generalize chkL (mkJ ns acc) fs 0 = K at *
            generalize chkL y fs 0 = KY at *
            rw [HK4.out] at HKY
            clear BA BB BY hcut HV6 HA6 HY6 HO6 HJ6 hbB hbxB hJB HNF hfs HF HV7 HA7 HY7 HB7 HBX HX HCASE HK4
            rcases HKY.out with h7 | h7 | h7
            all_goals
              subst h7
              clear HKY
              go_wp2_with (first
                | (go_at_call 7; (with_reducible refine (C1.out _ (Below.refl _ _)).mono ?_); rintro e8 w8 ⟨rfl, hb8⟩; obtain ⟨a0, a1, a2, a3, a4, a5⟩ := six_of ((hb8.block _ la).trans HBA.out))
                | (go_at_call 7; (with_reducible refine (C2.out _ hb8).mono ?_); rintro e9 w9 ⟨rfl, hb9⟩; have hb9' := hb8.trans (hb9.mono hb8.size); obtain ⟨b0, b1, b2, b3, b4, b5⟩ := six_of ((hb9'.block _ lb).trans HBB.out))
                | (go_at_call 7; (with_reducible refine (C3.out _ hb9').mono ?_); rintro e10 w10 ⟨rfl, hb10⟩; have hb10' := hb9'.trans (hb10.mono hb9'.size); obtain ⟨y0, y1, y2, y3, y4, y5⟩ := six_of ((hb10'.block _ ly).trans HBY.out))
                | (go_at_call 7; (with_reducible refine (C4.out _ hb10').mono ?_); rintro e11 w11 ⟨rfl, hb11⟩; have hb11' := hb10'.trans (hb11.mono hb10'.size)))
            all_goals go_ret
            all_goals first
              | exact ⟨rfl, HB0.out.trans ((hbe.trans (hb11'.mono hbe.size)).mono (Nat.le_of_lt hbn))⟩
              | exact ⟨rfl, HB0.out.trans ((hbe.trans (hb10'.mono hbe.size)).mono (Nat.le_of_lt hbn))⟩
end Go.Proofs.Ytafmnoeljefpaaa.Js
