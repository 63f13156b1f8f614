import Derived.Test.YtkmiemaigalgpaaRp
import Derived.Test.YtkmiemaigalgpaaRk
import Derived.Test.YtkmiemaigalgpaaRc
import Derived.Test.YtkmiemaigalgpaaBare
/- The walk of the law FieldTells: it answers true. -/
set_option linter.unusedVariables false
set_option linter.unusedSimpArgs false
namespace Go.Proofs.Ytkmiemaigalgpaa.Js
open Go.RowKit Lex

theorem intJ_B (x : Int) : i64B (intJ x).k ∧ i64B (intJ x).m ∧ i64B (intJ x).e := by
  unfold intJ
  split
  · rename_i h
    obtain ⟨h1, h2, h3, h4⟩ := Dec.rightB_bounds (Dec.mk_is_right _ _ h)
    refine ⟨⟨by show _ ≤ (4 : Int); omega, by show (4 : Int) ≤ _; omega⟩, ⟨?_, ?_⟩, ⟨?_, ?_⟩⟩
    · show _ ≤ (Dec.mk x 0).1; omega
    · show (Dec.mk x 0).1 ≤ _; omega
    · show _ ≤ (Dec.mk x 0).2.1; omega
    · show (Dec.mk x 0).2.1 ≤ _; omega
  · exact ⟨⟨by decide, by decide⟩, ⟨by decide, by decide⟩, ⟨by decide, by decide⟩⟩
/-- Two values, one behind the other. -/
theorem two_its {D : Nat} {w : World} {j1 j2 : J} {c0 c1 c2 c3 c4 c5 d0 d1 d2 d3 d4 d5 : Value} (h1 : JAt Any w D (.agg #[c0, c1, c2, c3, c4, c5]) j1) (h2 : JAt Any w D (.agg #[d0, d1, d2, d3, d4, d5]) j2) :
    ItemsAt Any (w.alloc (.cells #[c0, c1, c2, c3, c4, c5, d0, d1, d2, d3, d4, d5] 27)) D (some ⟨w.heap.size, 0, none⟩) [j1, j2] := fun _ => by
  have hb : (w.alloc (.cells #[c0, c1, c2, c3, c4, c5, d0, d1, d2, d3, d4, d5] 27)).heap[w.heap.size]? = some (.cells #[c0, c1, c2, c3, c4, c5, d0, d1, d2, d3, d4, d5] 27 (0, 0)) := heap_alloc_new _ _
  refine ⟨w.heap.size, 0, rfl, trivial, by simp, fun i hi => ?_⟩
  have hi2 : i = 0 ∨ i = 1 := by simp at hi; omega
  rcases hi2 with rfl | rfl
  · refine ⟨_, fun q c hc => ?_, h1.below (belowOne _ _) (Nat.le_refl _)⟩
    rw [cell_of_row _ _ _ _ _ _ hb]
    rcases q with _ | _ | _ | _ | _ | _ | q <;> first | exact hc | simp [aggC] at hc
  · refine ⟨_, fun q c hc => ?_, h2.below (belowOne _ _) (Nat.le_refl _)⟩
    rw [cell_of_row _ _ _ _ _ _ hb]
    rcases q with _ | _ | _ | _ | _ | _ | q <;> first | exact hc | simp [aggC] at hc
/-- A value's names. -/
theorem jAt_strs {S : Nat → Prop} {w : World} {d : Nat} {j : J} {k m e : Int} {t : ByteArray} {an : Option Addr} {nn cn : Nat} {ai : Option Addr} {ni ci : Nat} (h : JAt S w d (.agg #[.int .i64 k, .int .i64 m, .int .i64 e, .string t, .slice an nn cn, .slice ai ni ci]) j) :
    StrsAt S w (.slice an nn cn) j.ns ∧ nn ≤ 8796093021952 := by
  obtain ⟨k', m', e', t', ns, is⟩ := j
  obtain ⟨d', an', cn', ai', ci', hd, hv, _, _, _, _, hs, _, h1, _⟩ := h.open_
  simp only [Value.agg.injEq, Array.mk.injEq, List.cons.injEq, Value.int.injEq, Value.string.injEq, Value.slice.injEq, true_and, and_true] at hv
  obtain ⟨rfl, rfl, rfl, rfl, ⟨rfl, rfl, rfl⟩, _⟩ := hv
  exact ⟨hs, h1⟩

set_option maxHeartbeats 16000000 in
set_option maxRecDepth 100000 in
theorem ftells_walk (v : Value) (n : Nat) (j : J) (nm : List UInt8) (sv : Value) (fs : List Fd) (nv : Value) (names0 : List (List UInt8)) (ai : Option Addr) (ci : Nat) (items : List J) (dI : Nat) (x : Int) (w : World)
    (hJ : JAt Any w n v j) (hnm : txtB nm) (hS : FdsAt w sv fs) (hN : StrsAt Any w nv names0) (hc : items.length ≤ ci) (hl : items.length ≤ 1599289640354) (hI : ItemsAt Any w dI ai items) (hx0 : -9223372036854775808 ≤ x) (hx1 : x ≤ 9223372036854775807) :
    Calls Try.prog 3 #[v, .string ⟨nm.toArray⟩, sv, nv, .slice ai items.length ci, .int .i64 x] w (Ret (.bool true) w) := by
  have A1 := Lib.hid (fun w' => awake5_any w')
  obtain ⟨an, cn, rfl, hn1, hn2, htx, hcl⟩ := hN
  have HN0 : Hid (StrsAt Any w (.slice an names0.length cn) names0) := ⟨an, cn, rfl, hn1, hn2, htx, hcl⟩
  have HN1 := Lib.hid (HN0.out.take 12)
  obtain ⟨n0, HL0⟩ : ∃ m, Hid (names0.length = m) := ⟨_, rfl⟩
  have hlen : (names0.take 12).length = min 12 names0.length := by simp
  have hn12 : (names0.take 12).length ≤ 12 := by simp; omega
  rw [HL0.out] at hn1 hn2 hlen ⊢
  generalize names0.take 12 = names at *
  clear htx hcl HN0
  obtain ⟨nl, HLn⟩ : ∃ m, Hid (names.length = m) := ⟨_, rfl⟩
  rw [HLn.out] at hlen hn12
  have HCASE : Hid ((n0 ≤ 12 ∧ nl = n0) ∨ (12 < n0 ∧ nl = 12)) := by
    show _ ∨ _
    omega
  have hncap : nl ≤ cn := by omega
  clear hlen
  obtain ⟨k, m, e, t, an1, nn1, cn1, ai1, ni1, ci1, rfl⟩ := jAt_form hJ
  have HJ := Lib.hid hJ
  have HS := Lib.hid hS
  have HI := Lib.hid hI
  have HL := Lib.hid hl
  have HC := Lib.hid hc
  have HNM := Lib.hid hnm
  obtain ⟨ao, cap, rfl, _⟩ := hS
  have M1 := Lib.hid (fun (w' : World) (hb : Below w.heap.size w w') => make5_any Any Any dI w' an cn ai ci names items (HN1.out.below hb (Nat.le_refl _)) HL.out HC.out (HI.out.below hb) (by rw [HLn.out]; omega))
  have M2 := Lib.hid (fun (w' : World) (hb : Below w.heap.size w w') => rmake5_any dI w' an cn ai ci names items (HN1.out.below hb (Nat.le_refl _)) HL.out HC.out (HI.out.below hb) (by rw [HLn.out]; omega))
  unfold CRet at M1
  clear hJ hI hnm
  generalize mkJ names items = jm at *
  generalize fs.length = nf at *
  obtain ⟨il, HIL⟩ : ∃ m, Hid (items.length = m) := ⟨_, rfl⟩
  rw [HIL.out] at hc hl M1 M2 ⊢
  rw [HLn.out] at M1 M2
  have HB0 := Lib.hid (belowOne w (.cells #[.int .i64 k, .int .i64 m, .int .i64 e, .string t, .slice an1 nn1 cn1, .slice ai1 ni1 ci1] 27))
  have HX0 := Lib.hid (heap_alloc_new w (.cells #[.int .i64 k, .int .i64 m, .int .i64 e, .string t, .slice an1 nn1 cn1, .slice ai1 ni1 ci1] 27))
  go_enter Try.func3, Try.ntmps3
  go_upto_if 42 with (go_at_call 4; (with_reducible refine (A1.out _).mono ?_); rintro e1 w1 ⟨rfl, hb1⟩)
  have HB1 := Lib.hid (HB0.out.trans (hb1.mono HB0.out.size))
  have HX1 := Lib.hid ((hb1.block _ (Own.block_lt HX0.out)).trans HX0.out)
  clear hb1 HB0 HX0
  go_cut [3] from 42 to 44 (fun s3 wx => s3 = .slice an nl cn ∧ w1 = wx)
  case first =>
    clear M1 M2 HJ HS HI
    rcases HCASE.out with ⟨h1, h2⟩ | ⟨h1, h2⟩
    · subst h2
      have h3 : ¬ (12 : Int) < (nl : Int) := by omega
      go_wp2_with fail
      go_meet
      exact ⟨rfl, rfl⟩
    · subst h2
      have h3 : (12 : Int) < (n0 : Int) := by omega
      go_wp2_with fail
      go_meet
      exact ⟨rfl, rfl⟩
  case rest =>
    obtain ⟨rfl, rfl⟩ := hcut
    go_upto_region 5 with (go_at_call 5; (with_reducible refine (M1.out _ HB1.out).mono ?_); rintro e2 w2 ⟨k2, m2, e2', t2, an2, nn2, cn2, ai2, ni2, ci2, rfl, hJ2, hb2⟩)
    have HB2 := Lib.hid (HB1.out.trans (hb2.mono HB1.out.size))
    have HX2 := Lib.hid ((hb2.block _ (Own.block_lt HX1.out)).trans HX1.out)
    have HM2 := Lib.hid (BX.new hJ2)
    have HB3 := Lib.hid (HB2.out.alloc HB2.out.size (.cells #[.int .i64 k2, .int .i64 m2, .int .i64 e2', .string t2, .slice an2 nn2 cn2, .slice ai2 ni2 ci2] 27))
    have HX3 := Lib.hid ((Below.heap_alloc w2 (.cells #[.int .i64 k2, .int .i64 m2, .int .i64 e2', .string t2, .slice an2 nn2 cn2, .slice ai2 ni2 ci2] 27) _ (Own.block_lt HX2.out)).trans HX2.out)
    have hbl2 : w.heap.size < w2.heap.size := Own.block_lt HX2.out
    clear hJ2 hb2 M1 HX1 HX2 HB1 HB2
    generalize w2.heap.size = b14 at *
    generalize hw3 : w2.alloc (.cells #[.int .i64 k2, .int .i64 m2, .int .i64 e2', .string t2, .slice an2 nn2 cn2, .slice ai2 ni2 ci2] 27) = w3 at *
    clear hw3
    obtain ⟨p0, p1, p2, p3, p4, p5⟩ := six_of HM2.out.box
    have hb14 := Own.block_lt HM2.out.box
    go_cut [57] from 48 to 57 (fun s57 wx => s57 = .bool false ∧ Below w3.heap.size w3 wx)
    case first =>
      have MD := Lib.hid (M2.out w3.drew HB3.out.drew)
      clear M2 HX3 HJ HS HI HN1
      go_region_law (first
        | (go_simp; go_at_call 7; (with_reducible refine (MD.out).mono ?_); rintro e5 w5 ⟨nn5, cn5, ni5, ci5, a5, a5', rfl, hJ5, hb5⟩; have HB5 := Lib.hid (((Below.refl _ _).drew).trans hb5 : Below w3.heap.size w3 w5); have HM5 := Lib.hid (HM2.out.below HB5.out); obtain ⟨q0, q1, q2, q3, q4, q5⟩ := six_of HM5.out.box; have SD := Lib.hid (rsame_of Any Any _ _ jm jm w5 ⟨_, HM5.out.jat⟩ ⟨_, hJ5⟩); rw [sameJ_refl] at SD; clear hJ5 hb5)
        | (go_simp; go_at_call 6; (with_reducible refine (SD.out).mono ?_); rintro e6 w6 ⟨rfl, hb6⟩; have HB6 := Lib.hid (HB5.out.trans (hb6.mono HB5.out.size))))
      all_goals go_wp2_with fail
      all_goals go_meet
      all_goals exact ⟨rfl, HB6.out⟩
    case rest =>
      obtain ⟨rfl, hb4⟩ := hcut
      have HB4 := Lib.hid (HB3.out.trans (hb4.mono HB3.out.size))
      have HX4 := Lib.hid ((hb4.block _ (Own.block_lt HX3.out)).trans HX3.out)
      have HM4 := Lib.hid (HM2.out.below hb4)
      clear p0 p1 p2 p3 p4 p5 hb14 hb4 HB3 HX3 HM2 M2
      generalize wc = w4 at *
      obtain ⟨p0, p1, p2, p3, p4, p5⟩ := six_of HM4.out.box
      obtain ⟨y0, y1, y2, y3, y4, y5⟩ := six_of HX4.out
      have hb14 := Own.block_lt HM4.out.box
      have hbv := Own.block_lt HX4.out
      have HI5 := Lib.hid (two_its (D := max n (dI + 1)) (HJ.out.below HB4.out (Nat.le_refl _) |>.deep (Nat.le_max_left _ _)) (HM4.out.jat.deep (Nat.le_max_right _ _)))
      have HB5 := Lib.hid (HB4.out.alloc HB4.out.size (.cells #[.int .i64 k, .int .i64 m, .int .i64 e, .string t, .slice an1 nn1 cn1, .slice ai1 ni1 ci1, .int .i64 k2, .int .i64 m2, .int .i64 e2', .string t2, .slice an2 nn2 cn2, .slice ai2 ni2 ci2] 27))
      generalize max n (dI + 1) = D at *
      go_upto_block 0 with fail
      go_cut [62] from 58 to 194 (fun _ wx => Below w4.heap.size w4 wx)
      case first =>
        go_wp2_with fail
        generalize hw5 : w4.alloc (.cells #[.int .i64 k, .int .i64 m, .int .i64 e, .string t, .slice an1 nn1 cn1, .slice ai1 ni1 ci1, .int .i64 k2, .int .i64 m2, .int .i64 e2', .string t2, .slice an2 nn2 cn2, .slice ai2 ni2 ci2] 27) = w5 at *
        have hb45 : Below w4.heap.size w4 w5 := by rw [← hw5]; exact belowOne _ _
        have HB45 := Lib.hid hb45
        have hsz5 : w4.heap.size < w5.heap.size := by rw [← hw5]; simp
        clear hw5 y0 y1 y2 y3 y4 y5 p0 p1 p2 p3 p4 p5 hb14 hbv hbl2 HM4 HX4 hb45
        go_loopw [62] (fun i wr => ∃ q : Nat, q ≤ 2 ∧ i = .int .i64 q ∧ Hid (Below w5.heap.size w5 wr)) (fun i _ => 2 - (intOf i).toNat)
        case atStart => exact ⟨0, by omega, rfl, Below.refl _ _⟩
        case round =>
          obtain ⟨q, hq, rfl, HW⟩ := hrel
          by_cases hq2 : q < 2
          · obtain ⟨by0, oy0, c0, c1, c2, c3, c4, c5, eby, hbly, hly, hJy⟩ := item_at (P := (q : Int)) HI5.out (by omega) (by simp; omega)
            cases eby
            rw [show ((q : Int)).toNat = q from rfl, Nat.zero_add] at hly
            rw [show ((q : Int)).toNat = q from rfl] at hJy
            obtain ⟨ky, my, ey, ty, any, nny, cny, aiy, niy, ciy, ev⟩ := jAt_form hJy
            cases ev
            generalize [j, jm].getD q j0 = y at *
            obtain ⟨y0, y1, y2, y3, y4, y5⟩ := (hly.keep (HW.out.block _ hbly)).six
            have hblr : w4.heap.size < wr.heap.size := Nat.lt_of_lt_of_le hbly HW.out.size
            have HJY := Lib.hid (hJy.below HW.out (Nat.le_refl _))
            have HY1 := Lib.hid (BX.new HJY.out)
            have hns := jAt_strs HJY.out
            have hnny := hns.2
            have HNS := Lib.hid (hns.1.below (belowOne wr (.cells #[.int .i64 ky, .int .i64 my, .int .i64 ey, .string ty, .slice any nny cny, .slice aiy niy ciy] 27)) (Nat.le_refl _))
            have HBW := Lib.hid (belowOne wr (.cells #[.int .i64 ky, .int .i64 my, .int .i64 ey, .string ty, .slice any nny cny, .slice aiy niy ciy] 27))
            have HW6 := Lib.hid (HW.out.trans (HBW.out.mono HW.out.size))
            have i1 : (q : Int) < 2 := by omega
            clear hly hJy hns HBW
            go_upto_region 10 with fail
            generalize hw6 : wr.alloc (.cells #[.int .i64 ky, .int .i64 my, .int .i64 ey, .string ty, .slice any nny cny, .slice aiy niy ciy] 27) = w6 at *
            clear hw6 y0 y1 y2 y3 y4 y5
            generalize wr.heap.size = b16 at *
            obtain ⟨y0, y1, y2, y3, y4, y5⟩ := six_of HY1.out.box
            have hb16 := Own.block_lt HY1.out.box
            obtain ⟨L, hL⟩ : ∃ L, 1 + nny = L := ⟨_, rfl⟩
            have hLm : L ≤ 8796093021953 := by omega
            have HL1 := Lib.hid hL
            clear hL hnny
            have HG1 := Lib.hid (heap_alloc_new w6 (.cells #[.string ⟨nm.toArray⟩] 9))
            have HNS2 := Lib.hid (HNS.out.below (belowOne w6 (.cells #[.string ⟨nm.toArray⟩] 9)) (Nat.le_refl _))
            go_wp2_with (refine wpList_append_strs (by rfl) _ _ (by rfl) _ (by rfl) _ _ _ (by rfl) Any w6.heap.size nm y.ns HG1.out (Nat.le_refl _) HNS2.out L HL1.out ?_; intro g7 c7 w7 hc7 hsa hb7; have HSA := Lib.hid hsa; have HB67 := Lib.hid ((belowOne w6 (.cells #[.string ⟨nm.toArray⟩] 9)).trans hb7); have HY7 : Hid (YT w7 D y #[.int .i64 ky, .int .i64 my, .int .i64 ey, .string ty, .slice any nny cny, .slice aiy niy ciy] b16 w7) := ⟨Below.refl _ _, HY1.out.below HB67.out⟩; have hl7 := hsa.1; clear hsa hb7)
            go_loopw [72] (fun i wx => ∃ q : Nat, q ≤ L ∧ i = .int .i64 q ∧ Hid (YT w7 D y #[.int .i64 ky, .int .i64 my, .int .i64 ey, .string ty, .slice any nny cny, .slice aiy niy ciy] b16 wx)) (fun i _ => L - (intOf i).toNat)
            case atStart => exact ⟨0, by omega, rfl, HY7⟩
            case round =>
              obtain ⟨q2, hq3, rfl, HY⟩ := hrel
              by_cases hq4 : q2 < L
              · have xs := HSA.out.cell HY.out.bel hq4
                have hl8 : g7 < wr.heap.size := Nat.lt_of_lt_of_le hl7 HY.out.bel.size
                generalize (nm :: y.ns).getD q2 [] = s at *
                have G1 := Lib.hid (fun w' (h : YT w7 D y #[.int .i64 ky, .int .i64 my, .int .i64 ey, .string ty, .slice any nny cny, .slice aiy niy ciy] b16 w') => get5_any Any D _ y s w' h.bx.jat)
                have G2 := Lib.hid (fun w' (h : YT w7 D y #[.int .i64 ky, .int .i64 my, .int .i64 ey, .string ty, .slice any nny cny, .slice aiy niy ciy] b16 w') => rget_any Any D _ y s w' h.bx.jat)
                have N1 := Lib.hid (fun w' (h : YT w7 D y #[.int .i64 ky, .int .i64 my, .int .i64 ey, .string ty, .slice any nny cny, .slice aiy niy ciy] b16 w') => FNum_any Any D _ y s w' h.bx.jat)
                have N2 := Lib.hid (fun w' (h : YT w7 D y #[.int .i64 ky, .int .i64 my, .int .i64 ey, .string ty, .slice any nny cny, .slice aiy niy ciy] b16 w') => rnum_any Any D _ y s w' h.bx.jat)
                have X1 := Lib.hid (fun w' (h : YT w7 D y #[.int .i64 ky, .int .i64 my, .int .i64 ey, .string ty, .slice any nny cny, .slice aiy niy ciy] b16 w') => FText_any Any D _ y s w' h.bx.jat)
                have X2 := Lib.hid (fun w' (h : YT w7 D y #[.int .i64 ky, .int .i64 my, .int .i64 ey, .string ty, .slice any nny cny, .slice aiy niy ciy] b16 w') => rtext_any Any D _ y s w' h.bx.jat)
                have B1 := Lib.hid (fun w' (h : YT w7 D y #[.int .i64 ky, .int .i64 my, .int .i64 ey, .string ty, .slice any nny cny, .slice aiy niy ciy] b16 w') => FFlag_any Any D _ y s w' h.bx.jat)
                have B2 := Lib.hid (fun w' (h : YT w7 D y #[.int .i64 ky, .int .i64 my, .int .i64 ey, .string ty, .slice any nny cny, .slice aiy niy ciy] b16 w') => rflag_any Any D _ y s w' h.bx.jat)
                have L1 := Lib.hid (fun w' (h : YT w7 D y #[.int .i64 ky, .int .i64 my, .int .i64 ey, .string ty, .slice any nny cny, .slice aiy niy ciy] b16 w') => flist_any Any D _ y s w' h.bx.jat)
                have L2 := Lib.hid (fun w' (h : YT w7 D y #[.int .i64 ky, .int .i64 my, .int .i64 ey, .string ty, .slice any nny cny, .slice aiy niy ciy] b16 w') => rlist_any Any D _ y s w' h.bx.jat)
                unfold GRet at G1
                unfold RG at G2
                unfold LsRet at L1
                unfold RLs at L2
                rw [with_tell] at N2 X2 L2
                rw [flag_tell] at B2
                rw [show lsG y s = tellG [] lstS y s from rfl] at L1
                generalize getS y s = RGY at *
                generalize tellG (0 : Int) numS y s = RN at *
                generalize tellG ([] : List UInt8) txtS y s = RX at *
                generalize tellG false flagS y s = RB at *
                generalize tellG ([] : List J) lstS y s = RL at *
                obtain ⟨gy, gb⟩ := RGY
                obtain ⟨rn, rnb⟩ := RN
                obtain ⟨rx, rxb⟩ := RX
                obtain ⟨rf, rfb⟩ := RB
                obtain ⟨rl, rlb⟩ := RL
                obtain ⟨p0, p1, p2, p3, p4, p5⟩ := six_of HY.out.bx.box
                have hp := Own.block_lt HY.out.bx.box
                have HY0 := HY
                obtain ⟨rll, HRL⟩ : ∃ m, Hid (rl.length = m) := ⟨_, rfl⟩
                clear y0 y1 y2 y3 y4 y5 hb16
                simp only at G1 G2 N1 N2 X1 X2 B1 B2 L1 L2
                rw [HRL.out] at L1 L2
                have j2 : (q2 : Int) < (L : Int) := by omega
                go_upto_region 23 with (first
                  | (go_at_call 8; (with_reducible refine (G1.out _ HY0.out).mono ?_); rintro z1 v1 ⟨k5, m5, e5', t5, an5, nn5, cn5, ai5, ni5, ci5, rfl, hJ5, hb5⟩; have HY1 := Lib.hid ((HY0.out.below hb5).box (.cells #[.int .i64 k5, .int .i64 m5, .int .i64 e5', .string t5, .slice an5 nn5 cn5, .slice ai5 ni5 ci5] 27)); have HA1 := Lib.hid (BX.new hJ5); clear p0 p1 p2 p3 p4 p5 hp hJ5 hb5; obtain ⟨p0, p1, p2, p3, p4, p5⟩ := six_of HY1.out.bx.box; have hp := Own.block_lt HY1.out.bx.box)
                  | (go_at_call 9; (with_reducible refine (G2.out _ HY1.out).mono ?_); rintro z2 v2 ⟨k6, m6, e6', t6, an6, nn6, cn6, ai6, ni6, ci6, rfl, hJ6, hb6⟩; have HY2 := Lib.hid ((HY1.out.below hb6).box (.cells #[.int .i64 k6, .int .i64 m6, .int .i64 e6', .string t6, .slice an6 nn6 cn6, .slice ai6 ni6 ci6] 27)); have HA2 := Lib.hid ((HA1.out.below hb6).below (belowOne v2 (.cells #[.int .i64 k6, .int .i64 m6, .int .i64 e6', .string t6, .slice an6 nn6 cn6, .slice ai6 ni6 ci6] 27))); have HB2 := Lib.hid (BX.new (hJ6.below hb6 (Nat.le_refl _))); clear p0 p1 p2 p3 p4 p5 hp hJ6 hb6; obtain ⟨p0, p1, p2, p3, p4, p5⟩ := six_of HY2.out.bx.box; have hp := Own.block_lt HY2.out.bx.box)
                  | (go_at_call 10; (with_reducible refine (N1.out _ HY2.out).mono ?_); rintro z3 v3 ⟨rfl, hb⟩; have HY3 := Lib.hid (HY2.out.below hb); have HA3 := Lib.hid (HA2.out.below hb); have HB3 := Lib.hid (HB2.out.below hb); clear p0 p1 p2 p3 p4 p5 hp hb; obtain ⟨p0, p1, p2, p3, p4, p5⟩ := six_of HY3.out.bx.box; have hp := Own.block_lt HY3.out.bx.box)
                  | (go_at_call 11; (with_reducible refine (N2.out _ HY3.out).mono ?_); rintro z4 v4 ⟨rfl, hb⟩; have HY4 := Lib.hid (HY3.out.below hb); have HA4 := Lib.hid (HA3.out.below hb); have HB4 := Lib.hid (HB3.out.below hb); clear p0 p1 p2 p3 p4 p5 hp hb; obtain ⟨p0, p1, p2, p3, p4, p5⟩ := six_of HY4.out.bx.box; have hp := Own.block_lt HY4.out.bx.box)
                  | (go_at_call 12; (with_reducible refine (X1.out _ HY4.out).mono ?_); rintro z5 v5 ⟨rfl, hb⟩; have HY5 := Lib.hid (HY4.out.below hb); have HA5 := Lib.hid (HA4.out.below hb); have HB5 := Lib.hid (HB4.out.below hb); clear p0 p1 p2 p3 p4 p5 hp hb; obtain ⟨p0, p1, p2, p3, p4, p5⟩ := six_of HY5.out.bx.box; have hp := Own.block_lt HY5.out.bx.box)
                  | (go_at_call 13; (with_reducible refine (X2.out _ HY5.out).mono ?_); rintro z6 v6 ⟨rfl, hb⟩; have HY6 := Lib.hid (HY5.out.below hb); have HA6 := Lib.hid (HA5.out.below hb); have HB6 := Lib.hid (HB5.out.below hb); clear p0 p1 p2 p3 p4 p5 hp hb; obtain ⟨p0, p1, p2, p3, p4, p5⟩ := six_of HY6.out.bx.box; have hp := Own.block_lt HY6.out.bx.box)
                  | (go_at_call 14; (with_reducible refine (B1.out _ HY6.out).mono ?_); rintro z7 v7 ⟨rfl, hb⟩; have HY7 := Lib.hid (HY6.out.below hb); have HA7 := Lib.hid (HA6.out.below hb); have HB7 := Lib.hid (HB6.out.below hb); clear p0 p1 p2 p3 p4 p5 hp hb; obtain ⟨p0, p1, p2, p3, p4, p5⟩ := six_of HY7.out.bx.box; have hp := Own.block_lt HY7.out.bx.box)
                  | (go_at_call 15; (with_reducible refine (B2.out _ HY7.out).mono ?_); rintro z8 v8 ⟨rfl, hb⟩; have HY8 := Lib.hid (HY7.out.below hb); have HA8 := Lib.hid (HA7.out.below hb); have HB8 := Lib.hid (HB7.out.below hb); clear p0 p1 p2 p3 p4 p5 hp hb; obtain ⟨p0, p1, p2, p3, p4, p5⟩ := six_of HY8.out.bx.box; have hp := Own.block_lt HY8.out.bx.box)
                  | (go_at_call 16; (with_reducible refine (L1.out _ HY8.out).mono ?_); rintro z9 v9 ⟨ai9, ci9, rfl, hc9, hI9, hb⟩; have HY9 := Lib.hid (HY8.out.below hb); have HA9 := Lib.hid (HA8.out.below hb); have HB9 := Lib.hid (HB8.out.below hb); have HC9 := Lib.hid hc9; have HI9 := Lib.hid (hI9.keep (S' := Any) (fun _ _ _ => trivial) (fun _ _ _ => rfl) (Nat.le_refl _)); clear p0 p1 p2 p3 p4 p5 hp hb hI9 hc9; obtain ⟨p0, p1, p2, p3, p4, p5⟩ := six_of HY9.out.bx.box; have hp := Own.block_lt HY9.out.bx.box)
                  | (go_at_call 17; (with_reducible refine (L2.out _ HY9.out).mono ?_); rintro z10 v10 ⟨ai10, ci10, rfl, hc10, hm10, hI10, hb⟩; have HY10 := Lib.hid (HY9.out.below hb); have HA10 := Lib.hid (HA9.out.below hb); have HB10 := Lib.hid (HB9.out.below hb); have HI9b := Lib.hid (HI9.out.below hb); have HI10 := Lib.hid hI10; have HC10 := Lib.hid hc10; have HM10 := Lib.hid hm10; clear p0 p1 p2 p3 p4 p5 hp hb hI10 hc10 hm10))
                obtain ⟨p0, p1, p2, p3, p4, p5⟩ := six_of HA10.out.box
                obtain ⟨y0, y1, y2, y3, y4, y5⟩ := six_of HB10.out.box
                have hp := Own.block_lt HA10.out.box
                have hy := Own.block_lt HB10.out.box
                have SA := Lib.hid (rsame_of Any Any _ _ gy gy v10 ⟨_, HA10.out.jat⟩ ⟨_, HB10.out.jat⟩)
                rw [sameJ_refl] at SA
                have LI := Lib.hid (fun w' (hb : Below v10.heap.size v10 w') => lists_any D D w' ai9 ci9 rl ai10 ci10 rl (by rw [HRL.out]; exact HM10.out) (by rw [HRL.out]; exact HC9.out) (HI9b.out.below hb) (by rw [HRL.out]; exact HM10.out) (by rw [HRL.out]; exact HC10.out) (HI10.out.below hb))
                rw [sameL_refl, HRL.out] at LI
                have HY11 := Lib.hid (fun w' (hb : Below v10.heap.size v10 w') => HY10.out.below hb)
                go_cut [185] from 136 to 185 (fun s185 wx => s185 = .bool false ∧ Below v10.heap.size v10 wx)
                case first =>
                  try clear HY
                  try clear HY0
                  try clear HY1
                  try clear HY2
                  try clear HY3
                  try clear HY4
                  try clear HY5
                  try clear HY6
                  try clear HY7
                  try clear HY8
                  try clear HY9
                  try clear HY10
                  try clear HY11
                  try clear HA1
                  try clear HA2
                  try clear HA3
                  try clear HA4
                  try clear HA5
                  try clear HA6
                  try clear HA7
                  try clear HA8
                  try clear HA9
                  try clear HA10
                  try clear HB2
                  try clear HB3
                  try clear HB4
                  try clear HB5
                  try clear HB6
                  try clear HB7
                  try clear HB8
                  try clear HB9
                  try clear HB10
                  try clear HI9
                  try clear HI9b
                  try clear HI10
                  try clear HC9
                  try clear HC10
                  try clear HM10
                  try clear G1
                  try clear G2
                  try clear N1
                  try clear N2
                  try clear X1
                  try clear X2
                  try clear B1
                  try clear B2
                  try clear L1
                  try clear L2
                  try clear HSA
                  try clear HV
                  try clear HNS
                  try clear HNS2
                  try clear HG1
                  try clear HW
                  try clear HW6
                  try clear HJ
                  try clear HS
                  try clear HI
                  try clear HI5
                  try clear HB5
                  try clear HL
                  try clear HC
                  try clear HN1
                  try clear HCASE
                  try clear A1
                  try clear xs
                  try clear hn1
                  try clear hn2
                  try clear hl
                  try clear hc
                  try clear hx0
                  try clear hx1
                  refine wp_region_bare ?_
                  simp (maxSteps := 100000000) [List.map_cons, List.map_nil, bare]
                  go_wp2_with (first
                    | (go_at_call 6; (with_reducible refine (SA.out).mono ?_); rintro z1 v1 ⟨rfl, hb⟩; have HBA := Lib.hid hb; clear hb)
                    | (go_at_call 18; (with_reducible refine (LI.out _ HBA.out).mono ?_); rintro z2 v2 ⟨rfl, hb⟩; have HBB := Lib.hid (HBA.out.trans (hb.mono HBA.out.size)); clear hb))
                  go_meet
                  exact ⟨rfl, HBB.out⟩
                case rest =>
                  obtain ⟨rfl, hb⟩ := hcut
                  have HYE := Lib.hid (HY11.out _ hb)
                  clear hb p0 p1 p2 p3 p4 p5 y0 y1 y2 y3 y4 y5
                  go_wp2_with fail
                  go_roundw
                  case rel => exact ⟨q2 + 1, by omega, by go_num, HYE⟩
                  case measure => simp [intOf]; omega
              · obtain rfl : q2 = L := by omega
                clear y0 y1 y2 y3 y4 y5 hb16
                obtain ⟨y0, y1, y2, y3, y4, y5⟩ := six_of HY.out.bx.box
                have hb16 := Own.block_lt HY.out.bx.box
                go_upto_region 26 with fail
                have ry0 := cell_regrown y0
                have ry1 := cell_regrown y1
                have ry2 := cell_regrown y2
                have ry3 := cell_regrown y3
                have ry4 := cell_regrown y4
                have ry5 := cell_regrown y5
                have HBR := Lib.hid (HW6.out.trans ((HB67.out.trans (HY.out.bel.mono HB67.out.size)).mono HW6.out.size))
                have HSR := Lib.hid (HS.out.below (HB5.out.trans (HBR.out.mono HB5.out.size)))
                have C1 := Lib.hid (fun (dd : Nat) (os : Array Obj) => Calls.regrown_of (w := wr) (d := dd) (os := os) (check_any Any D _ y _ fs _ (HY.out.bx.jat.below (below_regrown wr dd os) (Nat.le_refl _)) (HSR.out.below (below_regrown wr dd os))))
                have C2 := Lib.hid (fun (dd : Nat) (os : Array Obj) => Calls.regrown_of (w := wr) (d := dd) (os := os) (rcheck_any Any D _ y _ fs _ (HY.out.bx.jat.below (below_regrown wr dd os) (Nat.le_refl _)) (HSR.out.below (below_regrown wr dd os))))
                generalize chkL y fs 0 = ck at *
                refine wp_region_quiet_below mixed5 (by kernel_rfl) ?_
                repeat (quiet_step (first | (with_reducible exact C1.out _ _) | (with_reducible exact C2.out _ _)))
                refine wpQuiet_nil ?_
                intro _ hw'
                obtain ⟨⟨dq, osq⟩, hw''⟩ := hw'
                subst hw''
                have HBN := Lib.hid (HBR.out.trans ((below_regrown wr dq osq).mono HBR.out.size))
                go_wp2_with fail
                go_roundw
                case rel => exact ⟨q + 1, by omega, by go_num, HBN⟩
                case measure => simp [intOf]; omega
          · obtain rfl : q = 2 := by omega
            go_wp2_with fail
            go_meet
            exact HB45.out.trans (HW.out.mono HB45.out.size)
      case rest =>
        have HBF := Lib.hid (HB4.out.trans (hcut.mono HB4.out.size))
        have z : i64B 0 := ⟨by decide, by decide⟩
        obtain ⟨b1, b2, b3⟩ := intJ_B x
        have I1 := Lib.hid (fun w' => int5_any x w' hx0 hx1)
        have I2 := Lib.hid (fun w' => rint5_any x w' hx0 hx1)
        have T1 := Lib.hid (fun w' => str5_any nm w')
        have T2 := Lib.hid (fun w' => rstr5_any nm w')
        obtain ⟨kb, HKB⟩ : ∃ kb : Bool → Int, Hid (∀ b, (if b = true then (3 : Int) else 2) = kb b) := ⟨_, fun _ => rfl⟩
        have hkb : ∀ b, i64B (kb b) := fun b => by rw [← HKB.out b]; cases b <;> exact ⟨by decide, by decide⟩
        have Y1 : Hid (∀ b w', Calls Try.prog 25 #[.bool b] w' (Ret (bareV (kb b) 0 0 []) w')) := fun b w' => by rw [← HKB.out b]; exact yes_any b w'
        have Y2 : Hid (∀ b w', Calls Try.prog 26 #[.bool b] w' (Ret (bareV (kb b) 0 0 []) w')) := fun b w' => by rw [← HKB.out b]; exact ryes_any b w'
        have S1 : Hid (∀ w', Calls Try.prog 6 #[bareV (intJ x).k (intJ x).m (intJ x).e [], bareV (intJ x).k (intJ x).m (intJ x).e []] w' (Ret (.bool true) w')) := fun w' => by
          have h := rsame_of Any Any _ _ _ _ w' ⟨1, leaf_jat b1 b2 b3 (t := []) (by unfold txtB; simp)⟩ ⟨1, leaf_jat b1 b2 b3 (t := []) (by unfold txtB; simp)⟩
          rwa [sameJ_refl] at h
        have S2 : Hid (∀ w', Calls Try.prog 6 #[bareV 5 0 0 nm, bareV 5 0 0 nm] w' (Ret (.bool true) w')) := fun w' => by
          have h := rsame_of Any Any _ _ _ _ w' ⟨1, leaf_jat (k := 5) (m := 0) (e := 0) (t := nm) ⟨by decide, by decide⟩ z z HNM.out⟩ ⟨1, leaf_jat (k := 5) (m := 0) (e := 0) (t := nm) ⟨by decide, by decide⟩ z z HNM.out⟩
          rwa [sameJ_refl] at h
        have S3 : Hid (∀ b w', Calls Try.prog 6 #[bareV (kb b) 0 0 [], bareV (kb b) 0 0 []] w' (Ret (.bool true) w')) := fun b w' => by
          have h := rsame_of Any Any _ _ _ _ w' ⟨1, leaf_jat (hkb b) z z (t := []) (by unfold txtB; simp)⟩ ⟨1, leaf_jat (hkb b) z z (t := []) (by unfold txtB; simp)⟩
          rwa [sameJ_refl] at h
        have R1 := Lib.hid (fun w' (hb : Below w.heap.size w w') => arr5_any Any dI w' ai ci items HL.out HC.out (HI.out.below hb))
        have R2 := Lib.hid (fun w' (hb : Below w.heap.size w w') => rarr_any dI w' ai ci items HL.out HC.out (HI.out.below hb))
        unfold CRet at R1
        unfold bareV at I1 I2 T1 T2 Y1 Y2 S1 S2 S3
        rw [HIL.out] at R1 R2
        generalize (intJ x).k = xk at *
        generalize (intJ x).m = xm at *
        generalize (intJ x).e = xe at *
        clear hkb b1 b2 b3 hcut y0 y1 y2 y3 y4 y5 p0 p1 p2 p3 p4 p5 hb14 hbv hbl2 HM4 HX4 HB4 HB5 HI5 HJ HN1 HCASE A1
        go_wp2_with (first
          | (go_at_call 21; (with_reducible refine (I1.out _).mono ?_); rintro z1 v1 ⟨rfl, hb⟩; have HF1 := Lib.hid (HBF.out.trans (hb.mono HBF.out.size)); clear hb)
          | (go_at_call 22; (with_reducible refine (I2.out _).mono ?_); rintro z2 v2 ⟨rfl, hb⟩; have HF2 := Lib.hid (HF1.out.trans (hb.mono HF1.out.size)); clear hb)
          | (go_at_call 6; (with_reducible refine (S1.out _).mono ?_); rintro z3 v3 ⟨rfl, hb⟩; have HF3 := Lib.hid (HF2.out.trans (hb.mono HF2.out.size)); clear hb)
          | (go_at_call 23; (with_reducible refine (T1.out _).mono ?_); rintro z4 v4 ⟨rfl, hb⟩; have HF4 := Lib.hid (HF3.out.trans (hb.mono HF3.out.size)); clear hb)
          | (go_at_call 24; (with_reducible refine (T2.out _).mono ?_); rintro z5 v5 ⟨rfl, hb⟩; have HF5 := Lib.hid (HF4.out.trans (hb.mono HF4.out.size)); clear hb)
          | (go_at_call 6; (with_reducible refine (S2.out _).mono ?_); rintro z6 v6 ⟨rfl, hb⟩; have HF6 := Lib.hid (HF5.out.trans (hb.mono HF5.out.size)); clear hb)
          | (go_at_call 25; (with_reducible refine (Y1.out _ _).mono ?_); rintro z7 v7 ⟨rfl, hb⟩; have HF7 := Lib.hid (HF6.out.trans (hb.mono HF6.out.size)); clear hb)
          | (go_at_call 26; (with_reducible refine (Y2.out _ _).mono ?_); rintro z8 v8 ⟨rfl, hb⟩; have HF8 := Lib.hid (HF7.out.trans (hb.mono HF7.out.size)); clear hb)
          | (go_at_call 6; (with_reducible refine (S3.out _ _).mono ?_); rintro z9 v9 ⟨rfl, hb⟩; have HF9 := Lib.hid (HF8.out.trans (hb.mono HF8.out.size)); clear hb)
          | (go_at_call 27; (with_reducible refine (R1.out _ HF9.out).mono ?_); rintro z10 v10 ⟨k5, m5, e5', t5, an5, nn5, cn5, ai5, ni5, ci5, rfl, hJ5, hb⟩; have HF10 := Lib.hid (HF9.out.trans (hb.mono HF9.out.size)); have HJ5 := Lib.hid hJ5.any; clear hb hJ5)
          | (go_at_call 28; (with_reducible refine (R2.out _ HF10.out).mono ?_); rintro z11 v11 ⟨a6, c6, rfl, hJ6, hb⟩; have HF11 := Lib.hid (HF10.out.trans (hb.mono HF10.out.size)); have S4 := Lib.hid (rsame_of Any Any _ _ _ _ v11 ⟨_, HJ5.out.below hb (Nat.le_refl _)⟩ ⟨_, hJ6⟩); rw [sameJ_refl] at S4; clear hb hJ6)
          | (go_at_call 6; (with_reducible refine (S4.out).mono ?_); rintro z12 v12 ⟨rfl, hb⟩; have HF12 := Lib.hid (HF11.out.trans (hb.mono HF11.out.size)); clear hb))
        go_ret
        exact ⟨rfl, HF12.out⟩
end Go.Proofs.Ytkmiemaigalgpaa.Js
