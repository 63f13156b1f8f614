import Derived.Test.YthmblgfcjbiomaaRu
/- The document's Far, in a right layout. -/
set_option linter.unusedVariables false
set_option linter.unusedSimpArgs false
namespace Go.Proofs.Ythmblgfcjbiomaa.Rt
open Go.RowKit Go.Shelf Ly
attribute [local go_sem] Oper.semAt_some

def bitOf : Value → Nat
  | .bool true => 1
  | _ => 0
set_option maxHeartbeats 16000000 in
set_option maxRecDepth 100000 in
theorem rfar_yes {n : Int} {es : List Ed} {w : World} (v bv : Value) (hv : EdgesAt w v es) (bl : List Int) (hb : IntsAt w bv bl) (b : Int) (hr : RightL n es) (hn : nodeB n b = true) :
    Calls Try.prog 18 #[.agg #[.int .i64 n, v], bv, .int .i64 b] w (RetInts (farL n es bl b) w) := by
  have HB0 : Hid (Below w.heap.size w (w.alloc (.cells #[.int .i64 n, v] 24))) := (Below.refl _ w).alloc (Nat.le_refl _) _
  have HX0 := Lib.hid (BoxAt.new n v w)
  have HV := Lib.hid (hv.below HB0.out (Nat.le_refl _))
  obtain ⟨Q, HQ⟩ : ∃ Q, Hid (RetInts (farL n es bl b) w = Q) := ⟨_, rfl⟩
  rw [HQ.out]
  have C := Lib.hid (fun u w' hu => rright_any (n := n) (es := es) (w := w') u hu true (rightB_true hr))
  obtain ⟨b0, b1⟩ := nodeB_iff.1 hn
  have HE := Lib.hid hv
  have HI := Lib.hid hb
  obtain ⟨eo, ce, rfl⟩ := slE hv
  have n40 := hr.2.1
  have n1 := hr.1
  obtain ⟨N, hN⟩ : ∃ N : Nat, n = (N : Int) := ⟨n.toNat, by omega⟩
  subst hN
  have hN40 : N ≤ 40 := by omega
  have h120 : es.length ≤ 120 := hr.2.2.1
  have MK := make_ints N hN40
  obtain ⟨bn, rfl⟩ : ∃ bn : Nat, b = (bn : Int) := ⟨b.toNat, by omega⟩
  have HRR := Lib.hid hr
  clear hv hb hn hr
  go_enter Try.func18, Try.ntmps18
  go_upto_region 2 with (go_at_call 29; (with_reducible refine (C.out _ _ HV.out).mono ?_); rintro e w1 ⟨rfl, hb1⟩; have HB1 := Lib.hid (HB0.out.trans (hb1.mono HB0.out.size)); have HX1 := Lib.hid (HX0.out.below hb1); clear hb1)
  clear C
  have c0 := HX1.out.c0
  have hs2 := HX1.out.lt
  have d1 : decide ((bn : Int) < 0) = false := by simp
  have d2 : decide (N ≤ bn) = false := by simp; omega
  go_upto_region 5 with fail
  have HF0 := Lib.hid (FarR.start (N := N) HB1.out HX1.out)
  generalize w1.heap.size = fb at *
  generalize w1.alloc (.cells (intC (List.replicate N 0)).toArray 3) = w3 at *
  clear c0 hs2 MK d1 d2
  go_wp2_with fail
  go_loopw [9] (fun i wr => ∃ k : Nat, k ≤ N ∧ i = .int .i64 k ∧ Hid (FarR N (.slice eo es.length ce) w wr fb N (List.replicate k (-1) ++ List.replicate (N - k) 0))) (fun i _ => N - (intOf i).toNat)
  case atStart => exact ⟨0, Nat.zero_le _, rfl, by simpa using HF0⟩
  case round =>
    obtain ⟨k, hk, rfl, HK⟩ := hrel
    clear HF0
    have c0 := HK.out.box.c0
    by_cases hlt : k < N
    · have c1 := HK.out.row.cell (i := k) (by rw [HK.out.len]; exact hlt)
      have c2 := HK.out.row.thaw k
      have HS : Hid (FarR N (.slice eo es.length ce) w (wr.setCell ⟨fb, k, none⟩ (.int .i64 (-1))) fb N (List.replicate (k + 1) (-1) ++ List.replicate (N - (k + 1)) 0)) := by
        have := HK.out.set k (-1)
        rw [fill_set hlt] at this
        exact this
      go_wp2_with fail
      go_roundw
      case rel => exact ⟨k + 1, hlt, by go_num, HS⟩
      case measure => simp [intOf]; omega
    · obtain rfl : k = N := by omega
      have hbk : bn < k := by omega
      have c1 := HK.out.row.cell (i := bn) (by rw [HK.out.len]; exact hbk)
      have c2 := HK.out.row.thaw bn
      have HS : Hid (FarR k (.slice eo es.length ce) w (wr.setCell ⟨fb, bn, none⟩ (.int .i64 0)) fb k (startF k bn)) := by
        have := HK.out.set bn 0
        rw [Nat.sub_self, List.replicate_zero, List.append_nil] at this
        unfold startF
        rw [Int.toNat_natCast, Int.toNat_natCast]
        exact this
      have HBF : Hid (BF k es bl bn (startF k bn)) := BF.start b0 b1
      go_upto_region 10 with fail
      generalize wr.setCell ⟨fb, bn, none⟩ (.int .i64 0) = w4 at *
      clear c0 c1 c2
      generalize startF k bn = o at *
      go_wp2_with fail
      go_loopw [10] (fun ch wr => ∃ (c : Bool) (o : List Int), ch = .bool c ∧ Hid (FarR k (.slice eo es.length ce) w wr fb k o) ∧ Hid (BF k es bl bn o) ∧ Hid (c = false → ∀ j, j < es.length → lessB bl o (ate es j) = false)) (fun ch wr => 2 * left (rowI wr fb) + bitOf ch)
      case atStart => exact ⟨true, o, rfl, HS, HBF, fun e => (by cases e)⟩
      case round =>
        clear HS HBF HK
        obtain ⟨c, o, rfl, HS, HBF, HLT⟩ := hrel
        cases c with
        | false =>
          have HFIN : Hid (Q (.returned (.slice (some ⟨fb, 0, none⟩) k k)) wr) := by
            show Q _ _
            rw [← HQ.out]
            have h1 : o = farL k es bl bn := farL_eq HRR.out b0 b1 (by have := HS.out.len; omega) (HBF.out.far (HLT.out rfl))
            subst h1
            exact ⟨_, rfl, HS.out.row.ints HS.out.len (by omega), HS.out.below⟩
          go_wp2_with fail
          exact HFIN.out
        | true =>
          have HM := Lib.hid (rowI_of HS.out.row)
          go_upto_region 13 with fail
          go_wp2_with fail
          go_loopw [10, 11] (fun ch i wx => ∃ (c : Bool) (q : Nat) (p : List Int), ch = .bool c ∧ i = .int .i64 q ∧ q ≤ es.length ∧ Hid (FarR k (.slice eo es.length ce) w wx fb k p) ∧ Hid (Pass k es bl bn o c q p)) (fun _ i _ => es.length - (intOf i).toNat)
          case atStart => exact ⟨false, 0, o, rfl, rfl, Nat.zero_le _, HS, Pass.start HBF.out⟩
          case round =>
            obtain ⟨c, q, p, rfl, rfl, hq, HP, HPS⟩ := hrel
            have c1 := HP.out.box.c1
            by_cases hqe : q < es.length
            · obtain ⟨ea, ec', he1, he2, he3⟩ := HE.out
              cases he1
              obtain ⟨eb, eof, rfl, le, hes⟩ := he3 (by omega)
              have g0 := (HP.out.below.cell (p := ⟨eb, eof + q * 3, none⟩) le).trans (hes q hqe).1
              have g1 := (HP.out.below.cell (p := ⟨eb, eof + q * 3 + 1, none⟩) le).trans (hes q hqe).2.1
              have g2 := (HP.out.below.cell (p := ⟨eb, eof + q * 3 + 2, none⟩) le).trans (hes q hqe).2.2
              obtain ⟨⟨s0, s1⟩, ⟨t0, t1⟩, _, cc0, cc1⟩ := HRR.out.at hqe
              have HSK := Lib.hid (fun h => HPS.out.skip (k := q) h)
              have HHT := Lib.hid (fun h => HPS.out.hit HRR.out hqe h)
              have hbd := HPS.out.bf.bound HRR.out
              have hpl := HP.out.len
              have hmn : ∀ m, mayB bl (ate es q) = m → decide ((ate es q).2.1 ∈ bl) = !m := fun m h => mayB_not h
              unfold lessB at HSK HHT
              generalize hmb : mayB bl (ate es q) = m at *
              have hmt := hmn m rfl
              clear hmn hmb
              generalize (ate es q).1 = f at *
              generalize (ate es q).2.1 = t at *
              generalize (ate es q).2.2 = cst at *
              obtain ⟨fn, rfl⟩ : ∃ q : Nat, f = (q : Int) := ⟨f.toNat, by omega⟩
              obtain ⟨tn, rfl⟩ : ∃ q : Nat, t = (q : Int) := ⟨t.toNat, by omega⟩
              rw [Int.toNat_natCast] at HHT
              have hlt1 := hbd _ (gi_mem (o := p) (v := (tn : Int)) (by omega))
              clear he2 he3 hes hbd
              go_upto_region 17 with fail
              clear g0 g1 g2 c1
              have hba : Below wr.heap.size wr (wr.alloc (.cells #[.int .i64 fn, .int .i64 tn, .int .i64 cst] 41)) := (Below.refl _ wr).alloc (Nat.le_refl _) _
              have HPA := Lib.hid (HP.out.grow hba)
              have ky : (wr.alloc (.cells #[.int .i64 fn, .int .i64 tn, .int .i64 cst] 41)).heap[wr.heap.size]? = some (.cells #[.int .i64 fn, .int .i64 tn, .int .i64 cst] 41 (0, 0)) := heap_alloc_new wr _
              have CM := Lib.hid (rmay_any fn tn cst bl bv _ (HI.out.below HPA.out.below (Nat.le_refl _)) m hmt)
              go_upto_region 18 with (go_at_call 28; (with_reducible refine (CM.out).mono ?_); rintro e wy ⟨rfl, hby⟩)
              have HPY := Lib.hid (HPA.out.grow hby)
              have kz := (hby.block wr.heap.size (by simp)).trans ky
              have e0 := cell_of_row _ _ 0 _ _ _ kz
              have e1 := cell_of_row _ _ 1 _ _ _ kz
              have e2 := cell_of_row _ _ 2 _ _ _ kz
              have hxe : wr.heap.size < wy.heap.size := (Array.getElem?_eq_some_iff.1 kz).1
              clear hba HPA ky CM hby kz hmt HP HPS
              generalize wr.heap.size = xe at *
              have p0 := HPY.out.at fn (by omega)
              have p1 := HPY.out.at tn (by omega)
              generalize gi p (fn : Int) = df at *
              generalize gi p (tn : Int) = dt at *
              cases m with
              | false =>
                have HK1 := Lib.hid (HSK.out (by simp))
                clear HSK HHT
                go_wp2_with fail
                go_roundw
                case rel => exact ⟨c, q + 1, p, rfl, by go_num, by omega, HPY, HK1⟩
                case measure => simp [intOf]; omega
              | true =>
                rw [Bool.true_and] at HSK HHT
                by_cases x1 : dt < 0
                · have q1 : decide (dt < 0) = true := by simpa using x1
                  have HK1 := Lib.hid (HSK.out (by rw [decide_eq_false (show ¬ 0 ≤ dt by omega)]; rfl))
                  clear HSK HHT x1
                  go_wp2_with fail
                  go_roundw
                  case rel => exact ⟨c, q + 1, p, rfl, by go_num, by omega, HPY, HK1⟩
                  case measure => simp [intOf]; omega
                · have q1 : decide (dt < 0) = false := by simpa using x1
                  rw [decide_eq_true (show 0 ≤ dt by omega), Bool.true_and] at HSK HHT
                  have hwr : IntKind.i64.wrap (dt + cst) = dt + cst := by rw [IntKind.wrap_i64]; omega
                  go_upto_region 19 with fail
                  go_quiet (fail)
                  have HZ : Below wy.heap.size wy (wy.drewN nq) := ⟨rfl, rfl, rfl, Nat.le_refl _, fun _ _ => rfl⟩
                  have HPZ := Lib.hid (HPY.out.grow HZ)
                  have z0 := (HZ.cell (p := ⟨xe, 0, none⟩) hxe).trans e0
                  have w0 := (HZ.cell (p := ⟨fb, fn, none⟩) HPY.out.row.lt).trans p0
                  have w2 := HPZ.out.row.thaw fn
                  clear e0 e1 e2 p0 p1 HZ HPY q1 x1
                  generalize wy.drewN nq = wz at *
                  generalize hsm : dt + cst = sm at *
                  clear hsm hwr
                  go_upto_region 20 with fail
                  have HSET := Lib.hid (HPZ.out.set fn sm)
                  by_cases x2 : df < 0
                  · have q2 : decide (df < 0) = true := by simpa using x2
                    have HK1 := Lib.hid (HHT.out (by rw [q2]; rfl))
                    clear HSK HHT x2
                    go_wp2_with fail
                    go_roundw
                    case rel => exact ⟨true, q + 1, _, rfl, by go_num, by omega, HSET, HK1⟩
                    case measure => simp [intOf]; omega
                  · have q2 : decide (df < 0) = false := by simpa using x2
                    by_cases x3 : sm < df
                    · have q3 : decide (sm < df) = true := by simpa using x3
                      have HK1 := Lib.hid (HHT.out (by rw [q2, q3]; rfl))
                      clear HSK HHT x2 x3
                      go_wp2_with fail
                      go_roundw
                      case rel => exact ⟨true, q + 1, _, rfl, by go_num, by omega, HSET, HK1⟩
                      case measure => simp [intOf]; omega
                    · have q3 : decide (sm < df) = false := by simpa using x3
                      have HK1 := Lib.hid (HSK.out (by rw [q2, q3]; rfl))
                      clear HSK HHT x2 x3
                      go_wp2_with fail
                      go_roundw
                      case rel => exact ⟨c, q + 1, p, rfl, by go_num, by omega, HPZ, HK1⟩
                      case measure => simp [intOf]; omega
            · obtain rfl : q = es.length := by omega
              have HLZ : Hid (c = false → ∀ j, j < es.length → lessB bl p (ate es j) = false) := fun e j hj => by
                have h1 := HPS.out.same e
                rw [h1.1]
                exact h1.2 j hj
              have HME : Hid (2 * left (rowI wr fb) + bitOf (.bool c) < 2 * left o + 1) := by
                show _ < _
                rw [rowI_of HP.out.row]
                cases c with
                | false => rw [(HPS.out.same rfl).1]; exact Nat.lt_succ_self _
                | true => have := HPS.out.less rfl; simp only [bitOf]; omega
              have HBF2 := Lib.hid HPS.out.bf
              go_wp2_with fail
              go_roundw
              case rel => exact ⟨c, p, rfl, HP, HBF2, HLZ⟩
              case measure =>
                rw [HM.out]
                exact HME.out
theorem rfar_any {n : Int} {es : List Ed} {w : World} (v bv : Value) (hv : EdgesAt w v es) (bl : List Int) (hb : IntsAt w bv bl) (b : Int) :
    Calls Try.prog 18 #[.agg #[.int .i64 n, v], bv, .int .i64 b] w (RetInts (farS n es bl b) w) := by
  cases h : rightB n es && nodeB n b with
  | false => rw [farS_no h]; exact rfar_no v bv hv bl b h
  | true =>
    rw [Bool.and_eq_true] at h
    obtain ⟨b0, b1⟩ := nodeB_iff.1 h.2
    rw [farS_yes (rightB_iff.1 h.1) b0 b1]
    exact rfar_yes v bv hv bl hb b (rightB_iff.1 h.1) h.2
end Go.Proofs.Ythmblgfcjbiomaa.Rt
