import Derived.Test.YtnpbkjmlmdpggaaKm
/- The document's Same, num, Base of layer 8: out of o/XRs8, XR8a. -/
set_option linter.unusedVariables false
set_option linter.unusedSimpArgs false
namespace Go.Proofs.Ytnpbkjmlmdpggaa.Od
open Go.RowKit Js Lex
set_option maxHeartbeats 8000000 in
set_option maxRecDepth 100000 in
theorem rsame8_any (S S' : Nat → Prop) (a b : Value) (x y : O) (w : World) (hx : OAt S w a x) (hy : OAt S' w b y) : Calls Try.prog 14 #[a, b] w (Ret (.bool (sameO x y)) w) := by
  obtain ⟨an, cn, ae, ce, rfl, -, -, -, -, hN, hE⟩ := hx.open_
  obtain ⟨an', cn', ae', ce', rfl, -, -, -, -, hN', hE'⟩ := hy.open_
  obtain ⟨hd, nm, oi, ui, ns, es⟩ := x
  obtain ⟨hd', nm', oi', ui', ns', es'⟩ := y
  simp only at hN hE hN' hE' ⊢
  have HB2 := Lib.hid (fun (o o' : Obj) => belowTwo w o o')
  have HN := Lib.hid hN
  have HN' := Lib.hid hN'
  have HE1 := Lib.hid hE
  have HE2 := Lib.hid hE'
  obtain ⟨-, -, b1⟩ := hN.len
  obtain ⟨-, -, b2⟩ := hN'.len
  obtain ⟨-, -, b3⟩ := hE.len
  obtain ⟨-, -, b4⟩ := hE'.len
  clear hx hy hN hE hN' hE'
  unfold sameO
  simp only
  by_cases h1 : hd = hd'
  · subst h1
    by_cases h2 : nm = nm'
    · subst h2
      by_cases h3 : oi = oi'
      · subst h3
        by_cases h4 : ui = ui'
        · subst h4
          rw [show (hd == hd) = true by simp, show (nm == nm) = true by simp, show (oi == oi) = true by simp, show (ui == ui) = true by simp]
          by_cases h5 : ns.length = ns'.length
          · by_cases h6 : es.length = es'.length
            · obtain ⟨n, HNA⟩ : ∃ n, Hid (ns.length = n) := ⟨_, rfl⟩
              have HNB : Hid (ns'.length = n) := h5.symm.trans HNA.out
              obtain ⟨m, HMA⟩ : ∃ n, Hid (es.length = n) := ⟨_, rfl⟩
              have HMB : Hid (es'.length = m) := h6.symm.trans HMA.out
              clear h5 h6
              rw [HNA.out] at HN b1 ⊢
              rw [HNB.out] at HN' b2 ⊢
              rw [HMA.out] at HE1 b3 ⊢
              rw [HMB.out] at HE2 b4 ⊢
              obtain ⟨R1, HR1⟩ : ∃ R, Hid (stsB ns ns' = R) := ⟨_, rfl⟩
              obtain ⟨R2, HR2⟩ : ∃ R, Hid (stsB es es' = R) := ⟨_, rfl⟩
              rw [HR1.out, HR2.out]
              go_enter Try.func14, Try.ntmps14
              go_wp2_with fail
              obtain ⟨w2, hw2⟩ : ∃ w2, ((w.alloc (.cells #[.int .i64 hd, .string ⟨nm.toArray⟩, .int .i64 oi, .int .i64 ui, .slice an n cn, .slice ae m ce] 25)).alloc (.cells #[.int .i64 hd, .string ⟨nm.toArray⟩, .int .i64 oi, .int .i64 ui, .slice an' n cn', .slice ae' m ce'] 25)) = w2 := ⟨_, rfl⟩
              have HX0 : Hid (w2.heap[w.heap.size]? = some (.cells #[.int .i64 hd, .string ⟨nm.toArray⟩, .int .i64 oi, .int .i64 ui, .slice an n cn, .slice ae m ce] 25 (0, 0))) := by show _ = _; rw [← hw2]; exact two_old _ _ _
              have HX1 : Hid (w2.heap[w.heap.size + 1]? = some (.cells #[.int .i64 hd, .string ⟨nm.toArray⟩, .int .i64 oi, .int .i64 ui, .slice an' n cn', .slice ae' m ce'] 25 (0, 0))) := by show _ = _; rw [← hw2]; exact two_new _ _ _
              have HBW : Hid (Below w.heap.size w w2) := by show Below _ _ _; rw [← hw2]; exact belowTwo _ _ _
              have hl0 := Own.block_lt HX0.out
              have hl1 := Own.block_lt HX1.out
              have hs2 := HBW.out.size
              rw [hw2]
              clear hw2
              go_loopw [5] (fun i wr => ∃ k : Nat, k ≤ n ∧ i = .int .i64 k ∧ Below w2.heap.size w2 wr ∧ Hid (R1 = stsB (ns.drop k) (ns'.drop k))) (fun i _ => n - (intOf i).toNat)
              case atStart => exact ⟨0, Nat.zero_le _, rfl, Below.refl _ _, HR1.out.symm⟩
              case round =>
                obtain ⟨k, hk, rfl, hb, HK⟩ := hrel
                obtain ⟨y0, y1, y2, y3, y4, y5⟩ := six_of ((hb.block _ hl0).trans HX0.out)
                obtain ⟨z0, z1, z2, z3, z4, z5⟩ := six_of ((hb.block _ hl1).trans HX1.out)
                by_cases hlt : k < n
                · obtain ⟨p1, o1, e1, -, hp1, -, x0, x1, x2⟩ := HN.out.at_ (k := k) (by rw [HNA.out]; exact hlt)
                  obtain ⟨p2, o2, e2, -, hp2, -, v0, v1, v2⟩ := HN'.out.at_ (k := k) (by rw [HNB.out]; exact hlt)
                  subst e1 e2
                  have hk1 : wr.heap[p1]? = w.heap[p1]? := (hb.block _ (by omega)).trans (HBW.out.block _ hp1)
                  have hk2 : wr.heap[p2]? = w.heap[p2]? := (hb.block _ (by omega)).trans (HBW.out.block _ hp2)
                  rw [← World.cell?_of_block (w := w) (w' := wr) (a := ⟨p1, _, none⟩) hk1] at x0 x1 x2
                  rw [← World.cell?_of_block (w := w) (w' := wr) (a := ⟨p2, _, none⟩) hk2] at v0 v1 v2
                  have HS := Lib.hid (stsB_step (l := ns) (m := ns') (k := k) (by rw [HNA.out]; exact hlt) (by rw [HNB.out]; exact hlt))
                  have i1 : (k : Int) < (n : Int) := by omega
                  clear HN HN' hk1 hk2
                  generalize ns.getD k st0 = X at *
                  generalize ns'.getD k st0 = Y at *
                  by_cases hxy : stB X Y = true
                  · have hxy' := stB_iff.1 hxy
                    subst hxy'
                    have HX := Lib.hid hxy
                    clear hxy
                    obtain ⟨xi, xq, xr⟩ := X
                    simp only at x0 x1 x2 v0 v1 v2
                    go_wp2_with fail
                    go_quiet (fail)
                    go_wp2_with fail
                    go_roundw
                    case rel => exact ⟨k + 1, by omega, by go_num, below_drewN hb _, by show _ = _; rw [HK.out, HS.out, HX.out]; simp⟩
                    case measure => simp [intOf]; omega
                  · rw [Bool.not_eq_true] at hxy
                    have HX := Lib.hid hxy
                    have HRF : Hid (R1 = false) := by show _ = _; rw [HK.out, HS.out, HX.out]; rfl
                    unfold stB at hxy
                    obtain ⟨xi, xq, xr⟩ := X
                    obtain ⟨yi, yq, yr⟩ := Y
                    simp only at x0 x1 x2 v0 v1 v2 hxy
                    by_cases g1 : xi = yi
                    · subst g1
                      by_cases g2 : xq = yq
                      · subst g2
                        cases xr <;> cases yr
                        · simp at hxy
                        · go_wp2_with fail
                          go_quiet (fail)
                          go_wp2_with fail
                          go_ret
                          exact ⟨Quo.ret_bool (by rw [HRF.out]; rfl), HBW.out.trans ((below_drewN hb _).mono hs2)⟩
                        · go_wp2_with fail
                          go_quiet (fail)
                          go_wp2_with fail
                          go_ret
                          exact ⟨Quo.ret_bool (by rw [HRF.out]; rfl), HBW.out.trans ((below_drewN hb _).mono hs2)⟩
                        · simp at hxy
                      · have g2' : (xq == yq) = false := by simpa using g2
                        clear hxy
                        go_wp2_with fail
                        go_quiet (fail)
                        go_wp2_with fail
                        go_ret
                        exact ⟨Quo.ret_bool (by rw [HRF.out]; rfl), HBW.out.trans ((below_drewN hb _).mono hs2)⟩
                    · have g1' : (xi == yi) = false := by simpa using g1
                      clear hxy
                      go_wp2_with fail
                      go_quiet (fail)
                      go_wp2_with fail
                      go_ret
                      exact ⟨Quo.ret_bool (by rw [HRF.out]; rfl), HBW.out.trans ((below_drewN hb _).mono hs2)⟩
                · have HE : Hid (R1 = true) := by show _ = _; rw [HK.out, List.drop_of_length_le (by rw [HNA.out]; omega), List.drop_of_length_le (by rw [HNB.out]; omega)]; rfl
                  go_wp2_with fail
                  have HB1 := Lib.hid hb
                  have HET := HE
                  clear HN HN' y0 y1 y2 y3 y4 y5 z0 z1 z2 z3 z4 z5 hb HK hlt HE hk
                  go_loopw [6] (fun i wr => ∃ k : Nat, k ≤ m ∧ i = .int .i64 k ∧ Below w2.heap.size w2 wr ∧ Hid (R2 = stsB (es.drop k) (es'.drop k))) (fun i _ => m - (intOf i).toNat)
                  case atStart => exact ⟨0, Nat.zero_le _, rfl, HB1.out, HR2.out.symm⟩
                  case round =>
                    obtain ⟨k, hk, rfl, hb, HK⟩ := hrel
                    obtain ⟨y0, y1, y2, y3, y4, y5⟩ := six_of ((hb.block _ hl0).trans HX0.out)
                    obtain ⟨z0, z1, z2, z3, z4, z5⟩ := six_of ((hb.block _ hl1).trans HX1.out)
                    by_cases hlt : k < m
                    · obtain ⟨p1, o1, e1, -, hp1, -, x0, x1, x2⟩ := HE1.out.at_ (k := k) (by rw [HMA.out]; exact hlt)
                      obtain ⟨p2, o2, e2, -, hp2, -, v0, v1, v2⟩ := HE2.out.at_ (k := k) (by rw [HMB.out]; exact hlt)
                      subst e1 e2
                      have hk1 : wr.heap[p1]? = w.heap[p1]? := (hb.block _ (by omega)).trans (HBW.out.block _ hp1)
                      have hk2 : wr.heap[p2]? = w.heap[p2]? := (hb.block _ (by omega)).trans (HBW.out.block _ hp2)
                      rw [← World.cell?_of_block (w := w) (w' := wr) (a := ⟨p1, _, none⟩) hk1] at x0 x1 x2
                      rw [← World.cell?_of_block (w := w) (w' := wr) (a := ⟨p2, _, none⟩) hk2] at v0 v1 v2
                      have HS := Lib.hid (stsB_step (l := es) (m := es') (k := k) (by rw [HMA.out]; exact hlt) (by rw [HMB.out]; exact hlt))
                      have i1 : (k : Int) < (m : Int) := by omega
                      clear HE1 HE2 hk1 hk2
                      generalize es.getD k st0 = X at *
                      generalize es'.getD k st0 = Y at *
                      by_cases hxy : stB X Y = true
                      · have hxy' := stB_iff.1 hxy
                        subst hxy'
                        have HX := Lib.hid hxy
                        clear hxy
                        obtain ⟨xi, xq, xr⟩ := X
                        simp only at x0 x1 x2 v0 v1 v2
                        go_wp2_with fail
                        go_quiet (fail)
                        go_wp2_with fail
                        go_roundw
                        case rel => exact ⟨k + 1, by omega, by go_num, below_drewN hb _, by show _ = _; rw [HK.out, HS.out, HX.out]; simp⟩
                        case measure => simp [intOf]; omega
                      · rw [Bool.not_eq_true] at hxy
                        have HX := Lib.hid hxy
                        have HRF : Hid (R2 = false) := by show _ = _; rw [HK.out, HS.out, HX.out]; rfl
                        unfold stB at hxy
                        obtain ⟨xi, xq, xr⟩ := X
                        obtain ⟨yi, yq, yr⟩ := Y
                        simp only at x0 x1 x2 v0 v1 v2 hxy
                        by_cases g1 : xi = yi
                        · subst g1
                          by_cases g2 : xq = yq
                          · subst g2
                            cases xr <;> cases yr
                            · simp at hxy
                            · go_wp2_with fail
                              go_quiet (fail)
                              go_wp2_with fail
                              go_ret
                              exact ⟨Quo.ret_bool (by rw [HET.out, HRF.out]; rfl), HBW.out.trans ((below_drewN hb _).mono hs2)⟩
                            · go_wp2_with fail
                              go_quiet (fail)
                              go_wp2_with fail
                              go_ret
                              exact ⟨Quo.ret_bool (by rw [HET.out, HRF.out]; rfl), HBW.out.trans ((below_drewN hb _).mono hs2)⟩
                            · simp at hxy
                          · have g2' : (xq == yq) = false := by simpa using g2
                            clear hxy
                            go_wp2_with fail
                            go_quiet (fail)
                            go_wp2_with fail
                            go_ret
                            exact ⟨Quo.ret_bool (by rw [HET.out, HRF.out]; rfl), HBW.out.trans ((below_drewN hb _).mono hs2)⟩
                        · have g1' : (xi == yi) = false := by simpa using g1
                          clear hxy
                          go_wp2_with fail
                          go_quiet (fail)
                          go_wp2_with fail
                          go_ret
                          exact ⟨Quo.ret_bool (by rw [HET.out, HRF.out]; rfl), HBW.out.trans ((below_drewN hb _).mono hs2)⟩
                    · have HE : Hid (R2 = true) := by show _ = _; rw [HK.out, List.drop_of_length_le (by rw [HMA.out]; omega), List.drop_of_length_le (by rw [HMB.out]; omega)]; rfl
                      have HE9 := HE
                      go_wp2_with fail
                      go_ret
                      exact ⟨Quo.ret_bool (by rw [HET.out, HE9.out]; rfl), HBW.out.trans (hb.mono hs2)⟩
            · have hf : stsB es es' = false := stsB_len h6
              rw [hf, show (true && (true && (true && (true && (stsB ns ns' && false))))) = false by simp]
              have h6' : ((es.length : Int) != (es'.length : Int)) = true := by simp; omega
              have h5' : ((ns.length : Int) != (ns'.length : Int)) = false := by simp; omega
              clear HN HN' HE1 HE2 hf h5 h6
              generalize ns.length = n1 at *
              generalize ns'.length = n2 at *
              generalize es.length = m1 at *
              generalize es'.length = m2 at *
              go_enter Try.func14, Try.ntmps14
              go_wp2_with fail
              go_ret
              exact ⟨rfl, HB2.out _ _⟩
          · have hf : stsB ns ns' = false := stsB_len h5
            rw [hf, show (true && (true && (true && (true && (false && stsB es es'))))) = false by simp]
            have h5' : ((ns.length : Int) != (ns'.length : Int)) = true := by simp; omega
            clear HN HN' HE1 HE2 hf h5
            generalize ns.length = n1 at *
            generalize ns'.length = n2 at *
            generalize es.length = m1 at *
            generalize es'.length = m2 at *
            go_enter Try.func14, Try.ntmps14
            go_wp2_with fail
            go_ret
            exact ⟨rfl, HB2.out _ _⟩
        · have h4' : (ui == ui') = false := by simpa using h4
          have h4n : (ui != ui') = true := by simpa using h4
          rw [show (hd == hd) = true by simp, show (nm == nm) = true by simp, show (oi == oi) = true by simp, h4']
          go_enter Try.func14, Try.ntmps14
          go_wp2_with fail
          go_ret
          exact ⟨rfl, HB2.out _ _⟩
      · have h3' : (oi == oi') = false := by simpa using h3
        have h3n : (oi != oi') = true := by simpa using h3
        rw [show (hd == hd) = true by simp, show (nm == nm) = true by simp, h3']
        go_enter Try.func14, Try.ntmps14
        go_wp2_with fail
        go_ret
        exact ⟨rfl, HB2.out _ _⟩
    · have h2' : (nm == nm') = false := by simpa using h2
      have h2s := Tp.str_ne h2
      rw [show (hd == hd) = true by simp, h2']
      go_enter Try.func14, Try.ntmps14
      go_wp2_with fail
      go_ret
      exact ⟨rfl, HB2.out _ _⟩
  · have h1' : (hd == hd') = false := by simpa using h1
    have h1n : (hd != hd') = true := by simpa using h1
    rw [h1']
    go_enter Try.func14, Try.ntmps14
    go_wp2_with fail
    go_ret
    exact ⟨rfl, HB2.out _ _⟩
set_option maxHeartbeats 8000000 in
set_option maxRecDepth 100000 in
theorem rnum8_any (n : Int) (w : World) : Calls Try.prog 50 #[.int .i64 n] w (fun e w' => e = .returned (.bool (numB n)) ∧ w = w') := by
  obtain ⟨B, hB⟩ : ∃ B, numB n = B := ⟨_, rfl⟩
  have HB := Lib.hid hB
  rw [hB]
  clear hB
  by_cases h0 : n < 0
  · have hb : B = false := by rw [← HB.out]; unfold Od.numB; simp; omega
    subst hb
    clear HB
    go_enter Try.func50, Try.ntmps50
    go_wp2_with fail
    go_ret
    exact ⟨by first | rfl | (simp; omega), rfl⟩
  · by_cases h1 : 1000000000 < n
    · have hb : B = false := by rw [← HB.out]; unfold Od.numB; simp; omega
      subst hb
      clear HB
      go_enter Try.func50, Try.ntmps50
      go_wp2_with fail
      go_ret
      exact ⟨by first | rfl | (simp; omega), rfl⟩
    · have hb : B = true := by rw [← HB.out]; unfold Od.numB; simp; omega
      subst hb
      clear HB
      go_enter Try.func50, Try.ntmps50
      go_wp2_with fail
      go_ret
      exact ⟨by first | rfl | (simp; omega), rfl⟩
set_option maxHeartbeats 8000000 in
set_option maxRecDepth 100000 in
theorem rbase8_any (S : Nat → Prop) (a : Value) (x : O) (w : World) (hx : OAt S w a x) : Calls Try.prog 42 #[a] w (Ret (.int .i64 (baseO x)) w) := by
  obtain ⟨an, cn, ae, ce, rfl, -, -, -, -, hN, -⟩ := hx.open_
  obtain ⟨hd, nm, oi, ui, ns, es⟩ := x
  unfold baseO
  simp only at hN ⊢
  obtain ⟨-, -, hlen⟩ := hN.len
  have HN := Lib.hid hN
  obtain ⟨n, HL⟩ : ∃ n, Hid (ns.length = n) := ⟨_, rfl⟩
  obtain ⟨R, HR⟩ : ∃ R, Hid ((ns.filter (·.rel)).length = R) := ⟨_, rfl⟩
  have HRn : R ≤ n := by rw [← HR.out, ← HL.out]; exact List.length_filter_le _ _
  rw [HR.out]
  rw [HL.out] at HN hlen ⊢
  clear hx hN
  go_enter Try.func42, Try.ntmps42
  go_wp2_with fail
  have HB0 := Lib.hid (belowOne w (.cells #[.int .i64 hd, .string ⟨nm.toArray⟩, .int .i64 oi, .int .i64 ui, .slice an n cn, .slice ae es.length ce] 25))
  have HX0 := Lib.hid (heap_alloc_new w (.cells #[.int .i64 hd, .string ⟨nm.toArray⟩, .int .i64 oi, .int .i64 ui, .slice an n cn, .slice ae es.length ce] 25))
  generalize w.alloc (.cells #[.int .i64 hd, .string ⟨nm.toArray⟩, .int .i64 oi, .int .i64 ui, .slice an n cn, .slice ae es.length ce] 25) = w1 at *
  go_loopw [4, 3] (fun i c wr => ∃ k m : Nat, k ≤ n ∧ i = .int .i64 k ∧ c = .int .i64 m ∧ w1 = wr ∧ Hid (R = m + ((ns.drop k).filter (·.rel)).length)) (fun i _ _ => n - (intOf i).toNat)
  case atStart => exact ⟨0, 0, Nat.zero_le _, rfl, rfl, rfl, by show _ = _; rw [List.drop_zero, HR.out]; omega⟩
  case round =>
    clear HR
    obtain ⟨k, m, hk, rfl, rfl, rfl, HK⟩ := hrel
    obtain ⟨y0, y1, y2, y3, y4, y5⟩ := six_of HX0.out
    by_cases hlt : k < n
    · obtain ⟨b, off, rfl, -, hb, -, x0, x1, x2⟩ := HN.out.at_ (k := k) (by rw [HL.out]; exact hlt)
      rw [← HB0.out.cell (p := ⟨b, _, none⟩) hb] at x0 x1 x2
      have HS := Lib.hid (base_step (l := ns) (k := k) (by rw [HL.out]; exact hlt))
      have i1 : (k : Int) < (n : Int) := by omega
      have hm : m ≤ n := by have := HK.out; omega
      have i2 : IntKind.i64.wrap ((k : Int) + 1) = (k : Int) + 1 := by rw [IntKind.wrap_i64]; omega
      have i3 : IntKind.i64.wrap ((m : Int) + 1) = (m : Int) + 1 := by rw [IntKind.wrap_i64]; omega
      generalize ns.getD k st0 = X at *
      obtain ⟨xi, xq, xr⟩ := X
      simp only at x0 x1 x2 HS
      clear HN
      cases xr with
      | false =>
        go_wp2_with fail
        go_roundw
        case rel => exact ⟨k + 1, m, by omega, by go_num, rfl, trivial, by show _ = _; rw [HK.out, HS.out]; simp⟩
        case measure => simp [intOf]; omega
      | true =>
        go_wp2_with fail
        go_roundw
        case rel => exact ⟨k + 1, m + 1, by omega, by go_num, by go_num, trivial, by show _ = _; rw [HK.out, HS.out]; simp; omega⟩
        case measure => simp [intOf]; omega
    · have HE : Hid (R = m) := by show _ = _; rw [HK.out, List.drop_of_length_le (by rw [HL.out]; omega)]; rfl
      have i1 : ¬ (k : Int) < (n : Int) := by omega
      go_wp2_with fail
      go_ret
      exact ⟨Quo.ret_int (by rw [HE.out]), HB0.out⟩
end Go.Proofs.Ytnpbkjmlmdpggaa.Od
