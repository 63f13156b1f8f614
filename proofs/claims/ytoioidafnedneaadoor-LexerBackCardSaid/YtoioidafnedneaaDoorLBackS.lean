import Derived.Test.YtoioidafnedneaaDoorLBack0
/- The walk of the law LexerBack where there are at most forty raw tokens. -/
set_option linter.unusedVariables false
set_option linter.unusedSimpArgs false
namespace Go.Proofs.YtoioidafnedneaaDoor.Lex
open Go.RowKit Go.Sort
open Quo (pickS pickS_nonneg pickS_lt IntsAt textR)
open Own (own_below append_one OneAt oneAt_own)

set_option maxHeartbeats 2000000 in
set_option maxRecDepth 20000 in
theorem back_small (v : Value) (rs : List Raw) (w : World) (ht : Dec.Tab w) (hr : RawsAt w v rs) (hcs : rs.length ≤ 40) : Calls Tryd.prog 4 #[v] w (Ret (.bool true) w) := by
  have key : ∀ ao cap, v = .slice ao rs.length cap → rs.length ≤ 9223372036854775807 → (0 < rs.length → ∃ b off, ao = some ⟨b, off, none⟩ ∧ b < w.heap.size ∧ ∀ j, j < rs.length → RawIn w b (off + j * 4) (rs.getD j raw0)) →
      Calls Tryd.prog 4 #[v] w (Ret (.bool true) w) := by
    intro ao cap e hl hR
    subst e
    clear hr
    have HR := Lib.hid hR
    have HT := Lib.hid ht
    clear hR ht
    generalize hN : rs.length = N at *
    have HN := Lib.hid hN
    have HCS := Lib.hid hcs
    clear hN hcs
    go_enter Tryd.func4, Tryd.ntmps4
    go_wp2_with fail
    (with_reducible refine (awake_any _).mono ?_)
    rintro e1 w1 ⟨rfl, hb1⟩
    go_wp2_with fail
    go_loopw [4, 5, 6, 7] (fun s wv av i wr => ∃ (k : Nat) (S : List UInt8), k ≤ N ∧ k ≤ 40 ∧ i = .int .i64 k ∧ s = .string ⟨S.toArray⟩ ∧ Hid (S = wordsL ((wsOf rs 40).take k)) ∧ S.length ≤ 183 * k ∧
        Hid (wr.ownsRow w.heap.size 9 1 wv k (((wsOf rs 40).take k).map fun q => strV q.1)) ∧ Hid (wr.ownsRow w.heap.size 3 1 av k ((List.range k).map fun j => natV (placeW (wsOf rs 40) j))) ∧ Below w.heap.size w wr)
      (fun _ _ _ i _ => N - (intOf i).toNat)
    case atStart => exact ⟨0, [], Nat.zero_le _, Nat.zero_le _, rfl, rfl, rfl, by simp, World.ownsRow_nil _ _ _ _, World.ownsRow_nil _ _ _ _, hb1⟩
    case round =>
      obtain ⟨k, S, hkN, hk40, rfl, rfl, HS, hSl, HW, HA, hbw⟩ := hrel
      have hsz := hbw.size
      by_cases hlt : k < N ∧ k < 40
      · obtain ⟨hlN, hl40⟩ := hlt
        obtain ⟨b, off, rfl, hbl, hRa⟩ := HR.out (by omega)
        have hX := (hRa k hlN)
        have HX := Lib.hid hX
        have HXw := Lib.hid (wsOf_step (rs := rs) (m := 40) (k := k) hl40 (by rw [HN.out]; exact hlN))
        generalize rs.getD k raw0 = X at *
        have t40 : decide ((k : Int) < 40) = true := decide_eq_true (by omega)
        have HB := Lib.hid (And.intro hk40 (And.intro hl40 hSl))
        have hS1 : S.length ≤ 1000000 := by omega
        have hk1 : k ≤ 1000000 := by omega
        clear hk40 hl40 hSl
        go_wp2_with (at_builtin; go_loud (refine append_one rfl _ _ int_info rfl (by decide) Tryd.underlying31 rfl w.heap.size _ k _ rfl (HA.out.alloc _) _ _ rfl [.int .i64 S.length] rfl (heap_alloc_new wr _) (by intro u hu; simp at hu; subst hu; rfl) (by omega) (by unfold maxLen; omega) (by simp; omega) ?_); intro av' w2 hA2 hb2 hK2; have hbw2 := (hbw.alloc hsz _).trans hb2; obtain ⟨x0, x1, x2, x3, _, _, _, _, _⟩ := HX.out.below hbw2 hbl)
        have hsz2 := hbw2.size
        (with_reducible refine (HX.out.word hbw2 (HT.out.below hbw2)).mono ?_)
        rintro e1 w3 ⟨rfl, hb3⟩
        have hbw3 := hbw2.trans (hb3.mono hbw2.size)
        have hsz3 := hbw3.size
        have HA3 : Hid (w3.ownsRow w.heap.size 3 1 av' (k + 1) ((List.range (k + 1)).map fun j => natV (placeW (wsOf rs 40) j))) := by
          have h := own_below hA2 hb3 (Nat.le_refl _)
          rw [List.range_succ, List.map_append]
          show World.ownsRow _ _ _ _ _ _ (_ ++ [natV (placeW (wsOf rs 40) k)])
          rw [show placeW (wsOf rs 40) k = S.length by unfold placeW; rw [← HS.out]]
          exact h
        have HW3 : Hid (w3.ownsRow w.heap.size 9 1 u5 k (((wsOf rs 40).take k).map fun q => strV q.1)) :=
          own_below (hK2 _ _ _ _ _ _ (by decide) (HW.out.alloc _)) hb3 (Nat.le_refl _)
        clear HW HA hA2 hK2 hb2 hb3 hbw2 x0 x1 x2 x3 hbw hsz hsz2
        have HWt : Hid ((wsOf rs 40).take (k + 1) = (wsOf rs 40).take k ++ [wordT X]) := HXw
        have hlX := wordT_len X
        generalize hWX : (wordT X).1 = L at *
        go_wp2_with (at_builtin; go_loud (refine append_one rfl _ _ str_info rfl (by decide) Tryd.underlying30 rfl w.heap.size _ k _ rfl (HW3.out.alloc _) _ _ rfl [.string ⟨L.toArray⟩] rfl (heap_alloc_new w3 _) (by intro u hu; simp at hu; subst hu; rfl) (by omega) (by unfold maxLen; omega) (by simp; omega) ?_); intro wv' w4 hW4 hb4 hK4; obtain ⟨g, cp, rfl, _, _⟩ := hW4.form (by omega); have hcl := Own.last_cell hW4)
        have hbw4 := (hbw3.alloc hsz3 _).trans hb4
        have HS4 : Hid (S ++ L ++ [32] = wordsL ((wsOf rs 40).take (k + 1))) := by
          show _ = _
          rw [HWt.out, wordsL_snoc, ← HS.out, hWX]
        have HW4 : Hid (w4.ownsRow w.heap.size 9 1 (.slice (some ⟨g, 0, none⟩) (k + 1) cp) (k + 1) (((wsOf rs 40).take (k + 1)).map fun q => strV q.1)) := by
          show World.ownsRow _ _ _ _ _ _ _
          rw [HWt.out, List.map_append]
          simp only [List.map_cons, List.map_nil, hWX]
          exact hW4
        have HA4 := Lib.hid (hK4 _ _ _ _ _ _ (by decide) (HA3.out.alloc _))
        obtain ⟨q1, q2, q3⟩ := HB.out
        go_roundw
        case rel => exact ⟨k + 1, S ++ L ++ [32], by omega, by omega, by go_num, by rw [show (⟨#[32]⟩ : ByteArray) = ⟨[32].toArray⟩ from rfl, bs_app, bs_app], HS4, by simp; omega, HW4, HA4, hbw4⟩
        case measure => simp [intOf]; omega
      · have hkn : k = min 40 N := by omega
        have hwl := wsOf_len rs 40
        rw [HN.out, ← hkn] at hwl
        have hSe : S = wordsL (wsOf rs 40) := by rw [HS.out, List.take_of_length_le (by omega)]
        have E1 := Lib.hid (scanS_words (wsOf_isW rs 40) (by rw [← hSe]; omega))
        rw [← hSe] at E1
        have hL := scannedW_len (wsOf rs 40)
        rw [hwl] at hL
        have hEnd := scannedW_end (wsOf rs 40)
        rw [hwl, ← hSe] at hEnd
        have hS1 : S.length ≤ 1000000 := by omega
        have hk1 : k ≤ 1000000 := by omega
        have HG : Hid (∀ j, j < k → (scannedW (wsOf rs 40)).getD j tok0 = (wordT (rs.getD j raw0)).2.at_ (placeW (wsOf rs 40) j)) := fun j hj => scannedW_get (wsOf_get (by omega) (by rw [HN.out]; omega))
        have hTk : (wsOf rs 40).take k = wsOf rs 40 := List.take_of_length_le (by omega)
        rw [hTk] at HW
        have HWg : Hid (∀ j, j < k → (wsOf rs 40)[j]? = some (wordT (rs.getD j raw0))) := fun j hj => wsOf_get (by omega) (by rw [HN.out]; omega)
        have OW : OneAt (fun q : List UInt8 × Tok => strV q.1) wr u5 (wsOf rs 40) := oneAt_own (T := 9) (base := w.heap.size) (by rw [hwl]; exact HW.out)
        have OA : OneAt (fun j => natV (placeW (wsOf rs 40) j)) wr u6 (List.range k) := oneAt_own (T := 3) (base := w.heap.size) (by rw [List.length_range]; exact HA.out)
        obtain ⟨aw, cw, hvw, hcw⟩ := OW.form
        obtain ⟨aa, ca, hva, hca⟩ := OA.form
        rw [hwl] at hvw
        rw [List.length_range] at hva
        subst hvw hva
        have HCW : Hid (0 < k → ∃ b, aw = some ⟨b, 0, none⟩ ∧ b < wr.heap.size ∧ ∀ j, j < k → wr.cell? ⟨b, j, none⟩ = some (.string ⟨(wordT (rs.getD j raw0)).1.toArray⟩)) := by
          intro h
          obtain ⟨b, h1, h2, h3⟩ := hcw (by omega)
          refine ⟨b, h1, h2, fun j hj => ?_⟩
          rw [h3 j (by omega)]
          have := HWg.out j hj
          rw [List.getElem?_eq_getElem (by omega)] at this
          rw [Option.some.inj this]; rfl
        have HCA : Hid (0 < k → ∃ b, aa = some ⟨b, 0, none⟩ ∧ b < wr.heap.size ∧ ∀ j, j < k → wr.cell? ⟨b, j, none⟩ = some (.int .i64 (placeW (wsOf rs 40) j))) := by
          intro h
          obtain ⟨b, h1, h2, h3⟩ := hca (by simpa using h)
          refine ⟨b, h1, h2, fun j hj => ?_⟩
          rw [h3 j (by simpa using hj)]
          simp [natV]
        clear hcw hca OW OA HW HA HWg hTk HS
        have HE : Hid ((scannedW (wsOf rs 40)).getD k tok0 = ⟨5, [], 0, 0, S.length⟩) := hEnd
        have HSE := Lib.hid hSe
        clear hEnd hSe
        have hcs := HCS.out
        have t1 : N ≤ k := by omega
        clear hcs
        have HQ := Lib.hid (And.intro hlt (And.intro hkN (And.intro hk40 (And.intro hSl hkn))))
        clear hlt hkN hk40 hSl hkn
        generalize hLs : scannedW (wsOf rs 40) = Ls at *
        · skip
          go_wp2_with fail
          (with_reducible refine (scan_l S _ (by unfold maxLen; omega)).mono ?_)
          rw [E1.out]
          rintro e1 w5 ⟨v1, rfl, ho1, hb5⟩
          simp only [toksR, errR, placeR, show ((0 : Nat) : Int) = 0 from rfl] at ho1 ⊢
          have hbw5 := hbw.trans (hb5.mono hsz)
          rcases ToksOwn.at_ ho1 with ⟨_, _, _, h⟩ | ⟨bt, ct, hv, hct, _, hbt, hTt⟩
          · rw [h] at hL; simp at hL
          rw [hL] at hv hct hTt
          subst hv
          obtain ⟨y0, y1, y2, y3, y4⟩ := hTt k (by omega)
          rw [HE.out] at y0 y1 y2 y3 y4
          simp only at y0 y1 y2 y3 y4
          go_wp2_with fail
          clear y0 y1 y2 y3 y4 E1 HE HSE hct ho1
          go_loopw [11] (fun i wr2 => ∃ j : Nat, j ≤ k ∧ i = .int .i64 j ∧ Below w5.heap.size w5 wr2) (fun i _ => k - (intOf i).toNat)
          case atStart => exact ⟨0, Nat.zero_le _, rfl, Below.refl _ _⟩
          case round =>
            obtain ⟨j, hjk, rfl, hb6⟩ := hrel
            by_cases hj : j < k
            · have hq := HQ.out
              obtain ⟨b, off, rfl, hbl, hRa⟩ := HR.out (by omega)
              obtain ⟨gw, rfl, hgw, hCW⟩ := HCW.out (by omega)
              obtain ⟨ga, rfl, hga, hCA⟩ := HCA.out (by omega)
              have hbr := hbw5.trans (hb6.mono hbw5.size)
              have hbq := hb5.trans (hb6.mono hb5.size)
              obtain ⟨x0, x1, x2, x3, xk, xm, xe, xt, xc⟩ := (hRa j (by omega)).below hbr hbl
              have z := hTt j (by omega)
              rw [HG.out j hj] at z
              have z := z.below hb6 hbt
              have cW := (hbq.cell (p := ⟨gw, j, none⟩) hgw).trans (hCW j hj)
              have cA := (hbq.cell (p := ⟨ga, j, none⟩) hga).trans (hCA j hj)
              have i1 : (j : Int) < (k : Int) := by omega
              have i2 : (j : Int) < (k : Int) + 1 := by omega
              have i3 : (j : Int) < (N : Int) := by omega
              clear hRa hCW hCA hTt HG HCW HCA HR HQ hq
              try clear t1
              try clear t2
              generalize rs.getD j raw0 = X at *
              generalize placeW (wsOf rs 40) j = p at *
              have P1 := Lib.hid (fun w => (pick_any X.k 4 w xk (by decide) (by decide)).mono (fun _ _ h => And.intro h.1 h.2.symm))
              have h0 := pickS_nonneg (c := X.k) (n := 4) (by decide)
              have h1 := pickS_lt (c := X.k) (n := 4) (by decide)
              rcases (show pickS X.k 4 = 0 ∨ pickS X.k 4 = 1 ∨ pickS X.k 4 = 2 ∨ pickS X.k 4 = 3 by omega) with hc | hc | hc | hc
              · rw [hc] at P1
                rw [wordT_0 hc] at z cW
                obtain ⟨z0, z1, z2, z3, z4⟩ := z
                simp only [Tok.at_] at z0 z1 z2 z3 z4 cW
                clear hc h0 h1 xt xc xk xm xe
                generalize signL (pickS X.m 6) = T at *
                go_wp2_with fail
                go_quiet ((go_at_call 13; refine Calls.quiet_of_same (P1.out _)))
                go_wp2_with fail
                go_quiet (fail)
                go_wp2_with fail
                go_roundw
                case rel => exact ⟨j + 1, by omega, by go_num, below_drewN hb6 _⟩
                case measure => simp [intOf]; omega
              · rw [hc] at P1
                rw [wordT_1 hc] at z cW
                obtain ⟨z0, z1, z2, z3, z4⟩ := z
                simp only [Tok.at_] at z0 z1 z2 z3 z4 cW
                have Q := Lib.hid (fun w => quo_any (textR (X.t.take 30)) w (Quo.textR_vr _) (by have := textR_len30 X.t; omega))
                generalize Quo.quoteL (Quo.flat (textR (X.t.take 30))) = L at *
                generalize Quo.flat (textR (X.t.take 30)) = T at *
                have lb : b < wr.heap.size := Nat.lt_of_lt_of_le hbl hbr.size
                have lt : bt < wr.heap.size := Nat.lt_of_lt_of_le hbt hb6.size
                have lw : gw < wr.heap.size := Nat.lt_of_lt_of_le hgw hbq.size
                have la : ga < wr.heap.size := Nat.lt_of_lt_of_le hga hbq.size
                clear hc h0 h1 xt xc xk xm xe
                go_wp2_with fail
                (with_reducible refine (Q.out _).mono ?_)
                rintro e1 w7 ⟨rfl, hb7⟩
                have x0' := (hb7.cell (p := ⟨b, off + j * 4, none⟩) lb).trans x0
                have z0' := (hb7.cell (p := ⟨bt, j * 5, none⟩) lt).trans z0
                have z4' := (hb7.cell (p := ⟨bt, j * 5 + 4, none⟩) lt).trans z4
                have cW' := (hb7.cell (p := ⟨gw, j, none⟩) lw).trans cW
                have cA' := (hb7.cell (p := ⟨ga, j, none⟩) la).trans cA
                clear x0 x1 x2 x3 z0 z1 z2 z3 z4 cW cA Q
                go_wp2_with fail
                go_quiet ((go_at_call 13; refine Calls.quiet_of_same (P1.out _)))
                go_wp2_with fail
                go_quiet (fail)
                go_wp2_with fail
                go_roundw
                case rel => exact ⟨j + 1, by omega, by go_num, below_drewN (hb6.trans (hb7.mono hb6.size)) _⟩
                case measure => simp [intOf]; omega
              · rw [hc] at P1
                rw [wordT_2 hc] at z cW
                obtain ⟨z0, z1, z2, z3, z4⟩ := z
                simp only [Tok.at_] at z0 z1 z2 z3 z4 cW
                have F := Lib.hid (fun w => Dec.fit_of X.m X.e w xm.1 xm.2 xe.1 xe.2)
                generalize Dec.printS (Dec.fitM X.m) (Dec.fitE X.m X.e) = T at *
                generalize Dec.fitM X.m = M at *
                generalize Dec.fitE X.m X.e = E at *
                clear hc h0 h1 xt xc xk xm xe
                go_wp2_with fail
                go_quiet ((go_at_call 13; refine Calls.quiet_of_same (P1.out _)))
                go_wp2_with fail
                have k0 := cell_regrown (w := wr.drewN nq) z0
                have k1 := cell_regrown (w := wr.drewN nq) z2
                have k2 := cell_regrown (w := wr.drewN nq) z3
                have k3 := cell_regrown (w := wr.drewN nq) x1
                have k4 := cell_regrown (w := wr.drewN nq) x2
                have cF : ∀ d os, Calls Tryd.prog 14 #[.int .i64 X.m, .int .i64 X.e] (grow (redrawn (wr.drewN nq) d) os) fun e w'' => e = .returned (.agg #[.int .i64 M, .int .i64 E]) ∧ ∃ p : Regrown, w'' = grow (redrawn (wr.drewN nq) p.d) p.os :=
                  fun d os => Calls.regrown_of (F.out _)
                have CF := Lib.hid cF
                clear cF
                refine wp_region_quiet_below Dec.mixed (by kernel_rfl) ?_
                repeat (quiet_step (with_reducible exact CF.out _ _))
                refine wpQuiet_nil ?_
                intro _ hw'
                obtain ⟨⟨dq, osq⟩, hw''⟩ := hw'
                subst hw''
                go_wp2_with fail
                go_roundw
                case rel => exact ⟨j + 1, by omega, by go_num, (below_drewN hb6 _).trans ((below_regrown _ dq osq).mono (below_drewN hb6 nq).size)⟩
                case measure => simp [intOf]; omega
              · rw [hc] at P1
                rw [wordT_3 hc] at z cW
                obtain ⟨z0, z1, z2, z3, z4⟩ := z
                simp only [Tok.at_] at z0 z1 z2 z3 z4 cW
                clear hc h0 h1 xt xc xk xm xe
                generalize threeL (pickS X.m 3) = T at *
                go_wp2_with fail
                go_quiet ((go_at_call 13; refine Calls.quiet_of_same (P1.out _)))
                go_wp2_with fail
                go_quiet (fail)
                go_wp2_with fail
                go_roundw
                case rel => exact ⟨j + 1, by omega, by go_num, below_drewN hb6 _⟩
                case measure => simp [intOf]; omega
            · go_wp2_with fail
              go_ret
              exact ⟨rfl, hbw5.trans (hb6.mono hbw5.size)⟩
  rcases hr with ⟨ao, cap, rfl, rfl⟩ | ⟨b, off, cap, rfl, _, _, hl, hb, hR⟩
  · exact key _ _ rfl (by simp) (fun h => absurd h (by simp))
  · exact key _ _ rfl hl (fun _ => ⟨b, off, rfl, hb, hR⟩)
end Go.Proofs.YtoioidafnedneaaDoor.Lex
