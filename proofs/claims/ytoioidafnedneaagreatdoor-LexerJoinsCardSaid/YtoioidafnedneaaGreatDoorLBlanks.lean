import Derived.Test.YtoioidafnedneaaGreatDoorAlike
import Derived.Test.YtoioidafnedneaaGreatDoorAwake
import Derived.BigQuiet
/- The walk of the law LexerBlanks: it answers true. -/
set_option linter.unusedVariables false
set_option linter.unusedSimpArgs false
namespace Go.Proofs.YtoioidafnedneaaGreatDoor.Lex
open Go.RowKit Go.Sort
open Quo (pickS pickS_nonneg pickS_lt IntsAt textR)

theorem ints_form {w : World} {v : Value} {zs : List Int} (h : IntsAt w v zs) : ∃ ao cap, v = .slice ao zs.length cap ∧ zs.length ≤ 9223372036854775807 ∧ (0 < zs.length → ∃ b off, ao = some ⟨b, off, none⟩ ∧ b < w.heap.size ∧
    ∀ j, j < zs.length → w.cell? ⟨b, off + j, none⟩ = some (.int .i64 (zs.getD j 0)) ∧ i64B (zs.getD j 0)) := by
  rcases h with ⟨ao, cap, rfl, rfl⟩ | ⟨b, off, cap, rfl, h1, h2, h3, h4, h5⟩
  · exact ⟨ao, cap, rfl, by simp, fun h => absurd h (by simp)⟩
  · exact ⟨_, cap, rfl, h2, fun _ => ⟨b, off, rfl, h3, fun j hj => ⟨h4 j hj, h5 j hj⟩⟩⟩
theorem raws_form {w : World} {v : Value} {rs : List Raw} (h : RawsAt w v rs) : ∃ ao cap, v = .slice ao rs.length cap ∧ rs.length ≤ 9223372036854775807 ∧ (0 < rs.length → ∃ b off, ao = some ⟨b, off, none⟩ ∧ b < w.heap.size ∧
    ∀ j, j < rs.length → RawIn w b (off + j * 4) (rs.getD j raw0)) := by
  rcases h with ⟨ao, cap, rfl, rfl⟩ | ⟨b, off, cap, rfl, _, _, hl, hb, hR⟩
  · exact ⟨ao, cap, rfl, by simp, fun h => absurd h (by simp)⟩
  · exact ⟨_, cap, rfl, hl, fun _ => ⟨b, off, rfl, hb, hR⟩⟩

set_option maxHeartbeats 4000000 in
set_option maxRecDepth 20000 in
theorem blanks_walk (v1 : Value) (rs : List Raw) (v2 : Value) (zs : List Int) (w : World) (ht : Dec.Tab w) (hr : RawsAt w v1 rs) (hz : IntsAt w v2 zs) : Calls Tryz.prog 3 #[v1, v2] w (Ret (.bool true) w) := by
  obtain ⟨ao, cap, rfl, hl, hR⟩ := raws_form hr
  obtain ⟨bo, bc, rfl, hl2, hZ⟩ := ints_form hz
  have HR := Lib.hid hR
  have HZ := Lib.hid hZ
  have HT := Lib.hid ht
  clear hR ht hr hz hZ
  generalize hN : rs.length = N at *
  generalize hM : zs.length = M at *
  have HN := Lib.hid hN
  have HM := Lib.hid hM
  clear hN hM
  go_enter Tryz.func3, Tryz.ntmps3
  go_wp2_with fail
  (with_reducible refine (awake_any _).mono ?_)
  rintro e1 w1 ⟨rfl, hb1⟩
  go_wp2_with fail
  go_loopw [6, 7, 8] (fun s t i wr => ∃ (k : Nat) (S T : List UInt8), k ≤ N ∧ k ≤ 40 ∧ i = .int .i64 k ∧ s = .string ⟨S.toArray⟩ ∧ t = .string ⟨T.toArray⟩ ∧ Hid (S = wordsL ((wsOf rs 40).take k)) ∧ Hid (T = gapsL (esOf rs zs k)) ∧
      S.length ≤ 183 * k ∧ T.length ≤ 194 * k ∧ Below w.heap.size w wr)
    (fun _ _ i _ => N - (intOf i).toNat)
  case atStart => exact ⟨0, [], [], Nat.zero_le _, Nat.zero_le _, rfl, rfl, rfl, rfl, rfl, by simp, by simp, hb1⟩
  case round =>
    obtain ⟨k, S, T, hkN, hk40, rfl, rfl, rfl, HS, HTt, hSl, hTl, hbw⟩ := hrel
    have hsz := hbw.size
    by_cases hlt : k < N ∧ k < 40
    · obtain ⟨hlN, hl40⟩ := hlt
      obtain ⟨b, off, rfl, hbl, hRa⟩ := HR.out (by omega)
      have HX := Lib.hid (hRa k hlN)
      have HXw := Lib.hid (wsOf_step (rs := rs) (m := 40) (k := k) hl40 (by rw [HN.out]; exact hlN))
      have HXe := Lib.hid (esOf_succ rs zs k)
      have hg1 := gapOf_len zs k
      obtain ⟨G, HG⟩ : ∃ G, Hid (gapOf zs k = G) := ⟨_, rfl⟩
      rw [HG.out] at HXe hg1
      generalize rs.getD k raw0 = X at *
      have t40 : decide ((k : Int) < 40) = true := decide_eq_true (by omega)
      have HB := Lib.hid (And.intro hk40 (And.intro hl40 (And.intro hSl hTl)))
      have hS1 : S.length ≤ 1000000 := by omega
      have hT1 : T.length ≤ 1000000 := by omega
      have hk1 : k ≤ 1000000 := by omega
      have hlX := wordT_len X
      have HS4 : Hid (S ++ (wordT X).1 ++ [32] = wordsL ((wsOf rs 40).take (k + 1))) := by
        show _ = _
        rw [HXw.out, wordsL_snoc, ← HS.out]
      have HT4 : Hid (T ++ G ++ (wordT X).1 ++ G = gapsL (esOf rs zs (k + 1))) := by
        show _ = _
        rw [HXe.out, ← HTt.out]
      have HWd : Hid (∀ w', Below w.heap.size w w' → Calls Tryz.prog 7 #[.agg #[.int .i64 X.k, .int .i64 X.m, .int .i64 X.e, X.v]] w' (Ret (.string ⟨(wordT X).1.toArray⟩) w')) := fun w' hb => HX.out.word hb (HT.out.below hb)
      clear hk40 hl40 hSl hTl HXw HXe
      generalize (wordT X).1 = L at *
      by_cases hgz : k < M
      · obtain ⟨b2, off2, rfl, hbl2, hZa⟩ := HZ.out (by omega)
        obtain ⟨hzc, hzb⟩ := hZa k hgz
        have P1 := Lib.hid (fun w => pick_any (zs.getD k 0) 1000 w hzb (by decide) (by decide))
        have p0 := pickS_nonneg (c := zs.getD k 0) (n := 1000) (by decide)
        have p1 := pickS_lt (c := zs.getD k 0) (n := 1000) (by decide)
        have hG0 : G = 32 :: gapL (pickS (zs.getD k 0) 1000).toNat := by
          rw [← HG.out]; unfold gapOf; rw [if_pos (by rw [HM.out]; exact hgz)]
        have hzc2 := (hbw.cell (p := ⟨b2, off2 + k, none⟩) hbl2).trans hzc
        generalize pickS (zs.getD k 0) 1000 = q at *
        generalize zs.getD k 0 = zk at *
        obtain ⟨m0, rfl⟩ : ∃ m0 : Nat, q = m0 := ⟨q.toNat, by omega⟩
        have hm0 : m0 < 1000 := by omega
        rw [Int.toNat_natCast] at hG0
        have HG0 := Lib.hid hG0
        clear p0 p1 hG0 hzc hzb hZa
        go_wp2_with (go_at_call 6; (with_reducible refine (P1.out _).mono ?_); rintro e1 w2 ⟨rfl, rfl⟩)
        clear hzc2 P1
        go_loopw [9, 10] (fun g n wr2 => ∃ (m : Nat) (A : List UInt8), m < 1000 ∧ n = .int .i64 m ∧ g = .string ⟨A.toArray⟩ ∧ Hid (G = A ++ gapL m) ∧ A.length ≤ 6 ∧ Below w.heap.size w wr2) (fun _ n _ => (intOf n).toNat)
        case atStart => exact ⟨m0, [32], hm0, rfl, rfl, by show _ = _; rw [HG0.out]; rfl, by simp, hbw⟩
        case round =>
          obtain ⟨m, A, hm, rfl, rfl, HA, hAl, hbw2⟩ := hrel
          have hsz2 := hbw2.size
          by_cases hm1 : 0 < m
          · have HA2 := Lib.hid (gapL_step hm1)
            have hAG : A.length + 1 ≤ 6 := by
              have h1 := HA.out; rw [HA2.out] at h1
              have h2 : G.length = A.length + (1 + (gapL (m / 4)).length) := by rw [h1]; simp; omega
              omega
            have hmr : ((m : Int)).tmod 4 = ((m % 4 : Nat) : Int) := by rw [Int.tmod_eq_emod_of_nonneg (by omega)]; omega
            have hmq : ((m : Int)).tdiv 4 = ((m / 4 : Nat) : Int) := by rw [Int.tdiv_eq_ediv_of_nonneg (by omega)]; omega
            have HA3 : Hid (G = (A ++ [blank4 (m % 4)]) ++ gapL (m / 4)) := by
              show _ = _
              rw [HA.out, HA2.out]; simp
            clear HA HA2
            have hr4 : m % 4 = 0 ∨ m % 4 = 1 ∨ m % 4 = 2 ∨ m % 4 = 3 := by omega
            generalize hqm : m / 4 = m4 at *
            generalize hrm : m % 4 = r4 at *
            have hm4 : m4 < m := by omega
            have HQR := Lib.hid (And.intro hqm hrm)
            clear hqm hrm
            rcases hr4 with rfl | rfl | rfl | rfl
            all_goals
              go_wp2_with fail
              go_roundw
              case rel => exact ⟨m4, A ++ [_], by omega, rfl, by rw [show ∀ c : UInt8, (⟨#[c]⟩ : ByteArray) = ⟨[c].toArray⟩ from fun _ => rfl, bs_app]; rfl, HA3, by simp; omega, hbw2.alloc hsz2 _⟩
              case measure => simp [intOf]; omega
          · obtain rfl : m = 0 := by omega
            obtain rfl : A = G := by have := HA.out; rw [gapL_zero, List.append_nil] at this; exact this.symm
            clear HA HG0
            obtain ⟨x0, x1, x2, x3, _, _, _, _, _⟩ := HX.out.below hbw2 hbl
            go_wp2_with fail
            (with_reducible refine (HWd.out _ hbw2).mono ?_)
            rintro e1 w3 ⟨rfl, hb3⟩
            have hbw3 := hbw2.trans (hb3.mono hbw2.size)
            clear x0 x1 x2 x3
            obtain ⟨x0, x1, x2, x3, _, _, _, _, _⟩ := HX.out.below hbw3 hbl
            go_wp2_with fail
            (with_reducible refine (HWd.out _ hbw3).mono ?_)
            rintro e1 w4 ⟨rfl, hb4⟩
            have hbw4 := hbw3.trans (hb4.mono hbw3.size)
            clear x0 x1 x2 x3
            go_wp2_with fail
            obtain ⟨q1, q2, q3, q4⟩ := HB.out
            go_roundw
            case rel => exact ⟨k + 1, S ++ L ++ [32], T ++ A ++ L ++ A, by omega, by omega, by go_num, by rw [show (⟨#[32]⟩ : ByteArray) = ⟨[32].toArray⟩ from rfl, bs_app, bs_app], by rw [bs_app, bs_app, bs_app], HS4, HT4, by simp; omega, by simp at hg1 ⊢; omega, hbw4⟩
            case measure => simp [intOf]; omega
      · have hG0 : G = [32] := by
          rw [← HG.out]; unfold gapOf; rw [if_neg (by rw [HM.out]; exact hgz)]
        subst hG0
        have hbw2 := hbw
        have hsz2 := hsz
        obtain ⟨x0, x1, x2, x3, _, _, _, _, _⟩ := HX.out.below hbw2 hbl
        go_wp2_with fail
        (with_reducible refine (HWd.out _ hbw2).mono ?_)
        rintro e1 w3 ⟨rfl, hb3⟩
        have hbw3 := hbw2.trans (hb3.mono hbw2.size)
        clear x0 x1 x2 x3
        obtain ⟨x0, x1, x2, x3, _, _, _, _, _⟩ := HX.out.below hbw3 hbl
        go_wp2_with fail
        (with_reducible refine (HWd.out _ hbw3).mono ?_)
        rintro e1 w4 ⟨rfl, hb4⟩
        have hbw4 := hbw3.trans (hb4.mono hbw3.size)
        clear x0 x1 x2 x3
        go_wp2_with fail
        obtain ⟨q1, q2, q3, q4⟩ := HB.out
        go_roundw
        case rel => exact ⟨k + 1, S ++ L ++ [32], T ++ [32] ++ L ++ [32], by omega, by omega, by go_num, by rw [show (⟨#[32]⟩ : ByteArray) = ⟨[32].toArray⟩ from rfl, bs_app, bs_app], by rw [show (⟨#[32]⟩ : ByteArray) = ⟨[32].toArray⟩ from rfl]; rw [bs_app, bs_app, bs_app], HS4, HT4, by simp; omega, by simp at hg1 ⊢; omega, hbw4⟩
        case measure => simp [intOf]; omega
    · have hkn : k = min 40 N := by omega
      have hwl := wsOf_len rs 40
      rw [HN.out, ← hkn] at hwl
      have hSe : S = wordsL (wsOf rs 40) := by rw [HS.out, List.take_of_length_le (by omega)]
      have E1 := Lib.hid (scanS_words (wsOf_isW rs 40) (by rw [← hSe]; omega))
      rw [← hSe] at E1
      have E2 := Lib.hid (scanS_gaps (esOf_ok rs zs k) (by rw [← HTt.out]; omega))
      rw [← HTt.out] at E2
      have HA := Lib.hid (alike_gaps (zs := zs) hwl (by omega) (by rw [HN.out]; omega))
      have HRi := Lib.hid (scannedG_rising (esOf_ok rs zs k))
      have hL2 := scannedG_len (esOf rs zs k)
      rw [esOf_len] at hL2
      have hS1 : S.length ≤ 1000000 := by omega
      have hT1 : T.length ≤ 1000000 := by omega
      have hk1 : k ≤ 1000000 := by omega
      have hty : N ≤ k ∨ (k < N ∧ 40 ≤ k) := by omega
      clear hSe hwl HS HTt hkn hlt hkN hk40 hSl hTl HR HZ
      generalize scannedW (wsOf rs 40) = La at *
      generalize scannedG (esOf rs zs k) = Lb at *
      rcases hty with t1 | ⟨t1, t2⟩
      all_goals
        go_wp2_with fail
        (with_reducible refine (scan_l S _ (by unfold maxLen; omega)).mono ?_)
        rw [E1.out]
        rintro e1 w5 ⟨va, rfl, ho1, hb5⟩
        simp only [toksR, errR, placeR, show ((0 : Nat) : Int) = 0 from rfl] at ho1 ⊢
        have hbw5 := hbw.trans (hb5.mono hsz)
        go_wp2_with fail
        (with_reducible refine (scan_l T _ (by unfold maxLen; omega)).mono ?_)
        rw [E2.out]
        rintro e1 w6 ⟨vb, rfl, ho2, hb6⟩
        simp only [toksR, errR, placeR, show ((0 : Nat) : Int) = 0 from rfl] at ho2 ⊢
        have hbw6 := hbw5.trans (hb6.mono hbw5.size)
        have A1 := (ToksOwn.at_ ho1).below hb6 (Nat.le_refl _)
        have A2 := ToksOwn.at_ ho2
        clear ho1 ho2 hb5 hb6
        have HA1 := Lib.hid A1
        have HA2 := Lib.hid A2
        rcases A2 with ⟨_, _, _, h⟩ | ⟨bt, ct, hv, hct, _, hbt, hTt⟩
        · rw [h] at hL2; simp at hL2
        rw [hL2] at hv hct hTt
        subst hv
        have HTt := Lib.hid hTt
        clear A1 hTt
        go_wp2_with fail
        go_loopw [17] (fun i wr2 => ∃ j : Nat, 1 ≤ j ∧ j ≤ k + 1 ∧ i = .int .i64 j ∧ Below w6.heap.size w6 wr2) (fun i _ => k + 1 - (intOf i).toNat)
        case atStart => exact ⟨1, Nat.le_refl _, by omega, rfl, Below.refl _ _⟩
        case round =>
          obtain ⟨j, hj1, hjk, rfl, hb7⟩ := hrel
          by_cases hj : j < k + 1
          · obtain ⟨i, rfl⟩ : ∃ i, j = i + 1 := ⟨j - 1, by omega⟩
            have hp := HRi.out.step i (by rw [hL2]; omega)
            have z1 := (HTt.out (i + 1) (by omega)).below hb7 hbt
            have z0 := (HTt.out i (by omega)).below hb7 hbt
            have y1 := z1.c4
            have y0 := z0.c4
            generalize (Lb.getD (i + 1) tok0).p = p1 at *
            generalize (Lb.getD i tok0).p = p0 at *
            have hpd : decide ((p1 : Int) ≤ (p0 : Int)) = false := decide_eq_false (by omega)
            clear z0 z1
            go_wp2_with fail
            go_quiet (fail)
            go_wp2_with fail
            go_roundw
            case rel => exact ⟨i + 1 + 1, by omega, by omega, by go_num, below_drewN hb7 _⟩
            case measure => simp [intOf]; omega
          · obtain rfl : j = k + 1 := by omega
            have hbw7 := hbw6.trans (hb7.mono hbw6.size)
            go_wp2_with fail
            (with_reducible refine (words_true _ _ _ _ _ (HA1.out.below hb7 (Nat.le_refl _)) (HA2.out.below hb7 (Nat.le_refl _)) HA.out).mono ?_)
            rintro e1 w8 ⟨rfl, hb8⟩
            go_wp2_with fail
            go_ret
            exact ⟨rfl, hbw7.trans (hb8.mono hbw7.size)⟩
end Go.Proofs.YtoioidafnedneaaGreatDoor.Lex
