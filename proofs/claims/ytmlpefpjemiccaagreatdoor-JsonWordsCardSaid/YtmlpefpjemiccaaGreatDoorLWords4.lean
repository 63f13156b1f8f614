import Derived.Test.YtmlpefpjemiccaaGreatDoorQp
import Derived.Test.YtmlpefpjemiccaaGreatDoorJAwake2
import Derived.Test.YtmlpefpjemiccaaGreatDoorQs
/- The walk of the law JsonWords: it answers true. -/
set_option linter.unusedVariables false
set_option linter.unusedSimpArgs false
namespace Go.Proofs.YtmlpefpjemiccaaGreatDoor.Js
open Go.RowKit Lex Go.Sort

theorem ints_form4 {w : World} {v : Value} {zs : List Int} (h : Quo.IntsAt w v zs) : ∃ ao cap, v = .slice ao zs.length cap ∧ zs.length ≤ 9223372036854775807 ∧ (0 < zs.length → ∃ b off, ao = some ⟨b, off, none⟩ ∧ b < w.heap.size ∧
    (∀ j, j < zs.length → w.cell? ⟨b, off + j, none⟩ = some (.int .i64 (zs.getD j 0))) ∧ ∀ j, j < zs.length → i64B (zs.getD j 0)) := by
  rcases h with ⟨ao, cap, rfl, rfl⟩ | ⟨b, off, cap, rfl, h1, h2, h3, h4, h5⟩
  · exact ⟨ao, cap, rfl, by simp, fun h => absurd h (by simp)⟩
  · exact ⟨_, cap, rfl, h2, fun _ => ⟨b, off, rfl, h3, h4, h5⟩⟩
theorem pick15_any (c n : Int) (w : World) (hc : i64B c) (hn0 : 0 < n) (hn1 : n ≤ 9223372036854775807) :
    Calls Tryz.prog 13 #[.int .i64 c, .int .i64 n] w (fun e w' => e = .returned (.int .i64 (Quo.pickS c n)) ∧ w = w') := by
  obtain ⟨hc0, hc1⟩ := hc
  by_cases hc : c < 0
  all_goals
    go_enter Tryz.func13, Tryz.ntmps13
    go_wp2
    go_ret
    refine ⟨Quo.ret_int ?_, rfl⟩
    unfold Quo.pickS
    first
      | (rw [if_pos hc, ← Int.neg_tmod, Int.tmod_eq_emod_of_nonneg (by omega)]; done)
      | rw [if_neg (by omega)]

/-- The words, in their row. -/
def words15 : Array Value := #[.string ⟨#[123]⟩, .string ⟨#[125]⟩, .string ⟨#[91]⟩, .string ⟨#[93]⟩, .string ⟨#[44]⟩, .string ⟨#[58]⟩, .string ⟨#[34, 97, 34]⟩, .string ⟨#[34, 98, 34]⟩, .string ⟨#[49]⟩, .string ⟨#[45, 50, 46, 53]⟩, .string ⟨#[116, 114, 117, 101]⟩, .string ⟨#[110, 117, 108, 108]⟩, .string ⟨#[102, 97, 108, 115, 101]⟩, .string ⟨#[34, 34]⟩, .string ⟨#[120]⟩]
theorem words15_at : ∀ i, i < 15 → ∃ t : List UInt8, words15[i]? = some (.string ⟨t.toArray⟩) ∧ t.length ≤ 5
  | 0, _ => ⟨[123], rfl, by decide⟩
  | 1, _ => ⟨[125], rfl, by decide⟩
  | 2, _ => ⟨[91], rfl, by decide⟩
  | 3, _ => ⟨[93], rfl, by decide⟩
  | 4, _ => ⟨[44], rfl, by decide⟩
  | 5, _ => ⟨[58], rfl, by decide⟩
  | 6, _ => ⟨[34, 97, 34], rfl, by decide⟩
  | 7, _ => ⟨[34, 98, 34], rfl, by decide⟩
  | 8, _ => ⟨[49], rfl, by decide⟩
  | 9, _ => ⟨[45, 50, 46, 53], rfl, by decide⟩
  | 10, _ => ⟨[116, 114, 117, 101], rfl, by decide⟩
  | 11, _ => ⟨[110, 117, 108, 108], rfl, by decide⟩
  | 12, _ => ⟨[102, 97, 108, 115, 101], rfl, by decide⟩
  | 13, _ => ⟨[34, 34], rfl, by decide⟩
  | 14, _ => ⟨[120], rfl, by decide⟩
  | n + 15, h => absurd h (by omega)

set_option maxHeartbeats 8000000 in
set_option maxRecDepth 100000 in
theorem words_walk (v : Value) (zs : List Int) (w : World) (hT : Dec.Tab w) (hz : Quo.IntsAt w v zs) : Calls Tryz.prog 4 #[v] w (Ret (.bool true) w) := by
  have A1 := Lib.hid (awake_any w hT)
  obtain ⟨ao, cap, rfl, hmx, hcl⟩ := ints_form4 hz
  have HCL := Lib.hid hcl
  obtain ⟨n, HN⟩ : ∃ n, Hid (zs.length = n) := ⟨_, rfl⟩
  rw [HN.out] at hmx HCL ⊢
  clear hcl hz
  go_enter Tryz.func4, Tryz.ntmps4
  go_upto_block 0 with (go_at_call 5; (with_reducible refine (A1.out).mono ?_); rintro e1 w1 ⟨rfl, hbw1⟩)
  have HB1 := Lib.hid hbw1
  obtain ⟨W2, hW2⟩ : ∃ W2, W2 = w1.alloc (.cells words15 9) := ⟨_, rfl⟩
  have HB2 : Hid (Below w.heap.size w W2) := by show Below _ _ _; rw [hW2]; exact hbw1.alloc hbw1.size _
  have HW2 : Hid (W2.heap[w1.heap.size]? = some (.cells words15 9 (0, 0))) := by show _ = _; rw [hW2]; exact heap_alloc_new _ _
  clear hbw1
  change Code.wp _ _ _ _ (w1.alloc (.cells words15 9))
  rw [← hW2]
  clear hW2
  generalize w1.heap.size = bw at *
  have hbw := Own.block_lt HW2.out
  go_cut [5, 6] from 15 to 37 (fun s5 _ wx => ∃ t : List UInt8, s5 = .string ⟨t.toArray⟩ ∧ t.length ≤ 600 ∧ W2 = wx)
  case first =>
    go_wp2_with fail
    go_loopw [5, 6] (fun s5 i wr => ∃ (q : Nat) (t : List UInt8), q ≤ n ∧ q ≤ 60 ∧ i = .int .i64 q ∧ s5 = .string ⟨t.toArray⟩ ∧ t.length ≤ 10 * q ∧ W2 = wr) (fun _ i _ => 60 - (intOf i).toNat)
    case atStart => exact ⟨0, [], Nat.zero_le _, by omega, rfl, rfl, by simp, by first | rfl | trivial⟩
    case round =>
      obtain ⟨q, t, hq, hq6, rfl, rfl, ht, rfl⟩ := hrel
      by_cases h1 : q < n
      · have i1 : (q : Int) < (n : Int) := by omega
        by_cases h2 : q < 60
        · have i2 : (q : Int) < 60 := by omega
          obtain ⟨b, off, rfl, hb, hel, hrg⟩ := HCL.out (by omega)
          have y0 := (World.cell?_of_block (w := w) (a := ⟨b, off + q, none⟩) (HB2.out.block b hb)).trans (hel q h1)
          have hbl : b < W2.heap.size := Nat.lt_of_lt_of_le hb HB2.out.size
          have P1 := Lib.hid (fun w' => pick15_any (zs.getD q 0) 15 w' (hrg q h1) (by decide) (by decide))
          have g0 := Quo.pickS_nonneg (c := zs.getD q 0) (n := 15) (by decide)
          have g1 := Quo.pickS_lt (c := zs.getD q 0) (n := 15) (by decide)
          obtain ⟨D, hD⟩ : ∃ D : Nat, Quo.pickS (zs.getD q 0) 15 = D := ⟨(Quo.pickS (zs.getD q 0) 15).toNat, by omega⟩
          rw [hD] at P1 g0 g1
          obtain ⟨t5, ht5, hl5⟩ := words15_at D (by omega)
          have y1 : W2.cell? ⟨bw, D, none⟩ = some (.string ⟨t5.toArray⟩) := (cell_of_row _ _ _ _ _ _ HW2.out).trans ht5
          clear hel hrg hD ht5
          generalize zs.getD q 0 = z at *
          have hl6 : t.length ≤ 600 := by omega
          have i3 : (D : Int) < 15 := by omega
          go_wp2_with (go_at_call 13; (with_reducible refine (P1.out _).mono ?_); rintro e2 w2 ⟨rfl, rfl⟩)
          go_roundw
          case rel =>
            refine ⟨q + 1, t ++ t5 ++ [32], by omega, by omega, by go_num, ?_, by simp; omega, trivial⟩
            rw [show (⟨#[32]⟩ : ByteArray) = ⟨[32].toArray⟩ from rfl, bs_app, bs_app]
          case measure => simp [intOf]; omega
        · have i2 : ¬ (q : Int) < 60 := by omega
          go_wp2_with fail
          go_meet
          exact ⟨t, rfl, by omega, rfl⟩
      · have i1 : ¬ (q : Int) < (n : Int) := by omega
        go_wp2_with fail
        go_meet
        exact ⟨t, rfl, by omega, rfl⟩
  case rest =>
    obtain ⟨t, rfl, ht, rfl⟩ := hcut
    have PA := Lib.hid (fun w' => parse_any t w' (by unfold maxLen; omega))
    have PB := Lib.hid (fun w' => rparse_any t w' (by unfold maxLen; omega))
    unfold ParseRet at PA PB
    generalize parseS t = R at *
    obtain ⟨r1, r2, r3⟩ := R
    simp only at PA PB
    clear HW2 HCL hbw
    go_upto_region 10 with (first
      | (go_at_call 14; (with_reducible refine (PA.out _).mono ?_); rintro e2 w2 ⟨k2, m2, e2', t2, an2, nn2, cn2, ai2, ni2, ci2, rfl, hJ2, hb2⟩; have HB3 := Lib.hid ((HB2.out.trans (hb2.mono HB2.out.size)).alloc (HB2.out.trans (hb2.mono HB2.out.size)).size (.cells #[.int .i64 k2, .int .i64 m2, .int .i64 e2', .string t2, .slice an2 nn2 cn2, .slice ai2 ni2 ci2] 27)); have HJ3 := Lib.hid (hJ2.any.below ((Below.refl w2.heap.size w2).alloc (Nat.le_refl _) (.cells #[.int .i64 k2, .int .i64 m2, .int .i64 e2', .string t2, .slice an2 nn2 cn2, .slice ai2 ni2 ci2] 27)) (Nat.le_refl _)); have HX3 := Lib.hid (heap_alloc_new w2 (.cells #[.int .i64 k2, .int .i64 m2, .int .i64 e2', .string t2, .slice an2 nn2 cn2, .slice ai2 ni2 ci2] 27)); clear hJ2 hb2)
      | (go_at_call 15; (with_reducible refine (PB.out _).mono ?_); rintro e3 w3 ⟨k3, m3, e3', t3, an3, nn3, cn3, ai3, ni3, ci3, rfl, hJ3, hb3⟩; have HB4 := Lib.hid (HB3.out.trans (hb3.mono HB3.out.size)); have HX4 := Lib.hid ((hb3.block _ (Own.block_lt HX3.out)).trans HX3.out); have HJ4 := Lib.hid (HJ3.out.below hb3 (Nat.le_refl _)); have HK4 := Lib.hid hJ3.any; clear hJ3 hb3))
    have HB5 := Lib.hid (HB4.out.alloc HB4.out.size (.cells #[.int .i64 k3, .int .i64 m3, .int .i64 e3', .string t3, .slice an3 nn3 cn3, .slice ai3 ni3 ci3] 27))
    have hbo := (Below.refl w3.heap.size w3).alloc (Nat.le_refl _) (.cells #[.int .i64 k3, .int .i64 m3, .int .i64 e3', .string t3, .slice an3 nn3 cn3, .slice ai3 ni3 ci3] 27)
    have SA := Lib.hid (rsame_of Any Any _ _ _ _ _ (HJ4.out.below hbo (Nat.le_refl _)) (HK4.out.below hbo (Nat.le_refl _)))
    rw [sameJ_refl] at SA
    have hX5 := (hbo.block _ (Own.block_lt HX4.out)).trans HX4.out
    obtain ⟨x0, x1, x2, x3, x4, x5⟩ := six_of hX5
    obtain ⟨y0, y1, y2, y3, y4, y5⟩ := six_of (heap_alloc_new w3 (.cells #[.int .i64 k3, .int .i64 m3, .int .i64 e3', .string t3, .slice an3 nn3 cn3, .slice ai3 ni3 ci3] 27))
    have hl1 := Own.block_lt HX4.out
    clear hbo hX5
    go_wp2_with (go_at_call 12; (with_reducible refine (SA.out).mono ?_); rintro e6 w6 ⟨rfl, hb6⟩)
    go_ret
    exact ⟨rfl, HB5.out.trans (hb6.mono HB5.out.size)⟩
end Go.Proofs.YtmlpefpjemiccaaGreatDoor.Js
