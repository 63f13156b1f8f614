import Derived.Test.YtoioidafnedneaaDoorBad
import Derived.Test.YtoioidafnedneaaDoorAwake
import Derived.BigQuiet
import Derived.Deep.CutRange
import Derived.Deep.DeepCutAuto
import Derived.Laws.IdiomStrings
/- The walk of the law LexerWhere: it answers true. -/
set_option linter.unusedVariables false
set_option linter.unusedSimpArgs false
namespace Go.Proofs.YtoioidafnedneaaDoor.Lex
open Go.RowKit Go.Sort
open Quo (pickS pickS_nonneg pickS_lt IntsAt textR)

theorem u8_info : (Tryd.prog.info? 5).map (fun i => (i.zero, i.size, i.bytes)) = some (some (.int .u8 0), 1, 1) := by kernel_rfl
theorem run_conv_z {w : World} {base g n : Nat} (h : w.ownsRow base 5 1 (.slice (some ⟨g, 0, none⟩) n n) n (madeCells (Value.int .u8 0).cells (n * 1)).toList) :
    (convert 44 9 (.slice (some ⟨g, 0, none⟩) n n)).run Tryd.prog w = .ok (.string ⟨(List.replicate n (0 : UInt8)).toArray⟩) w := by
  have hc := run_convert_bytes_back (P := Tryd.prog) w 44 9 5 ⟨g, 0, none⟩ n (List.replicate n (0 : UInt8)) Tryd.underlying44 Tryd.underlying5 Tryd.underlying9 (fun j hj => by
    rw [List.length_replicate] at hj
    rw [show (⟨g, 0, none⟩ : Addr).add j = ⟨g, j, none⟩ by simp only [Addr.add]; split <;> simp_all, h.cellAt j (by omega)]
    rw [show (Value.int .u8 0).cells = #[.int .u8 0] from rfl, toList_madeCells_one, List.getElem?_replicate, if_pos (by omega)]
    simp)
  rw [List.length_replicate] at hc
  exact hc
theorem toks_none {w : World} {base : Nat} {v : Value} (h : ToksOwn w base v []) : ∃ ao cap, v = .slice ao 0 cap := by
  rcases h.2 with ⟨rfl, _⟩ | ⟨g, cap, cur, rfl, _⟩
  · exact ⟨_, _, rfl⟩
  · exact ⟨_, _, rfl⟩
theorem scanS_zeros {n : Nat} (h : 20000 < n) : scanS (List.replicate n (0 : UInt8)) = .inl 0 := by
  unfold scanS; rw [if_pos (by rw [List.length_replicate]; exact h)]

set_option maxHeartbeats 2000000 in
set_option maxRecDepth 20000 in
theorem where_walk (v : Value) (rs : List Raw) (wh : Int) (more : ByteArray) (w : World) (ht : Dec.Tab w) (hr : RawsAt w v rs) (hw0 : -9223372036854775808 ≤ wh) (hw1 : wh ≤ 9223372036854775807) (hm : more.size ≤ maxLen) :
    Calls Tryd.prog 5 #[v, .int .i64 wh, .string more] w (Ret (.bool true) w) := by
  have key : ∀ ao cap, v = .slice ao rs.length cap → rs.length ≤ 9223372036854775807 → (0 < rs.length → ∃ b off, ao = some ⟨b, off, none⟩ ∧ b < w.heap.size ∧ ∀ j, j < rs.length → RawIn w b (off + j * 4) (rs.getD j raw0)) →
      Calls Tryd.prog 5 #[v, .int .i64 wh, .string more] w (Ret (.bool true) w) := by
    intro ao cap e hl hR
    subst e
    clear hr
    have HR := Lib.hid hR
    have HT := Lib.hid ht
    clear hR ht
    have P1 := Lib.hid (fun w => pick_any wh 17 w ⟨hw0, hw1⟩ (by decide) (by decide))
    have q0 := pickS_nonneg (c := wh) (n := 17) (by decide)
    have q1 := pickS_lt (c := wh) (n := 17) (by decide)
    generalize pickS wh 17 = q at *
    obtain ⟨jq, rfl⟩ : ∃ jq : Nat, q = jq := ⟨q.toNat, by omega⟩
    have hjq : jq < 17 := by omega
    clear q0 q1 hw0 hw1
    unfold maxLen at hm
    generalize hN : rs.length = N at *
    have HN := Lib.hid hN
    clear hN
    have hbl : ∀ W : World, (W.alloc (.cells #[] 9)).heap.size = W.heap.size + 1 := fun W => by simp
    clear hbl
    go_enter Tryd.func5, Tryd.ntmps5
    go_wp2_with fail
    (with_reducible refine (awake_any _).mono ?_)
    rintro e1 w1 ⟨rfl, hb1⟩
    go_wp2_with fail
    (with_reducible refine (P1.out _).mono ?_)
    rintro e1 w1' ⟨rfl, rfl⟩
    have hbd : badL jq ≠ [] ∧ (badL jq).length ≤ 9 := ⟨(bad_first jq hjq [] (fun _ => rfl)).2.2.1, (bad_first jq hjq [] (fun _ => rfl)).2.2.2⟩
    have hbcell : (w1.alloc (.cells #[.string ⟨#[116, 114, 117]⟩, .string ⟨#[84, 114, 117, 101]⟩, .string ⟨#[110, 117, 108]⟩, .string ⟨#[116, 114, 117, 101, 102, 97, 108, 115, 101]⟩, .string ⟨#[48, 49]⟩, .string ⟨#[45]⟩, .string ⟨#[49, 46]⟩, .string ⟨#[49, 101]⟩, .string ⟨#[34, 97]⟩, .string ⟨#[34, 92, 120, 34]⟩, .string ⟨#[39, 97, 39]⟩, .string ⟨#[0]⟩, .string ⟨#[128]⟩, .string ⟨#[43, 49]⟩, .string ⟨#[46, 53]⟩, .string ⟨#[49, 101, 57, 57]⟩, .string ⟨#[34, 10, 34]⟩] 9)).cell? ⟨w1.heap.size, jq, none⟩ = some (.string ⟨(badL jq).toArray⟩) := by
      rcases (show jq = 0 ∨ jq = 1 ∨ jq = 2 ∨ jq = 3 ∨ jq = 4 ∨ jq = 5 ∨ jq = 6 ∨ jq = 7 ∨ jq = 8 ∨ jq = 9 ∨ jq = 10 ∨ jq = 11 ∨ jq = 12 ∨ jq = 13 ∨ jq = 14 ∨ jq = 15 ∨ jq = 16 by omega) with rfl | rfl | rfl | rfl | rfl | rfl | rfl | rfl | rfl | rfl | rfl | rfl | rfl | rfl | rfl | rfl | rfl
      all_goals (simp; rfl)
    have hb2 := hb1.alloc hb1.size (.cells #[.string ⟨#[116, 114, 117]⟩, .string ⟨#[84, 114, 117, 101]⟩, .string ⟨#[110, 117, 108]⟩, .string ⟨#[116, 114, 117, 101, 102, 97, 108, 115, 101]⟩, .string ⟨#[48, 49]⟩, .string ⟨#[45]⟩, .string ⟨#[49, 46]⟩, .string ⟨#[49, 101]⟩, .string ⟨#[34, 97]⟩, .string ⟨#[34, 92, 120, 34]⟩, .string ⟨#[39, 97, 39]⟩, .string ⟨#[0]⟩, .string ⟨#[128]⟩, .string ⟨#[43, 49]⟩, .string ⟨#[46, 53]⟩, .string ⟨#[49, 101, 57, 57]⟩, .string ⟨#[34, 10, 34]⟩] 9)
    generalize w1.alloc (.cells #[.string ⟨#[116, 114, 117]⟩, .string ⟨#[84, 114, 117, 101]⟩, .string ⟨#[110, 117, 108]⟩, .string ⟨#[116, 114, 117, 101, 102, 97, 108, 115, 101]⟩, .string ⟨#[48, 49]⟩, .string ⟨#[45]⟩, .string ⟨#[49, 46]⟩, .string ⟨#[49, 101]⟩, .string ⟨#[34, 97]⟩, .string ⟨#[34, 92, 120, 34]⟩, .string ⟨#[39, 97, 39]⟩, .string ⟨#[0]⟩, .string ⟨#[128]⟩, .string ⟨#[43, 49]⟩, .string ⟨#[46, 53]⟩, .string ⟨#[49, 101, 57, 57]⟩, .string ⟨#[34, 10, 34]⟩] 9) = w2 at *
    have hi17 : (jq : Int) < 17 := by omega
    obtain ⟨bd, HBD⟩ : ∃ bd, Hid (badL jq = bd) := ⟨_, rfl⟩
    rw [HBD.out] at hbcell hbd
    obtain ⟨hbd0, hbd1⟩ := hbd
    go_wp2_with fail
    go_loopw [9, 10] (fun s i wr => ∃ (k : Nat) (S : List UInt8), k ≤ N ∧ k ≤ 30 ∧ i = .int .i64 k ∧ s = .string ⟨S.toArray⟩ ∧ Hid (S = wordsL ((wsOf rs 30).take k)) ∧ S.length ≤ 183 * k ∧ Below w.heap.size w wr)
      (fun _ i _ => N - (intOf i).toNat)
    case atStart => exact ⟨0, [], Nat.zero_le _, Nat.zero_le _, rfl, rfl, rfl, by simp, hb2⟩
    case round =>
      obtain ⟨k, S, hkN, hk30, rfl, rfl, HS, hSl, hbw⟩ := hrel
      clear hbcell hi17
      have hsz := hbw.size
      by_cases hlt : k < N ∧ k < 30
      · obtain ⟨hlN, hl30⟩ := hlt
        obtain ⟨b, off, rfl, hbl, hRa⟩ := HR.out (by omega)
        have hX := hRa k hlN
        have HX := Lib.hid hX
        have HXw := Lib.hid (wsOf_step (rs := rs) (m := 30) (k := k) hl30 (by rw [HN.out]; exact hlN))
        generalize rs.getD k raw0 = X at *
        obtain ⟨x0, x1, x2, x3, _, _, _, _, _⟩ := HX.out.below hbw hbl
        have t30 : decide ((k : Int) < 30) = true := decide_eq_true (by omega)
        have HB := Lib.hid (And.intro hk30 (And.intro hl30 hSl))
        have hS1 : S.length ≤ 1000000 := by omega
        have hk1 : k ≤ 1000000 := by omega
        clear hk30 hl30 hSl
        go_wp2_with fail
        (with_reducible refine (HX.out.word hbw (HT.out.below hbw)).mono ?_)
        rintro e1 w3 ⟨rfl, hb3⟩
        have hbw3 := hbw.trans (hb3.mono hbw.size)
        have hlX := wordT_len X
        have HS4 : Hid (S ++ (wordT X).1 ++ [32] = wordsL ((wsOf rs 30).take (k + 1))) := by
          show _ = _
          rw [HXw.out, wordsL_snoc, ← HS.out]
        clear x0 x1 x2 x3 hX HXw
        generalize (wordT X).1 = L at *
        go_wp2_with fail
        obtain ⟨q1, q2, q3⟩ := HB.out
        go_roundw
        case rel => exact ⟨k + 1, S ++ L ++ [32], by omega, by omega, by go_num, by rw [show (⟨#[32]⟩ : ByteArray) = ⟨[32].toArray⟩ from rfl, bs_app, bs_app], HS4, by simp; omega, hbw3⟩
        case measure => simp [intOf]; omega
      · have hkn : k = min 30 N := by omega
        have hwl := wsOf_len rs 30
        rw [HN.out, ← hkn] at hwl
        have hSe : S = wordsL (wsOf rs 30) := by rw [HS.out, List.take_of_length_le (by omega)]
        have hS1 : S.length ≤ 6000 := by omega
        have E1 : Hid (∀ more : List UInt8, more.length ≤ 100 → (jq = 8 → more = []) → scanS (S ++ bd ++ [32] ++ more) = .inl S.length) := by
          intro more hml h8
          rw [hSe, ← HBD.out]
          refine scanS_bad (wsOf_isW rs 30) jq hjq more h8 ?_
          rw [← hSe, HBD.out]
          simp
          omega
        clear hSe hwl HS
        have hty : N ≤ k ∨ (k < N ∧ 30 ≤ k) := by omega
        clear hkn hlt hkN hk30 hSl
        have H8 : Hid ((bd == [34, 97]) = false → jq ≠ 8) := by
          intro h e
          subst e
          rw [← HBD.out] at h
          revert h; decide
        cases h8 : (bd == [34, 97]) with
        | true =>
          rcases hty with t1 | ⟨t1, t2⟩
          all_goals
            go_wp2_with fail
            have hM : ((⟨#[]⟩ : ByteArray).extract 0 (min 0 100 : Int).toNat) = ⟨([] : List UInt8).toArray⟩ := by decide
            rw [hM, show (⟨#[32]⟩ : ByteArray) = ⟨[32].toArray⟩ from rfl, bs_app, bs_app, bs_app]
            have hml : ([] : List UInt8).length ≤ 100 := by simp
            have hm8 : jq = 8 → ([] : List UInt8) = [] := fun _ => rfl
            (with_reducible refine (scan_l _ _ (by unfold maxLen; simp; omega)).mono ?_)
            rw [E1.out _ hml hm8]
            rintro e1 w5 ⟨v1, rfl, ho1, hb5⟩
            simp only [toksR, errR, placeR] at ho1 ⊢
            obtain ⟨a1, c1, rfl⟩ := toks_none ho1
            have hbw5 := hbw.trans (hb5.mono hsz)
            have hsz5 := hbw5.size
            clear ho1 hb5 E1 H8 hml hm8
            obtain ⟨i0, hi0, hz0, hz1, hz2⟩ := info_parts u8_info
            go_upto_region 11 with fail
            refine wp_region_lit ?_
            refine wpList_make_full _ rfl _ _ 44 rfl w.heap.size 5 i0 _ 1 Tryd.underlying44 hi0 hz0 hz1 .i64 .i64 20001 20001 20001 rfl rfl rfl rfl (by rw [hz2]; decide) (by unfold maxLen; decide) (by omega) ?_
            intro w6 hM hgM
            have hcv := run_conv_z hM
            obtain ⟨Z, HZ⟩ : ∃ Z, Hid (List.replicate 20001 (0 : UInt8) = Z) := ⟨_, rfl⟩
            rw [HZ.out] at hcv
            have hbw6 := hbw5.grown hgM (by omega) (fun k hk => by cases hk)
            clear hM hgM
            go_wp2_with fail
            (with_reducible refine (scan_l Z _ (by rw [← HZ.out, List.length_replicate]; unfold maxLen; decide)).mono ?_)
            rw [← HZ.out, scanS_zeros (by decide)]
            rintro e1 w7 ⟨v2, rfl, ho2, hb7⟩
            simp only [toksR, errR, placeR] at ho2 ⊢
            obtain ⟨a2, c2, rfl⟩ := toks_none ho2
            have hbw7 := hbw6.trans (hb7.mono hbw6.size)
            clear ho2 hb7 hcv
            go_wp2_with fail
            go_ret
            exact ⟨rfl, hbw7⟩
        | false =>
          obtain ⟨m, hM, hml⟩ : ∃ m : List UInt8, more.extract 0 (min (more.size : Int) 100).toNat = ⟨m.toArray⟩ ∧ m.length ≤ 100 := by
            refine ⟨(more.data.toList).take (min (more.size : Int) 100).toNat, bs_take _ _, ?_⟩
            rw [List.length_take]; omega
          have hm8 : jq = 8 → m = [] := fun e => absurd e (H8.out h8)
          rcases hty with t1 | ⟨t1, t2⟩
          all_goals
            have HMl := Lib.hid (And.intro hM (And.intro hml hm8))
            clear hM hml hm8
            go_wp2_with fail
            obtain ⟨hM, hml, hm8⟩ := HMl.out
            rw [hM, show (⟨#[32]⟩ : ByteArray) = ⟨[32].toArray⟩ from rfl, bs_app, bs_app, bs_app]
            (with_reducible refine (scan_l _ _ (by unfold maxLen; simp; omega)).mono ?_)
            rw [E1.out _ hml hm8]
            rintro e1 w5 ⟨v1, rfl, ho1, hb5⟩
            simp only [toksR, errR, placeR] at ho1 ⊢
            obtain ⟨a1, c1, rfl⟩ := toks_none ho1
            have hbw5 := hbw.trans (hb5.mono hsz)
            have hsz5 := hbw5.size
            clear ho1 hb5 E1 H8 hml hm8
            obtain ⟨i0, hi0, hz0, hz1, hz2⟩ := info_parts u8_info
            go_upto_region 11 with fail
            refine wp_region_lit ?_
            refine wpList_make_full _ rfl _ _ 44 rfl w.heap.size 5 i0 _ 1 Tryd.underlying44 hi0 hz0 hz1 .i64 .i64 20001 20001 20001 rfl rfl rfl rfl (by rw [hz2]; decide) (by unfold maxLen; decide) (by omega) ?_
            intro w6 hM hgM
            have hcv := run_conv_z hM
            obtain ⟨Z, HZ⟩ : ∃ Z, Hid (List.replicate 20001 (0 : UInt8) = Z) := ⟨_, rfl⟩
            rw [HZ.out] at hcv
            have hbw6 := hbw5.grown hgM (by omega) (fun k hk => by cases hk)
            clear hM hgM
            go_wp2_with fail
            (with_reducible refine (scan_l Z _ (by rw [← HZ.out, List.length_replicate]; unfold maxLen; decide)).mono ?_)
            rw [← HZ.out, scanS_zeros (by decide)]
            rintro e1 w7 ⟨v2, rfl, ho2, hb7⟩
            simp only [toksR, errR, placeR] at ho2 ⊢
            obtain ⟨a2, c2, rfl⟩ := toks_none ho2
            have hbw7 := hbw6.trans (hb7.mono hbw6.size)
            clear ho2 hb7 hcv
            go_wp2_with fail
            go_ret
            exact ⟨rfl, hbw7⟩
  rcases hr with ⟨ao, cap, rfl, rfl⟩ | ⟨b, off, cap, rfl, _, _, hl, hb, hR⟩
  · exact key _ _ rfl (by simp) (fun h => absurd h (by simp))
  · exact key _ _ rfl hl (fun _ => ⟨b, off, rfl, hb, hR⟩)
end Go.Proofs.YtoioidafnedneaaDoor.Lex
