/- The contract of Text: a row of characters, of raw numbers. -/
import Derived.Test.YtfkdepjioleakaaUnquote
import Derived.Laws.Cover4
set_option linter.unusedVariables false
set_option linter.unusedSimpArgs false
namespace Go.Proofs.Ytfkdepjioleakaa
open Go.RowKit

theorem encode_eq {r : Nat} (h : vr r) : Utf8.encode (r : Int) = ⟨(enc r).toArray⟩ := by
  unfold vr at h
  have hv : Utf8.valid (r : Int) = true := by simp [Utf8.valid]; omega
  unfold Utf8.encode enc Lib.encodeRune
  simp only [hv, if_true, Int.toNat_natCast]
  by_cases h1 : r < 128
  · rw [if_pos h1, Lib.encodeRuneZ_one (by omega) (by omega)]
    simp
  · rw [if_neg h1]
    by_cases h2 : r < 2048
    · rw [if_pos h2, Lib.encodeRuneZ_two (by omega) (by omega)]
      simp only [List.map_cons, List.map_nil, Nat.toUInt8]
      congr 4 <;> omega
    · rw [if_neg h2]
      by_cases h3 : r < 65536
      · rw [if_pos h3, Lib.encodeRuneZ_three (by omega)]
        simp only [List.map_cons, List.map_nil, Nat.toUInt8]
        congr 4 <;> first | omega | (congr 4 <;> omega)
      · rw [if_neg h3, Lib.encodeRuneZ_four (by omega) (by omega)]
        simp only [List.map_cons, List.map_nil, Nat.toUInt8]
        congr 4 <;> first | omega | (congr 4 <;> first | omega | (congr 4 <;> omega))

/-- A slice of ints that reads as a list. -/
def IntsAt (w : World) (v : Value) (zs : List Int) : Prop :=
  (∃ ao cap, v = .slice ao 0 cap ∧ zs = []) ∨
  (∃ b off cap, v = .slice (some ⟨b, off, none⟩) zs.length cap ∧ 0 < zs.length ∧ zs.length ≤ 9223372036854775807 ∧ b < w.heap.size ∧
    (∀ j, j < zs.length → w.cell? ⟨b, off + j, none⟩ = some (.int .i64 (zs.getD j 0))) ∧ (∀ j, j < zs.length → -9223372036854775808 ≤ zs.getD j 0 ∧ zs.getD j 0 ≤ 9223372036854775807))
theorem IntsAt.below {w w' : World} {v : Value} {zs : List Int} (h : IntsAt w v zs) (hb : Below w.heap.size w w') : IntsAt w' v zs := by
  rcases h with h | ⟨b, off, cap, h1, h2, h3, h4, h5, h6⟩
  · exact .inl h
  · exact .inr ⟨b, off, cap, h1, h2, h3, Nat.lt_of_lt_of_le h4 hb.size, fun j hj => by rw [(bcell hb).1 _ _ h4]; exact h5 j hj, h6⟩

/-- The character of a raw number. -/
def fixS (v : Int) : Nat := if 55296 ≤ v ∧ v ≤ 57343 then 120 else v.toNat
def chrS (n : Int) : Nat :=
  if pickS n 5 = 0 ∨ pickS n 5 = 1 then fixS (pickS (n.tdiv 5) 128) else if pickS n 5 = 2 then fixS (pickS (n.tdiv 5) 2048)
  else if pickS n 5 = 3 then fixS (pickS (n.tdiv 5) 65536) else fixS (pickS (n.tdiv 5) 1114112)
def textR (zs : List Int) : List Nat := (zs.take 200).map chrS
theorem fixS_vr {v : Int} (h0 : 0 ≤ v) (h1 : v < 1114112) : vr (fixS v) := by
  unfold fixS vr
  split <;> omega
theorem chrS_vr (n : Int) : vr (chrS n) := by
  unfold chrS
  repeat' split
  all_goals
    refine fixS_vr (pickS_nonneg (by decide)) (Int.lt_of_lt_of_le (pickS_lt (by decide)) (by decide))
theorem textR_vr (zs : List Int) : ∀ r ∈ textR zs, vr r := by
  intro r hr
  obtain ⟨z, _, rfl⟩ := List.mem_map.1 hr
  exact chrS_vr z
theorem flat_len (rs : List Nat) : (flat rs).length ≤ 4 * rs.length := by
  induction rs with
  | nil => simp [flat]
  | cons r rs ih =>
    rw [flat_cons, List.length_append, List.length_cons]
    have := (enc_len r).2
    omega
theorem textR_len (zs : List Int) : (flat (textR zs)).length ≤ 800 := by
  have := flat_len (textR zs)
  have h2 : (textR zs).length ≤ 200 := by unfold textR; rw [List.length_map, List.length_take]; exact Nat.min_le_left _ _
  omega
theorem flat_snoc (rs : List Nat) (r : Nat) : flat (rs ++ [r]) = flat rs ++ enc r := by rw [flat_append]; simp [flat]
theorem take_snoc {zs : List Int} {k : Nat} (h : k < zs.length) : (zs.take (k + 1)).map chrS = (zs.take k).map chrS ++ [chrS (zs.getD k 0)] := by
  rw [List.take_succ_eq_append_getElem h, List.map_append]
  simp [List.getD, h]

set_option maxRecDepth 100000 in
/-- string([]rune..) of a slice of one rune, just laid. -/
theorem run_one_rune (w : World) (r : Nat) (h : vr r) (T : TypeId) :
    (convert 37 9 (.slice (some ⟨w.heap.size, 0, none⟩) 1 1)).run Try.prog (w.alloc (.cells #[.int .i32 r] T)) = .ok (.string ⟨(enc r).toArray⟩) (w.alloc (.cells #[.int .i32 r] T)) := by
  rw [run_convert_runes _ 37 9 21 ⟨w.heap.size, 0, none⟩ 1 1 [(r : Int)] (by simp) Try.underlying37 Try.underlying21 Try.underlying9 (fun j hj => by
    obtain rfl : j = 0 := by simp at hj; omega
    simp [Addr.add])]
  rw [show runesBytes ([(r : Int)].take 1) = Utf8.encode (r : Int) by simp [runesBytes], encode_eq h]

theorem wrap32_small (r : Nat) (h : r ≤ 2147483647) : wrap32 (r : Int) = r := by
  unfold wrap32
  omega
theorem tdiv_bounds {z : Int} (h0 : -9223372036854775808 ≤ z) (h1 : z ≤ 9223372036854775807) : -9223372036854775808 ≤ z.tdiv 5 ∧ z.tdiv 5 ≤ 9223372036854775807 := by
  by_cases h : 0 ≤ z
  · rw [Int.tdiv_eq_ediv_of_nonneg h]; omega
  · have e : z.tdiv 5 = -((-z) / 5) := by
      rw [← Int.tdiv_eq_ediv_of_nonneg (show 0 ≤ -z by omega), Int.neg_tdiv, Int.neg_neg]
    rw [e]; omega

set_option maxHeartbeats 4000000 in
set_option maxRecDepth 100000 in
theorem text_some (b off cap : Nat) (zs : List Int) (w : World) (h2 : 0 < zs.length) (h3 : zs.length ≤ 9223372036854775807) (h4 : b < w.heap.size)
    (h5 : ∀ j, j < zs.length → w.cell? ⟨b, off + j, none⟩ = some (.int .i64 (zs.getD j 0))) (h6 : ∀ j, j < zs.length → -9223372036854775808 ≤ zs.getD j 0 ∧ zs.getD j 0 ≤ 9223372036854775807) :
    Calls Try.prog 11 #[.slice (some ⟨b, off, none⟩) zs.length cap] w (Ret (.string ⟨(flat (textR zs)).toArray⟩) w) := by
  have H5 := Lib.hid h5
  have H6 := Lib.hid h6
  clear h5 h6
  generalize hn : zs.length = n at *
  have HN := Lib.hid hn
  clear hn
  generalize hR : flat (textR zs) = R at *
  have HR := Lib.hid hR
  clear hR
  go_enter Try.func11, Try.ntmps11
  go_wp2
  go_loopw [3, 4] (fun sv iv wr => ∃ (k : Nat) (T : List UInt8), k ≤ n ∧ k ≤ 200 ∧ iv = .int .i64 k ∧ sv = .string ⟨T.toArray⟩ ∧ Hid (T = flat ((zs.take k).map chrS)) ∧ Below w.heap.size w wr) (fun _ iv _ => 200 - (intOf iv).toNat)
  case atStart => exact ⟨0, [], by omega, by omega, rfl, rfl, by show _ = _; simp [flat], Below.refl _ _⟩
  case round =>
    obtain ⟨k, T, hk, hk2, rfl, rfl, hT, hbw⟩ := hrel
    have hTl : T.length ≤ 800 := by
      rw [hT.out]
      have := flat_len ((zs.take k).map chrS)
      rw [List.length_map, List.length_take] at this
      have := Nat.min_le_left k zs.length
      omega
    have hTs : (⟨T.toArray⟩ : ByteArray).size ≤ 800 := by rw [bs_size]; exact hTl
    by_cases hlt : k < n
    · by_cases hlt2 : k < 200
      · have hcell := H5.out k hlt
        obtain ⟨z0, z1⟩ := H6.out k hlt
        have HS := Lib.hid (take_snoc (zs := zs) (k := k) (by rw [HN.out]; exact hlt))
        generalize zs.getD k 0 = z at *
        rw [← (bcell hbw).1 _ _ h4] at hcell
        obtain ⟨t0, t1⟩ := tdiv_bounds z0 z1
        have P5 := Lib.hid (fun w => pick_any z 5 w z0 z1 (by decide) (by decide))
        have q0 := pickS_nonneg (c := z) (n := 5) (by decide)
        have q1 := pickS_lt (c := z) (n := 5) (by decide)
        have HC : Hid (chrS z = _) := chrS.eq_1 z
        generalize pickS z 5 = q at *
        have hq : q = 0 ∨ q = 1 ∨ q = 2 ∨ q = 3 ∨ q = 4 := by omega
        clear q0 q1
        rcases hq with rfl | rfl | rfl | rfl | rfl
        · have HF : Hid (chrS z = fixS (pickS (z.tdiv 5) 128)) := by
            show _ = _
            rw [HC.out]; simp
          have PM := Lib.hid (fun w => pick_any (z.tdiv 5) 128 w t0 t1 (by decide) (by decide))
          have v0 := pickS_nonneg (c := z.tdiv 5) (n := 128) (by decide)
          have v1 := pickS_lt (c := z.tdiv 5) (n := 128) (by decide)
          generalize pickS (z.tdiv 5) 128 = v at *
          obtain ⟨r, rfl⟩ := Int.eq_ofNat_of_zero_le v0
          clear HC v0
          by_cases hsur : 55296 ≤ (r : Int) ∧ (r : Int) ≤ 57343
          · exfalso; omega
          · rw [show fixS (r : Int) = r by unfold fixS; rw [if_neg hsur]; simp] at HF
            have hv : vr r := by unfold vr; omega
            have hcv := fun u T => run_one_rune u r hv T
            have hw32 : wrap32 (r : Int) = r := wrap32_small r (by omega)
            have hb : decide (55296 ≤ (r : Int)) = false ∨ (decide (55296 ≤ (r : Int)) = true ∧ decide ((r : Int) ≤ 57343) = false) := by
              by_cases hx : (55296 : Int) ≤ r
              · right; exact ⟨decide_eq_true hx, decide_eq_false (by omega)⟩
              · left; exact decide_eq_false hx
            clear hsur v1 hv
            rcases hb with hb | ⟨hb, hb2⟩
            all_goals
              go_wp2_with (first
                | (go_at_call 13; (with_reducible refine (P5.out _).mono ?_); rintro e w' ⟨rfl, rfl⟩)
                | (go_at_call 13; (with_reducible refine (PM.out _).mono ?_); rintro e w' ⟨rfl, rfl⟩))
              case isTrue => clear hw32 hcv hb; exfalso; have := (enc_len r).2; omega
              clear hw32 hcv hb hcell z0 z1 t0 t1 P5 PM
              go_roundw
              case rel => exact ⟨k + 1, T ++ enc r, by omega, by omega, by go_num, by rw [← bs_append], by show _ = _; rw [HS.out, HF.out, flat_snoc, hT.out], hbw.alloc hbw.size _⟩
              case measure => simp [intOf]; omega
        · have HF : Hid (chrS z = fixS (pickS (z.tdiv 5) 128)) := by
            show _ = _
            rw [HC.out]; simp
          have PM := Lib.hid (fun w => pick_any (z.tdiv 5) 128 w t0 t1 (by decide) (by decide))
          have v0 := pickS_nonneg (c := z.tdiv 5) (n := 128) (by decide)
          have v1 := pickS_lt (c := z.tdiv 5) (n := 128) (by decide)
          generalize pickS (z.tdiv 5) 128 = v at *
          obtain ⟨r, rfl⟩ := Int.eq_ofNat_of_zero_le v0
          clear HC v0
          by_cases hsur : 55296 ≤ (r : Int) ∧ (r : Int) ≤ 57343
          · exfalso; omega
          · rw [show fixS (r : Int) = r by unfold fixS; rw [if_neg hsur]; simp] at HF
            have hv : vr r := by unfold vr; omega
            have hcv := fun u T => run_one_rune u r hv T
            have hw32 : wrap32 (r : Int) = r := wrap32_small r (by omega)
            have hb : decide (55296 ≤ (r : Int)) = false ∨ (decide (55296 ≤ (r : Int)) = true ∧ decide ((r : Int) ≤ 57343) = false) := by
              by_cases hx : (55296 : Int) ≤ r
              · right; exact ⟨decide_eq_true hx, decide_eq_false (by omega)⟩
              · left; exact decide_eq_false hx
            clear hsur v1 hv
            rcases hb with hb | ⟨hb, hb2⟩
            all_goals
              go_wp2_with (first
                | (go_at_call 13; (with_reducible refine (P5.out _).mono ?_); rintro e w' ⟨rfl, rfl⟩)
                | (go_at_call 13; (with_reducible refine (PM.out _).mono ?_); rintro e w' ⟨rfl, rfl⟩))
              case isTrue => clear hw32 hcv hb; exfalso; have := (enc_len r).2; omega
              clear hw32 hcv hb hcell z0 z1 t0 t1 P5 PM
              go_roundw
              case rel => exact ⟨k + 1, T ++ enc r, by omega, by omega, by go_num, by rw [← bs_append], by show _ = _; rw [HS.out, HF.out, flat_snoc, hT.out], hbw.alloc hbw.size _⟩
              case measure => simp [intOf]; omega
        · have HF : Hid (chrS z = fixS (pickS (z.tdiv 5) 2048)) := by
            show _ = _
            rw [HC.out]; simp
          have PM := Lib.hid (fun w => pick_any (z.tdiv 5) 2048 w t0 t1 (by decide) (by decide))
          have v0 := pickS_nonneg (c := z.tdiv 5) (n := 2048) (by decide)
          have v1 := pickS_lt (c := z.tdiv 5) (n := 2048) (by decide)
          generalize pickS (z.tdiv 5) 2048 = v at *
          obtain ⟨r, rfl⟩ := Int.eq_ofNat_of_zero_le v0
          clear HC v0
          by_cases hsur : 55296 ≤ (r : Int) ∧ (r : Int) ≤ 57343
          · exfalso; omega
          · rw [show fixS (r : Int) = r by unfold fixS; rw [if_neg hsur]; simp] at HF
            have hv : vr r := by unfold vr; omega
            have hcv := fun u T => run_one_rune u r hv T
            have hw32 : wrap32 (r : Int) = r := wrap32_small r (by omega)
            have hb : decide (55296 ≤ (r : Int)) = false ∨ (decide (55296 ≤ (r : Int)) = true ∧ decide ((r : Int) ≤ 57343) = false) := by
              by_cases hx : (55296 : Int) ≤ r
              · right; exact ⟨decide_eq_true hx, decide_eq_false (by omega)⟩
              · left; exact decide_eq_false hx
            clear hsur v1 hv
            rcases hb with hb | ⟨hb, hb2⟩
            all_goals
              go_wp2_with (first
                | (go_at_call 13; (with_reducible refine (P5.out _).mono ?_); rintro e w' ⟨rfl, rfl⟩)
                | (go_at_call 13; (with_reducible refine (PM.out _).mono ?_); rintro e w' ⟨rfl, rfl⟩))
              case isTrue => clear hw32 hcv hb; exfalso; have := (enc_len r).2; omega
              clear hw32 hcv hb hcell z0 z1 t0 t1 P5 PM
              go_roundw
              case rel => exact ⟨k + 1, T ++ enc r, by omega, by omega, by go_num, by rw [← bs_append], by show _ = _; rw [HS.out, HF.out, flat_snoc, hT.out], hbw.alloc hbw.size _⟩
              case measure => simp [intOf]; omega
        · have HF : Hid (chrS z = fixS (pickS (z.tdiv 5) 65536)) := by
            show _ = _
            rw [HC.out]; simp
          have PM := Lib.hid (fun w => pick_any (z.tdiv 5) 65536 w t0 t1 (by decide) (by decide))
          have v0 := pickS_nonneg (c := z.tdiv 5) (n := 65536) (by decide)
          have v1 := pickS_lt (c := z.tdiv 5) (n := 65536) (by decide)
          generalize pickS (z.tdiv 5) 65536 = v at *
          obtain ⟨r, rfl⟩ := Int.eq_ofNat_of_zero_le v0
          clear HC v0
          by_cases hsur : 55296 ≤ (r : Int) ∧ (r : Int) ≤ 57343
          · rw [show fixS (r : Int) = 120 by unfold fixS; rw [if_pos hsur]] at HF
            obtain ⟨s0, s1⟩ := hsur
            clear v1
            have hcv : ∀ (u : World) (T : TypeId), (convert 37 9 (.slice (some ⟨u.heap.size, 0, none⟩) 1 1)).run Try.prog (u.alloc (.cells #[.int .i32 120] T)) = .ok (.string ⟨(enc 120).toArray⟩) (u.alloc (.cells #[.int .i32 120] T)) := fun u T => run_one_rune u 120 (by unfold vr; omega) T
            go_wp2_with (first
              | (go_at_call 13; (with_reducible refine (P5.out _).mono ?_); rintro e w' ⟨rfl, rfl⟩)
              | (go_at_call 13; (with_reducible refine (PM.out _).mono ?_); rintro e w' ⟨rfl, rfl⟩))
            case isTrue => clear hcv; exfalso; have := (enc_len 120).2; omega
            clear hcv hcell z0 z1 t0 t1 P5 PM s0 s1
            go_roundw
            case rel => exact ⟨k + 1, T ++ enc 120, by omega, by omega, by go_num, by rw [← bs_append], by show _ = _; rw [HS.out, HF.out, flat_snoc, hT.out], hbw.alloc hbw.size _⟩
            case measure => simp [intOf]; omega
          · rw [show fixS (r : Int) = r by unfold fixS; rw [if_neg hsur]; simp] at HF
            have hv : vr r := by unfold vr; omega
            have hcv := fun u T => run_one_rune u r hv T
            have hw32 : wrap32 (r : Int) = r := wrap32_small r (by omega)
            have hb : decide (55296 ≤ (r : Int)) = false ∨ (decide (55296 ≤ (r : Int)) = true ∧ decide ((r : Int) ≤ 57343) = false) := by
              by_cases hx : (55296 : Int) ≤ r
              · right; exact ⟨decide_eq_true hx, decide_eq_false (by omega)⟩
              · left; exact decide_eq_false hx
            clear hsur v1 hv
            rcases hb with hb | ⟨hb, hb2⟩
            all_goals
              go_wp2_with (first
                | (go_at_call 13; (with_reducible refine (P5.out _).mono ?_); rintro e w' ⟨rfl, rfl⟩)
                | (go_at_call 13; (with_reducible refine (PM.out _).mono ?_); rintro e w' ⟨rfl, rfl⟩))
              case isTrue => clear hw32 hcv hb; exfalso; have := (enc_len r).2; omega
              clear hw32 hcv hb hcell z0 z1 t0 t1 P5 PM
              go_roundw
              case rel => exact ⟨k + 1, T ++ enc r, by omega, by omega, by go_num, by rw [← bs_append], by show _ = _; rw [HS.out, HF.out, flat_snoc, hT.out], hbw.alloc hbw.size _⟩
              case measure => simp [intOf]; omega
        · have HF : Hid (chrS z = fixS (pickS (z.tdiv 5) 1114112)) := by
            show _ = _
            rw [HC.out]; simp
          have PM := Lib.hid (fun w => pick_any (z.tdiv 5) 1114112 w t0 t1 (by decide) (by decide))
          have v0 := pickS_nonneg (c := z.tdiv 5) (n := 1114112) (by decide)
          have v1 := pickS_lt (c := z.tdiv 5) (n := 1114112) (by decide)
          generalize pickS (z.tdiv 5) 1114112 = v at *
          obtain ⟨r, rfl⟩ := Int.eq_ofNat_of_zero_le v0
          clear HC v0
          by_cases hsur : 55296 ≤ (r : Int) ∧ (r : Int) ≤ 57343
          · rw [show fixS (r : Int) = 120 by unfold fixS; rw [if_pos hsur]] at HF
            obtain ⟨s0, s1⟩ := hsur
            clear v1
            have hcv : ∀ (u : World) (T : TypeId), (convert 37 9 (.slice (some ⟨u.heap.size, 0, none⟩) 1 1)).run Try.prog (u.alloc (.cells #[.int .i32 120] T)) = .ok (.string ⟨(enc 120).toArray⟩) (u.alloc (.cells #[.int .i32 120] T)) := fun u T => run_one_rune u 120 (by unfold vr; omega) T
            go_wp2_with (first
              | (go_at_call 13; (with_reducible refine (P5.out _).mono ?_); rintro e w' ⟨rfl, rfl⟩)
              | (go_at_call 13; (with_reducible refine (PM.out _).mono ?_); rintro e w' ⟨rfl, rfl⟩))
            case isTrue => clear hcv; exfalso; have := (enc_len 120).2; omega
            clear hcv hcell z0 z1 t0 t1 P5 PM s0 s1
            go_roundw
            case rel => exact ⟨k + 1, T ++ enc 120, by omega, by omega, by go_num, by rw [← bs_append], by show _ = _; rw [HS.out, HF.out, flat_snoc, hT.out], hbw.alloc hbw.size _⟩
            case measure => simp [intOf]; omega
          · rw [show fixS (r : Int) = r by unfold fixS; rw [if_neg hsur]; simp] at HF
            have hv : vr r := by unfold vr; omega
            have hcv := fun u T => run_one_rune u r hv T
            have hw32 : wrap32 (r : Int) = r := wrap32_small r (by omega)
            have hb : decide (55296 ≤ (r : Int)) = false ∨ (decide (55296 ≤ (r : Int)) = true ∧ decide ((r : Int) ≤ 57343) = false) := by
              by_cases hx : (55296 : Int) ≤ r
              · right; exact ⟨decide_eq_true hx, decide_eq_false (by omega)⟩
              · left; exact decide_eq_false hx
            clear hsur v1 hv
            rcases hb with hb | ⟨hb, hb2⟩
            all_goals
              go_wp2_with (first
                | (go_at_call 13; (with_reducible refine (P5.out _).mono ?_); rintro e w' ⟨rfl, rfl⟩)
                | (go_at_call 13; (with_reducible refine (PM.out _).mono ?_); rintro e w' ⟨rfl, rfl⟩))
              case isTrue => clear hw32 hcv hb; exfalso; have := (enc_len r).2; omega
              clear hw32 hcv hb hcell z0 z1 t0 t1 P5 PM
              go_roundw
              case rel => exact ⟨k + 1, T ++ enc r, by omega, by omega, by go_num, by rw [← bs_append], by show _ = _; rw [HS.out, HF.out, flat_snoc, hT.out], hbw.alloc hbw.size _⟩
              case measure => simp [intOf]; omega
      · have hk200 : k = 200 := by omega
        subst hk200
        go_wp2_with fail
        go_ret
        exact ⟨ret_str (by rw [hT.out, ← HR.out]; rfl), hbw⟩
    · have HK : Hid (k = n) := by show _ = _; omega
      go_wp2_with fail
      go_ret
      refine ⟨ret_str ?_, hbw⟩
      rw [hT.out, ← HR.out]
      unfold textR
      rw [List.take_of_length_le (by rw [HN.out, HK.out]; exact Nat.le_refl _), List.take_of_length_le (by rw [HN.out, ← HK.out]; exact hk2)]

set_option maxHeartbeats 1000000 in
theorem text_none (ao : Option Addr) (cap : Nat) (w : World) : Calls Try.prog 11 #[.slice ao 0 cap] w (Ret (.string ⟨#[]⟩) w) := by
  go_enter Try.func11, Try.ntmps11
  go_wp2
  go_loop [3, 4] (fun sv iv => sv = .string ⟨#[]⟩ ∧ iv = .int .i64 0) (fun _ iv => 200 - (intOf iv).toNat)
  case atStart => exact ⟨rfl, rfl⟩
  case round =>
    obtain ⟨rfl, rfl⟩ := hrel
    go_wp2_with fail
    go_ret
    exact ⟨rfl, Below.refl _ _⟩

theorem text_any (v : Value) (zs : List Int) (w : World) (h : IntsAt w v zs) : Calls Try.prog 11 #[v] w (Ret (.string ⟨(flat (textR zs)).toArray⟩) w) := by
  rcases h with ⟨ao, cap, rfl, rfl⟩ | ⟨b, off, cap, rfl, h2, h3, h4, h5, h6⟩
  · exact text_none ao cap w
  · exact text_some b off cap zs w h2 h3 h4 h5 h6
end Go.Proofs.Ytfkdepjioleakaa
