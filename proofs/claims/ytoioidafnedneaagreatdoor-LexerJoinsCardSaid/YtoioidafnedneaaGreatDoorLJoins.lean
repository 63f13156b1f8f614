import Derived.Test.YtoioidafnedneaaGreatDoorJoin
import Derived.Test.YtoioidafnedneaaGreatDoorLBlanks
/- The walk of the law LexerJoins: it answers true. -/
set_option linter.unusedVariables false
set_option linter.unusedSimpArgs false
namespace Go.Proofs.YtoioidafnedneaaGreatDoor.Lex
open Go.RowKit Go.Sort
open Quo (pickS pickS_nonneg pickS_lt IntsAt textR)

theorem six_cell (w : World) (jq : Nat) (h : jq < 6) : (w.alloc (.cells #[.string ⟨#[123]⟩, .string ⟨#[125]⟩, .string ⟨#[91]⟩, .string ⟨#[93]⟩, .string ⟨#[44]⟩, .string ⟨#[58]⟩] 9)).cell? ⟨w.heap.size, jq, none⟩ = some (.string ⟨(signL (jq : Int)).toArray⟩) := by
  rcases (show jq = 0 ∨ jq = 1 ∨ jq = 2 ∨ jq = 3 ∨ jq = 4 ∨ jq = 5 by omega) with rfl | rfl | rfl | rfl | rfl | rfl
  all_goals (simp; rfl)

set_option maxHeartbeats 4000000 in
set_option maxRecDepth 20000 in
theorem joins_walk (v1 : Value) (rs1 : List Raw) (v2 : Value) (rs2 : List Raw) (sg : Int) (w : World) (ht : Dec.Tab w) (hr1 : RawsAt w v1 rs1) (hr2 : RawsAt w v2 rs2) (hg0 : -9223372036854775808 ≤ sg) (hg1 : sg ≤ 9223372036854775807) :
    Calls Tryz.prog 4 #[v1, v2, .int .i64 sg] w (Ret (.bool true) w) := by
  obtain ⟨ao, cap, rfl, hl1, hR1⟩ := raws_form hr1
  obtain ⟨bo, bcp, rfl, hl2, hR2⟩ := raws_form hr2
  have HR1 := Lib.hid hR1
  have HR2 := Lib.hid hR2
  have HT := Lib.hid ht
  have P1 := Lib.hid (fun w => pick_any sg 6 w ⟨hg0, hg1⟩ (by decide) (by decide))
  have q0 := pickS_nonneg (c := sg) (n := 6) (by decide)
  have q1 := pickS_lt (c := sg) (n := 6) (by decide)
  generalize pickS sg 6 = q at *
  obtain ⟨jq, rfl⟩ : ∃ jq : Nat, q = jq := ⟨q.toNat, by omega⟩
  have hjq : jq < 6 := by omega
  clear hR1 hR2 ht hr1 hr2 q0 q1 hg0 hg1
  generalize hN1 : rs1.length = N1 at *
  generalize hN2 : rs2.length = N2 at *
  have HN1 := Lib.hid hN1
  have HN2 := Lib.hid hN2
  clear hN1 hN2
  go_enter Tryz.func4, Tryz.ntmps4
  go_wp2_with fail
  (with_reducible refine (awake_any _).mono ?_)
  rintro e1 w1 ⟨rfl, hb1⟩
  go_wp2_with fail
  go_loopw [8, 9] (fun s i wr => ∃ (k : Nat) (S : List UInt8), k ≤ N1 ∧ k ≤ 20 ∧ i = .int .i64 k ∧ s = .string ⟨S.toArray⟩ ∧ Hid (S = wordsL ((wsOf rs1 20).take k)) ∧ S.length ≤ 183 * k ∧ Below w.heap.size w wr)
    (fun _ i _ => N1 - (intOf i).toNat)
  case atStart => exact ⟨0, [], Nat.zero_le _, Nat.zero_le _, rfl, rfl, rfl, by simp, hb1⟩
  case round =>
    obtain ⟨k, S, hkN, hk20, rfl, rfl, HS, hSl, hbw⟩ := hrel
    have hsz := hbw.size
    by_cases hlt : k < N1 ∧ k < 20
    · obtain ⟨hlN, hl20⟩ := hlt
      obtain ⟨b, off, rfl, hbl, hRa⟩ := HR1.out (by omega)
      have HX := Lib.hid (hRa k hlN)
      have HXw := Lib.hid (wsOf_step (rs := rs1) (m := 20) (k := k) hl20 (by rw [HN1.out]; exact hlN))
      generalize rs1.getD k raw0 = X at *
      obtain ⟨x0, x1, x2, x3, _, _, _, _, _⟩ := HX.out.below hbw hbl
      have t20 : decide ((k : Int) < 20) = true := decide_eq_true (by omega)
      have HB := Lib.hid (And.intro hk20 (And.intro hl20 hSl))
      have hS1 : S.length ≤ 1000000 := by omega
      have hk1 : k ≤ 1000000 := by omega
      clear hk20 hl20 hSl
      go_wp2_with fail
      (with_reducible refine (HX.out.word hbw (HT.out.below hbw)).mono ?_)
      rintro e1 w3 ⟨rfl, hb3⟩
      have hbw3 := hbw.trans (hb3.mono hbw.size)
      have hlX := wordT_len X
      have HS4 : Hid (S ++ (wordT X).1 ++ [32] = wordsL ((wsOf rs1 20).take (k + 1))) := by
        show _ = _
        rw [HXw.out, wordsL_snoc, ← HS.out]
      clear x0 x1 x2 x3 HXw
      generalize (wordT X).1 = L at *
      go_wp2_with fail
      obtain ⟨q1, q2, q3⟩ := HB.out
      go_roundw
      case rel => exact ⟨k + 1, S ++ L ++ [32], by omega, by omega, by go_num, by rw [show (⟨#[32]⟩ : ByteArray) = ⟨[32].toArray⟩ from rfl, bs_app, bs_app], HS4, by simp; omega, hbw3⟩
      case measure => simp [intOf]; omega
    · have hkn : k = min 20 N1 := by omega
      have hwl := wsOf_len rs1 20
      rw [HN1.out, ← hkn] at hwl
      have hSe : S = wordsL (wsOf rs1 20) := by rw [HS.out, List.take_of_length_le (by omega)]
      have hS0 : S.length ≤ 6000 := by omega
      have hty : N1 ≤ k ∨ (k < N1 ∧ 20 ≤ k) := by omega
      have HSE := Lib.hid hSe
      clear hSe HS hkn hlt hkN hk20 hSl HR1
      have hk1 : k ≤ 1000 := by have := wsOf_len rs1 20; omega
      rcases hty with t1 | ⟨t1, t2⟩
      all_goals
        go_wp2_with fail
        go_loopw [10, 11] (fun s i wr2 => ∃ (m : Nat) (T : List UInt8), m ≤ N2 ∧ m ≤ 20 ∧ i = .int .i64 m ∧ s = .string ⟨T.toArray⟩ ∧ Hid (T = afterL ((wsOf rs2 20).take m)) ∧ T.length ≤ 183 * m ∧ Below w.heap.size w wr2)
          (fun _ i _ => N2 - (intOf i).toNat)
        case atStart => exact ⟨0, [], Nat.zero_le _, Nat.zero_le _, rfl, rfl, rfl, by simp, hbw⟩
        case round =>
          obtain ⟨m, T, hmN, hm20, rfl, rfl, HTa, hTl, hbx⟩ := hrel
          have hszx := hbx.size
          by_cases hlt : m < N2 ∧ m < 20
          · obtain ⟨hlN, hl20⟩ := hlt
            obtain ⟨b, off, rfl, hbl, hRa⟩ := HR2.out (by omega)
            have HX := Lib.hid (hRa m hlN)
            have HXw := Lib.hid (wsOf_step (rs := rs2) (m := 20) (k := m) hl20 (by rw [HN2.out]; exact hlN))
            generalize rs2.getD m raw0 = X at *
            obtain ⟨x0, x1, x2, x3, _, _, _, _, _⟩ := HX.out.below hbx hbl
            have t20 : decide ((m : Int) < 20) = true := decide_eq_true (by omega)
            have HB := Lib.hid (And.intro hm20 (And.intro hl20 hTl))
            have hT1 : T.length ≤ 1000000 := by omega
            have hm1 : m ≤ 1000000 := by omega
            clear hm20 hl20 hTl
            go_wp2_with fail
            (with_reducible refine (HX.out.word hbx (HT.out.below hbx)).mono ?_)
            rintro e1 w3 ⟨rfl, hb3⟩
            have hbw3 := hbx.trans (hb3.mono hbx.size)
            have hlX := wordT_len X
            have HT4 : Hid (T ++ [32] ++ (wordT X).1 = afterL ((wsOf rs2 20).take (m + 1))) := by
              show _ = _
              rw [HXw.out, afterL_snoc, ← HTa.out]
            clear x0 x1 x2 x3 HXw
            generalize (wordT X).1 = L at *
            go_wp2_with fail
            obtain ⟨q1, q2, q3⟩ := HB.out
            go_roundw
            case rel => exact ⟨m + 1, T ++ [32] ++ L, by omega, by omega, by go_num, by rw [show (⟨#[32]⟩ : ByteArray) = ⟨[32].toArray⟩ from rfl, bs_app, bs_app], HT4, by simp; omega, hbw3⟩
            case measure => simp [intOf]; omega
          · have hmn : m = min 20 N2 := by omega
            have hwl2 := wsOf_len rs2 20
            rw [HN2.out, ← hmn] at hwl2
            have hTe : T = afterL (wsOf rs2 20) := by rw [HTa.out, List.take_of_length_le (by omega)]
            have hT0 : T.length ≤ 6000 := by omega
            have hty : N2 ≤ m ∨ (m < N2 ∧ 20 ≤ m) := by omega
            have hSe := HSE.out
            obtain ⟨D, hD, hA⟩ := join_alike (wsOf_isW rs1 20) (wsOf_isW rs2 20) (jq : Int) (by rw [← hSe]; exact hS0) (by rw [← hTe]; exact hT0)
            have E1 := Lib.hid (scanS_words (wsOf_isW rs1 20) (by rw [← hSe]; omega))
            have E2 := Lib.hid (scanS_after (wsOf_isW rs2 20) (by rw [← hTe]; omega))
            rw [← hSe] at hD E1
            rw [← hTe] at hD E2
            have E3 := Lib.hid hD
            have HA := Lib.hid hA
            have hLa := wordsT_len (wsOf rs1 20) 0
            rw [hwl] at hLa
            have hLb : ((afterT 0 (wsOf rs2 20)).1 ++ [⟨5, [], 0, 0, (afterT 0 (wsOf rs2 20)).2⟩] : List Tok).length = m + 1 := by simp [afterT_len, hwl2]
            have E1' : Hid (scanS S = .inr ((wordsT 0 (wsOf rs1 20)).1 ++ [⟨5, [], 0, 0, (wordsL (wsOf rs1 20)).length⟩])) := E1
            clear hTe HTa hmn hlt hmN hm20 hTl HR2 hD hA hwl2 E1 hSe HSE
            have hm1 : m ≤ 1000 := by have := wsOf_len rs2 20; simp [afterT_len] at hLb; omega
            generalize (wordsT 0 (wsOf rs1 20)).1 = La at *
            generalize ((afterT 0 (wsOf rs2 20)).1 ++ [⟨5, [], 0, 0, (afterT 0 (wsOf rs2 20)).2⟩] : List Tok) = Lb at *
            generalize (wordsL (wsOf rs1 20)).length = pe at *
            rcases hty with s1 | ⟨s1, s2⟩
            all_goals
              go_wp2_with fail
              (with_reducible refine (P1.out _).mono ?_)
              rintro e1 w4 ⟨rfl, rfl⟩
              have hcl := six_cell wr jq hjq
              have hbx2 := hbx.alloc hszx (.cells #[.string ⟨#[123]⟩, .string ⟨#[125]⟩, .string ⟨#[91]⟩, .string ⟨#[93]⟩, .string ⟨#[44]⟩, .string ⟨#[58]⟩] 9)
              generalize wr.alloc (.cells #[.string ⟨#[123]⟩, .string ⟨#[125]⟩, .string ⟨#[91]⟩, .string ⟨#[93]⟩, .string ⟨#[44]⟩, .string ⟨#[58]⟩] 9) = w4 at *
              have hi6 : (jq : Int) < 6 := by omega
              obtain ⟨C, HC⟩ : ∃ C, Hid (signL (jq : Int) = C) := ⟨_, rfl⟩
              have hC1 : C.length ≤ 1 := by rw [← HC.out]; obtain ⟨c, e, _⟩ := signL_one (jq : Int); rw [e]; simp
              rw [HC.out] at hcl E3 HA
              go_wp2_with fail
              (with_reducible refine (scan_l S _ (by unfold maxLen; omega)).mono ?_)
              rw [E1'.out]
              rintro e1 w5 ⟨va, rfl, ho1, hb5⟩
              simp only [toksR, errR, placeR, show ((0 : Nat) : Int) = 0 from rfl] at ho1 ⊢
              have hbw5 := hbx2.trans (hb5.mono hbx2.size)
              clear hcl hi6
              go_wp2_with fail
              (with_reducible refine (scan_l T _ (by unfold maxLen; omega)).mono ?_)
              rw [E2.out]
              rintro e1 w6 ⟨vb, rfl, ho2, hb6⟩
              simp only [toksR, errR, placeR, show ((0 : Nat) : Int) = 0 from rfl] at ho2 ⊢
              have hbw6 := hbw5.trans (hb6.mono hbw5.size)
              have A1 := (ToksOwn.at_ ho1).below hb6 (Nat.le_refl _)
              have A2 := ToksOwn.at_ ho2
              clear ho1 ho2 hb5 hb6
              go_wp2_with fail
              rw [show (max ((S.length : Int) - 1) 0).toNat = S.length - 1 by omega, bs_take, show (⟨S.toArray⟩ : ByteArray).data.toList = S from rfl, bs_app, bs_app]
              (with_reducible refine (scan_l _ _ (by unfold maxLen; simp; omega)).mono ?_)
              rw [E3.out]
              rintro e1 w7 ⟨vd, rfl, ho3, hb7⟩
              simp only [toksR, errR, placeR, show ((0 : Nat) : Int) = 0 from rfl] at ho3 ⊢
              have hbw7 := hbw6.trans (hb7.mono hbw6.size)
              have A1 := A1.below hb7 (Nat.le_refl _)
              have A2 := A2.below hb7 (Nat.le_refl _)
              have A3 := Lib.hid (ToksOwn.at_ ho3)
              clear ho3 hb7
              rcases A1 with ⟨_, _, _, h⟩ | ⟨ba, ca, hva, hca, _, hba, hTa⟩
              · simp at h
              rcases A2 with ⟨_, _, _, h⟩ | ⟨bb, cb, hvb, hcb, _, hbb, hTb⟩
              · rw [h] at hLb; simp at hLb
              have hLa1 : (La ++ [⟨5, [], 0, 0, pe⟩] : List Tok).length = k + 1 := by simp [hLa]
              rw [hLa1] at hva hca hTa
              rw [hLb] at hvb hcb
              subst hva hvb
              have HTa : Hid (∀ j, j < La.length → TokIn w7 ba (j * 5) (La.getD j tok0)) := fun j hj => by
                have := hTa j (by omega)
                rwa [List.getD_eq_getElem?_getD, List.getElem?_append_left hj, ← List.getD_eq_getElem?_getD] at this
              have HTb := Lib.hid hTb
              have HLa := Lib.hid hLa
              have HLb := Lib.hid hLb
              clear hTa hTb hLa1 E1' E2 E3 hLa hLb hbw5 hbw6 hbx hbx2
              have f1 : ((k : Int) + 1 == 0) = false := by simp; omega
              have f2 : ((m : Int) + 1 == 0) = false := by simp; omega
              have hz7 := hbw7.size
              go_wp2_with (first | (at_builtin; (refine append_toks rfl (.const (.slice none 0 0)) (.tmp 120) rfl w7.heap.size _ [] rfl (ToksOwn.nil _ _) La ba _ _ rfl (by have := HLa.out; omega) HTa.out (by have := HLa.out; simp only [List.length_nil]; omega) (Nat.le_refl _) ?_); intro v8 w8 hO8 hB8) | (at_builtin; (have hz8 := hB8.size; refine append_tok rfl (.tmp 121) (.tmp 124) rfl w7.heap.size v8 ([] ++ La) rfl (hO8.alloc _) _ _ rfl ⟨1, C, 0, 0, 0⟩ (heap_alloc_new w8 _) (by have := HLa.out; simp only [List.nil_append]; omega) (by simp; omega) ?_); intro v9 w9 hO9 hB9; have hB79 := (hB8.alloc hB8.size _).trans hB9) | (at_builtin; (refine append_toks rfl (.tmp 125) (.tmp 126) rfl w7.heap.size v9 ([] ++ La ++ [(⟨1, C, 0, 0, 0⟩ : Tok)]) rfl hO9 Lb bb _ _ rfl (by have := HLb.out; omega) (fun j hj => (HTb.out j hj).below hB79 hbb) (by have h1 := HLa.out; have h2 := HLb.out; simp only [List.nil_append, List.length_append, List.length_cons, List.length_nil]; omega) hB79.size ?_); intro v10 w10 hO10 hB10))
              have hB710 := hB79.trans hB10
              rw [List.nil_append] at hO10
              (with_reducible refine (words_true _ _ _ _ _ (A3.out.below hB710 (Nat.le_refl _)) (ToksOwn.at_ hO10) HA.out).mono ?_)
              rintro e1 w11 ⟨rfl, hb11⟩
              have hbw10 := hbw7.trans (hB710.mono hbw7.size)
              go_wp2_with fail
              go_ret
              exact ⟨rfl, hbw10.trans (hb11.mono hbw10.size)⟩
end Go.Proofs.YtoioidafnedneaaGreatDoor.Lex
