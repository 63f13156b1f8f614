import Derived.Test.YtmlpefpjemiccaaGreatDoorDecR
/- The contract of Print of the document's answer: it is printS. -/
set_option linter.unusedSimpArgs false
set_option linter.unusedVariables false
namespace Go.Proofs.YtmlpefpjemiccaaGreatDoor.Dec
open Go.RowKit Go.Sort

set_option maxHeartbeats 1000000 in
theorem rprint_no (m e : Int) (w : World) (hm0 : -9223372036854775808 ≤ m) (hm1 : m ≤ 9223372036854775807) (he0 : -9223372036854775808 ≤ e) (he1 : e ≤ 9223372036854775807) (hr : rightB m e = false) :
    Calls Tryz.prog 32 #[.agg #[.int .i64 m, .int .i64 e]] w (Ret (.string ⟨#[]⟩) w) := by
  go_enter Tryz.func32, Tryz.ntmps32
  go_wp2_with fail
  (with_reducible refine (rright_any _ _ _ hm0 hm1 he0 he1).mono ?_)
  rintro e1 w1 ⟨rfl, hb⟩
  rw [hr]
  have hbb := below_call hb
  clear hb
  go_wp2_with fail
  go_ret
  exact ⟨rfl, hbb⟩

set_option maxHeartbeats 2000000 in
theorem rprint_yes (m e : Int) (w : World) (hr : rightB m e = true) :
    Calls Tryz.prog 32 #[.agg #[.int .i64 m, .int .i64 e]] w (Ret (.string ⟨(printS m e).toArray⟩) w) := by
  obtain ⟨b1, b2, b3, b4⟩ := rightB_bounds hr
  have hl := decDigits_le b1 b2
  have TX := Lib.hid (fun w => text_int (m.natAbs + 1) (max m (-m)) w (by omega) (by omega) (by omega))
  rw [show (max m (-m)).toNat = m.natAbs by omega] at TX
  have hp1 : 0 ≤ e → printS m e = sg (decide (m < 0)) ++ (Lib.decDigits m.natAbs ++ zeros e.toNat) := fun he => by
    unfold printS sg
    rw [if_pos hr, if_pos he, ← List.append_assoc]
    congr 1
    unfold Lib.itoa
    by_cases hm : m < 0
    · rw [if_pos hm, if_pos (by simp [hm])]; rfl
    · rw [if_neg hm, if_neg (by simp [hm]), show m.toNat = m.natAbs by omega]; rfl
  have hp2 : ¬ 0 ≤ e → printS m e = sg (decide (m < 0)) ++ ((figsL m e).take ((figsL m e).length - (-e).toNat) ++ 46 :: (figsL m e).drop ((figsL m e).length - (-e).toNat)) := fun he => by
    unfold printS sg
    rw [if_pos hr, if_neg he]
    congr 1
    simp
  have hfg : figsL m e = zeros (1 - e - (Lib.decDigits m.natAbs).length).toNat ++ Lib.decDigits m.natAbs := rfl
  have H1 := Lib.hid hp1
  have H2 := Lib.hid hp2
  have HF := Lib.hid hfg
  have HR := Lib.hid hr
  have hdn : 1 ≤ (Lib.decDigits m.natAbs).length := by rw [Lib.decDigits_length]; exact Lib.nDigits_pos _
  clear hp1 hp2 hfg hr
  generalize printS m e = res at *
  generalize figsL m e = FG at *
  generalize Lib.decDigits m.natAbs = D at *
  go_enter Tryz.func32, Tryz.ntmps32
  go_wp2_with fail
  (with_reducible refine (rright_any _ _ _ (by omega) (by omega) (by omega) (by omega)).mono ?_)
  rintro e1 w1 ⟨rfl, hb1⟩
  rw [HR.out]
  have P := (DecAt.new w m e _).below hb1
  have hbb := below_call hb1
  have Pc := P
  obtain ⟨p0, p1, pf, pl⟩ := Pc
  clear hb1
  go_wp2_with fail
  (with_reducible refine (TX.out _).mono ?_)
  rintro e1 w2 ⟨rfl, hb2⟩
  have P := P.below hb2
  have hbb2 : Below w.heap.size w w2 := hbb.trans (hb2.mono hbb.size)
  clear hb2 p0 p1 pf pl hbb TX
  obtain ⟨p0, p1, pf, pl⟩ := P
  by_cases he : 0 ≤ e
  · obtain ⟨k, rfl⟩ := Int.eq_ofNat_of_zero_le he
    have hres : res = sg (decide (m < 0)) ++ (D ++ zeros k) := H1.out he
    have HRES := Lib.hid hres
    clear H1 H2 HF hres
    go_wp2_with fail
    go_loop [4, 5] (fun s i => ∃ (j : Nat) (tb : ByteArray), i = .int .i64 j ∧ s = .string tb ∧ j ≤ k ∧ tb.size ≤ 16 + j ∧ Hid (tb.data.toList = D ++ zeros j)) (fun _ i => k - (intOf i).toNat)
    case atStart =>
      refine ⟨0, _, rfl, rfl, by omega, ?_, by show _ = _; simp [zeros]⟩
      have : (⟨D.toArray⟩ : ByteArray).size = D.length := List.size_toArray
      omega
    case round =>
      obtain ⟨j, tb, rfl, rfl, hj, htz, htb⟩ := hrel
      by_cases hjk : j < k
      · go_wp2_with fail
        go_round
        case rel => exact ⟨j + 1, tb ++ ⟨#[48]⟩, by go_num, rfl, by omega, by rw [ByteArray.size_append]; show _ + 1 ≤ _; omega, by show _ = _; rw [app_data', htb.out, zeros_snoc', ← List.append_assoc]⟩
        case measure => simp [intOf]; omega
      · have hjk2 : j = k := by omega
        have HT : Hid (tb.data.toList = D ++ zeros k) := by rw [← hjk2]; exact htb
        clear hjk2 htb
        by_cases hm : m < 0
        · have hfin : (⟨#[45]⟩ ++ tb : ByteArray) = ⟨res.toArray⟩ := by
            apply ba_eq
            rw [app_data', HT.out, HRES.out]
            unfold sg; rw [if_pos (by simp [hm])]
          have HFIN := Lib.hid hfin
          clear hfin
          go_wp2_with fail
          go_ret
          exact ⟨ret_str HFIN.out, hbb2⟩
        · have hfin : tb = ⟨res.toArray⟩ := by
            apply ba_eq
            rw [HT.out, HRES.out]
            unfold sg; rw [if_neg (by simp [hm])]; rfl
          have HFIN := Lib.hid hfin
          clear hfin
          go_wp2_with fail
          go_ret
          exact ⟨ret_str HFIN.out, hbb2⟩
  · have hres := H2.out (by omega)
    have HRES := Lib.hid hres
    clear H1 H2 hres
    go_wp2_with fail
    go_loop [4, 5] (fun s i => ∃ (tb : ByteArray), i = .int .i64 0 ∧ s = .string tb ∧ Hid (tb.data.toList = D)) (fun _ i => 0)
    case atStart => exact ⟨_, rfl, rfl, by show _ = _; simp⟩
    case round =>
      obtain ⟨tb, rfl, rfl, htb⟩ := hrel
      have htz : tb.size ≤ 16 := by
        have : tb.size = tb.data.toList.length := rfl
        rw [this, htb.out]; exact hl
      have htz1 : 1 ≤ tb.size := by
        have : tb.size = tb.data.toList.length := rfl
        rw [this, htb.out]; exact hdn
      go_wp2_with fail
      go_loop [4] (fun s => ∃ (z : Nat) (ub : ByteArray), s = .string ub ∧ (ub.size : Int) ≤ max (tb.size : Int) (1 - e) ∧ Hid (ub.data.toList = zeros z ++ D ∧ (z = 0 ∨ (ub.size : Int) ≤ 1 - e))) (fun s => 40 - (strOf s).size)
      case atStart => exact ⟨0, tb, rfl, by omega, by show _ ∧ _; exact ⟨by rw [htb.out]; simp [zeros], .inl rfl⟩⟩
      case round =>
        obtain ⟨z, ub, rfl, huz, hub⟩ := hrel
        have hus : (ub.size : Int) = z + D.length := by
          have : ub.size = ub.data.toList.length := rfl
          rw [this, hub.out.1, List.length_append, zeros_length]; simp
        have HUS := Lib.hid hus
        clear hus
        by_cases hz : (ub.size : Int) ≤ -e
        · go_wp2_with fail
          go_round
          case rel => exact ⟨z + 1, ⟨#[48]⟩ ++ ub, rfl, by rw [ByteArray.size_append]; have : (⟨#[48]⟩ : ByteArray).size = 1 := rfl; omega, by show _ ∧ _; refine ⟨by rw [app_data', hub.out.1]; rfl, .inr ?_⟩; rw [ByteArray.size_append]; have : (⟨#[48]⟩ : ByteArray).size = 1 := rfl; omega⟩
          case measure =>
            show 40 - ((⟨#[48]⟩ : ByteArray) ++ ub).size < 40 - ub.size
            rw [ByteArray.size_append]
            have : (⟨#[48]⟩ : ByteArray).size = 1 := rfl
            omega
        · have hF : ub.data.toList = FG := by
            rw [hub.out.1, HF.out]
            have := HUS.out
            have h3 := hub.out.2
            congr 2
            omega
          have hus2 : FG.length = ub.size := by rw [← hF]; rfl
          have HFB := Lib.hid hF
          have HU2 := Lib.hid hus2
          clear hF hus2 HF
          go_wp2_with fail
          obtain ⟨p, hp⟩ := Int.eq_ofNat_of_zero_le (a := (ub.size : Int) + e) (by omega)
          have hwr : IntKind.i64.wrap ((ub.size : Int) + e) = (p : Int) := by rw [IntKind.wrap_i64]; omega
          have hpl : p ≤ ub.size := by omega
          have hub40 : ub.size ≤ 40 := by omega
          have HPE : Hid (p = FG.length - (-e).toNat) := by show _ = _; rw [HU2.out]; omega
          clear hp
          have hx1 : (ub.extract 0 p).data.toList = FG.take p := by rw [Lib.extract_data, HFB.out]; simp
          have hx2 : (ub.extract p ub.size).data.toList = FG.drop p := by
            rw [Lib.extract_data, HFB.out, List.take_of_length_le]
            rw [List.length_drop, HU2.out]
            omega
          have hx3 : (ub.extract 0 p).size ≤ 40 := by
            have : (ub.extract 0 p).size = (ub.extract 0 p).data.toList.length := rfl
            rw [this, hx1, List.length_take]; omega
          have hx4 : (ub.extract p ub.size).size ≤ 40 := by
            have : (ub.extract p ub.size).size = (ub.extract p ub.size).data.toList.length := rfl
            rw [this, hx2, List.length_drop, HU2.out]; omega
          have HX1 := Lib.hid hx1
          have HX2 := Lib.hid hx2
          clear hx1 hx2
          go_quiet (fail)
          have hsb : (ub.extract 0 p ++ ⟨#[46]⟩ ++ ub.extract p ub.size : ByteArray).data.toList = FG.take p ++ 46 :: FG.drop p := by
            rw [app_data', app_data', HX1.out, HX2.out, List.append_assoc]; rfl
          have hsz : (ub.extract 0 p ++ ⟨#[46]⟩ ++ ub.extract p ub.size : ByteArray).size ≤ 90 := by
            rw [ByteArray.size_append, ByteArray.size_append]
            have : (⟨#[46]⟩ : ByteArray).size = 1 := rfl
            omega
          have HSB := Lib.hid hsb
          clear hsb hwr hx3 hx4 HX1 HX2
          generalize (ub.extract 0 p ++ ⟨#[46]⟩ ++ ub.extract p ub.size : ByteArray) = sb at *
          by_cases hm : m < 0
          · have hfin : (⟨#[45]⟩ ++ sb : ByteArray) = ⟨res.toArray⟩ := by
              apply ba_eq
              rw [app_data', HSB.out, HRES.out, ← HPE.out]
              unfold sg; rw [if_pos (by simp [hm])]
            have HFIN := Lib.hid hfin
            clear hfin
            go_wp2_with fail
            go_ret
            exact ⟨ret_str HFIN.out, below_drewN hbb2 _⟩
          · have hfin : sb = ⟨res.toArray⟩ := by
              apply ba_eq
              rw [HSB.out, HRES.out, ← HPE.out]
              unfold sg; rw [if_neg (by simp [hm])]; rfl
            have HFIN := Lib.hid hfin
            clear hfin
            go_wp2_with fail
            go_ret
            exact ⟨ret_str HFIN.out, below_drewN hbb2 _⟩

theorem rprint_any (m e : Int) (w : World) (hm0 : -9223372036854775808 ≤ m) (hm1 : m ≤ 9223372036854775807) (he0 : -9223372036854775808 ≤ e) (he1 : e ≤ 9223372036854775807) :
    Calls Tryz.prog 32 #[.agg #[.int .i64 m, .int .i64 e]] w (Ret (.string ⟨(printS m e).toArray⟩) w) := by
  rcases h : rightB m e with _ | _
  · have : printS m e = [] := by unfold printS; rw [if_neg (by simp [h])]
    rw [this]
    exact rprint_no m e w hm0 hm1 he0 he1 h
  · exact rprint_yes m e w h
end Go.Proofs.YtmlpefpjemiccaaGreatDoor.Dec
