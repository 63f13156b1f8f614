/- The walk of the law DecimalShort: it answers true. -/
import Derived.Test.YtaggeebfdlkbhaaDoorBack
set_option linter.unusedSimpArgs false
set_option linter.unusedVariables false
namespace Go.Proofs.YtaggeebfdlkbhaaDoor
open Go.RowKit Go.Sort

/-- A text's bytes: the whole part's digits, a point if there is anything behind it, digits. -/
theorem byte_at {W Fr : List UInt8} (dW : Digs W) (dF : Digs Fr) (k : Nat) (hk : k < (W ++ ptl Fr).length) :
    (Fr ≠ [] ∧ k = W.length ∧ ((W ++ ptl Fr)[k]).toNat = 46) ∨ ((Fr = [] ∨ k ≠ W.length) ∧ 48 ≤ ((W ++ ptl Fr)[k]).toNat ∧ ((W ++ ptl Fr)[k]).toNat ≤ 57) := by
  rw [List.getElem_append]
  split
  · rename_i h
    right
    exact ⟨.inr (by omega), dig_le (dW _ (List.getElem_mem h))⟩
  · rename_i h
    by_cases hF : Fr = []
    · subst hF; simp [ptl] at hk; omega
    · have hp : ptl Fr = 46 :: Fr := by unfold ptl; rw [if_neg hF]
      by_cases hkw : k = W.length
      · left
        refine ⟨hF, hkw, ?_⟩
        simp only [hp, hkw, Nat.sub_self, List.getElem_cons_zero]
        decide
      · right
        refine ⟨.inr hkw, ?_⟩
        have hlt : k - W.length - 1 < Fr.length := by rw [List.length_append, hp, List.length_cons] at hk; omega
        have : (ptl Fr)[k - W.length]'(by rw [hp, List.length_cons]; omega) = Fr[k - W.length - 1] := by
          simp only [hp]
          rw [List.getElem_cons]
          rw [dif_neg (by omega)]
        rw [this]
        exact dig_le (dF _ (List.getElem_mem hlt))

/-- How many points stand ahead of place k. -/
def pts (W Fr : List UInt8) (k : Nat) : Int := if Fr ≠ [] ∧ W.length < k then 1 else 0

/-- The same, of bytes. -/
theorem byte_sb {W Fr : List UInt8} {sb : ByteArray} (h : sb.data.toList = W ++ ptl Fr) (dW : Digs W) (dF : Digs Fr) (k : Nat) (hk : k < sb.size) :
    (Fr ≠ [] ∧ k = W.length ∧ (sb[k].toNat : Int) = 46) ∨ ((Fr = [] ∨ k ≠ W.length) ∧ 48 ≤ (sb[k].toNat : Int) ∧ (sb[k].toNat : Int) ≤ 57) := by
  have hk' : k < (W ++ ptl Fr).length := by rw [← h]; exact hk
  have he : (W ++ ptl Fr)[k] = sb[k] := by
    have : sb[k] = sb.data.toList[k] := rfl
    rw [this]
    simp only [h]
  have := byte_at dW dF k hk'
  rw [he] at this
  rcases this with ⟨a, b, c⟩ | ⟨a, b, c⟩
  · exact .inl ⟨a, b, by omega⟩
  · exact .inr ⟨a, by omega, by omega⟩
theorem size_sb {W Fr : List UInt8} {sb : ByteArray} (h : sb.data.toList = W ++ ptl Fr) : sb.size = W.length + (ptl Fr).length := by
  have : sb.size = sb.data.toList.length := rfl
  rw [this, h, List.length_append]
theorem get_sb {l : List UInt8} {sb : ByteArray} (h : sb.data.toList = l) (k : Nat) (hk : k < sb.size) : ∃ hk' : k < l.length, sb[k] = l[k] := by
  subst h; exact ⟨hk, rfl⟩
theorem head_sb {x : UInt8} {W' Fr : List UInt8} {sb : ByteArray} (h : sb.data.toList = x :: W' ++ ptl Fr) (hg : badW (x :: W') = false) (h0 : 0 < sb.size) :
    ((sb[0].toNat : Int) != 48) = true ∨ (((sb[0].toNat : Int) != 48) = false ∧ W' = []) := by
  obtain ⟨_, he⟩ := get_sb h 0 h0
  have he2 : sb[0] = x := he
  rw [he2]
  by_cases hx : x = 48
  · right
    refine ⟨by rw [hx]; decide, ?_⟩
    unfold badW pre at hg
    rw [hx] at hg
    simp at hg
    exact hg
  · left
    rw [bne_iff_ne]
    intro h2
    exact hx (UInt8.toNat_inj.1 (by show x.toNat = 48; omega))
theorem last_sb {W Fr : List UInt8} {sb : ByteArray} (h : sb.data.toList = W ++ ptl Fr) (hF : Fr ≠ []) (hl : ∃ r c, Fr = r ++ [c] ∧ c ≠ 48) (hk : sb.size - 1 < sb.size) : ((sb[sb.size - 1].toNat : Int) == 48) = false := by
  obtain ⟨r, c, hFc, hc⟩ := hl
  have hp : W ++ ptl Fr = (W ++ 46 :: r) ++ [c] := by unfold ptl; rw [if_neg hF, hFc]; simp
  rw [hp] at h
  have hs : sb.size = (W ++ 46 :: r).length + 1 := by
    have : sb.size = sb.data.toList.length := rfl
    rw [this, h]; simp; omega
  obtain ⟨_, he⟩ := get_sb h (sb.size - 1) hk
  have : sb[sb.size - 1] = c := by
    rw [he]
    simp only [hs, Nat.add_sub_cancel]
    rw [List.getElem_append_right (by omega)]
    simp
  rw [this, beq_eq_false_iff_ne]
  intro h2
  exact hc (UInt8.toNat_inj.1 (by show c.toNat = 48; omega))

set_option maxHeartbeats 2000000 in
set_option maxRecDepth 100000 in
theorem short_walk (mant ex : Int) (w : World) (ht : Tab w) (hm0 : -9223372036854775808 ≤ mant) (hm1 : mant ≤ 9223372036854775807) (he0 : -9223372036854775808 ≤ ex) (he1 : ex ≤ 9223372036854775807) :
    Calls Tryd.prog 9 #[.int .i64 mant, .int .i64 ex] w (Ret (.bool true) w) := by
  have p1 := Lib.hid (fun w => fit_of mant ex w hm0 hm1 he0 he1)
  have hr := fit_right mant ex
  generalize fitM mant = m at *
  generalize fitE mant ex = e at *
  have pr := Lib.hid (fun w h => print_any m e w h)
  obtain ⟨W, Fr, hP⟩ := print_parts hr
  generalize decide (m < 0) = b at *
  have HP := Lib.hid hP
  have hlen := hP.len
  obtain ⟨x, W', hW⟩ : ∃ x W', W = x :: W' := by
    cases W with
    | nil => exact absurd rfl (good_ne hP.good)
    | cons x W' => exact ⟨x, W', rfl⟩
  have HW := Lib.hid hW
  have HT := Lib.hid ht
  clear ht hm0 hm1 he0 he1 hr hP hW
  have hsl : (printS m e).length ≤ 40 := by
    rw [HP.out.text]; unfold sg ptl; split <;> split <;> simp <;> omega
  have hse : (printS m e).isEmpty = false := by
    rw [HP.out.text, HW.out]; unfold sg; split <;> rfl
  have H0 : Hid (∃ h0 : 0 < (⟨(printS m e).toArray⟩ : ByteArray).size, (((⟨(printS m e).toArray⟩ : ByteArray)[0].toNat : Int) == 45) = b) := by
    show ∃ _, _
    rw [HP.out.text, HW.out]
    unfold sg
    cases b with
    | true => exact ⟨cons_pos _ _, by rfl⟩
    | false =>
      refine ⟨cons_pos _ _, ?_⟩
      have := dig_le (HP.out.dW x (by rw [HW.out]; simp))
      have hx : (((⟨(x :: (W' ++ ptl Fr)).toArray⟩ : ByteArray)[0]'(cons_pos _ _)).toNat : Int) = x.toNat := rfl
      have hx2 : ((x.toNat : Int) == 45) = false := by rw [beq_eq_false_iff_ne]; omega
      exact hx ▸ hx2
  have HX : Hid (printS m e = sg b ++ (W ++ ptl Fr)) := HP.out.text
  go_enter Tryd.func9, Tryd.ntmps9
  go_wp2_with fail
  (with_reducible refine (awake_any _ HT.out).mono ?_)
  rintro e1 w1 ⟨rfl, hb1⟩
  go_wp2_with fail
  (with_reducible refine (p1.out _).mono ?_)
  rintro e1 w2 ⟨rfl, hb2⟩
  have hbb2 : Below w.heap.size w w2 := hb1.trans (hb2.mono hb1.size)
  clear hb1 hb2
  go_wp2_with fail
  (with_reducible refine (pr.out _ ((HT.out.below hbb2).alloc _)).mono ?_)
  rintro e1 w3 ⟨rfl, hb3⟩
  have hbb3 : Below w.heap.size w w3 := (hbb2.alloc hbb2.size _).trans (hb3.mono (by have := hbb2.size; simp; omega))
  clear hb3
  have HLB : Hid ((⟨(printS m e).toArray⟩ : ByteArray).data.toList = sg b ++ (W ++ ptl Fr)) := HX.out
  have hlz : (⟨(printS m e).toArray⟩ : ByteArray).size ≤ 40 := by
    have : (⟨(printS m e).toArray⟩ : ByteArray).size = (printS m e).length := List.size_toArray
    omega
  clear HX hsl hse pr
  generalize (⟨(printS m e).toArray⟩ : ByteArray) = lb at *
  obtain ⟨h00, h01⟩ := H0.out
  clear H0
  have hle : lb.toList.isEmpty = false := by
    have : lb.toList.length = lb.size := by rw [Lib.toList_data]; rfl
    cases hq : lb.toList with
    | nil => rw [hq] at this; simp at this; omega
    | cons => rfl
  cases b
  · have HSB : Hid (lb.data.toList = W ++ ptl Fr) := HLB
    go_wp2_with fail
    have hlb : ∃ sb : ByteArray, sb = lb := ⟨_, rfl⟩
    obtain ⟨sb, rfl⟩ := hlb
    have HWG : Hid (badW (x :: W') = false) := by have := HP.out.good; rw [HW.out] at this; exact this
    have HLL := Lib.hid HP.out.last
    have HDW := Lib.hid HP.out.dW
    have HDF := Lib.hid HP.out.dF
    have hsz := size_sb HSB.out
    have hW1 : 1 ≤ W.length := by rw [HW.out]; simp
    have hs40 : sb.size ≤ 40 := by rw [hsz]; unfold ptl; split <;> simp <;> omega
    have hs1 : 1 ≤ sb.size := by omega
    have HSZ := Lib.hid hsz
    clear hsz HP p1
    go_loop [8, 9] (fun pt i => ∃ (k : Nat) (P : Int), i = .int .i64 k ∧ pt = .int .i64 P ∧ k ≤ sb.size ∧ 0 ≤ P ∧ P ≤ 1 ∧ Hid (P = pts W Fr k)) (fun _ i => sb.size - (intOf i).toNat)
    case atStart => exact ⟨0, 0, rfl, rfl, by omega, by omega, by omega, by show (0 : Int) = _; unfold pts; rw [if_neg (by omega)]⟩
    case round =>
      obtain ⟨k, P, rfl, rfl, hk, hP0, hP1, hP⟩ := hrel
      by_cases hlt : k < sb.size
      · rcases byte_sb HSB.out HDW.out HDF.out k hlt with ⟨g1, g2, g3⟩ | ⟨g1, g2, g3⟩
        · have hPk : P = 0 := by rw [hP.out]; unfold pts; rw [if_neg (by omega)]
          have hf1 : 1 ≤ Fr.length := by cases Fr with | nil => exact absurd rfl g1 | cons => simp
          have t1 : ((sb[k].toNat : Int) == 46) = true := by rw [g3]; rfl
          have t2 : ((k : Int) == 0) = false := by rw [beq_eq_false_iff_ne]; omega
          have hk2 : k + 1 < sb.size := by rw [HSZ.out]; unfold ptl; rw [if_neg g1]; simp; omega
          have t3 : ((k : Int) == (sb.size : Int) - 1) = false := by rw [beq_eq_false_iff_ne]; omega
          have G := Lib.hid (And.intro g1 (And.intro g2 hPk))
          clear g1 g2 g3 hPk
          go_wp2_with fail
          go_round
          case rel => exact ⟨k + 1, P + 1, by go_num, rfl, by omega, by omega, by have := G.out.2.2; omega, by show _ = _; unfold pts; rw [if_pos ⟨G.out.1, by have := G.out.2.1; omega⟩]; have := G.out.2.2; omega⟩
          case measure => simp [intOf]; omega
        · have t1 : ((sb[k].toNat : Int) == 46) = false := by rw [beq_eq_false_iff_ne]; omega
          have G := Lib.hid g1
          clear g1
          go_wp2_with fail
          go_round
          case rel =>
            exact ⟨k + 1, P, by go_num, rfl, by omega, by omega, by omega, by
              show _ = _
              rw [hP.out]
              unfold pts
              rcases G.out with h | h
              · rw [if_neg (by simp [h]), if_neg (by simp [h])]
              · by_cases hc : Fr ≠ [] ∧ W.length < k
                · rw [if_pos hc, if_pos ⟨hc.1, by omega⟩]
                · rw [if_neg hc, if_neg (by rintro ⟨h1, h2⟩; exact hc ⟨h1, by omega⟩)]⟩
          case measure => simp [intOf]; omega
      · have z1 : ((sb.size : Int) == 0) = false := by rw [beq_eq_false_iff_ne]; omega
        have h0 : 0 < sb.size := by omega
        have hh := head_sb (by rw [HSB.out, HW.out]) HWG.out h0
        by_cases hF : Fr = []
        · have hPk : P = 0 := by rw [hP.out]; unfold pts; rw [if_neg (by simp [hF])]
          subst hPk
          rcases hh with hh | ⟨hh, hh2⟩
          · clear hF
            go_wp2_with fail
            go_ret
            exact ⟨ret_bool (by simp), hbb3⟩
          · have z2 : ((sb.size : Int) == 1) = true := by
              rw [beq_iff_eq, HSZ.out, HW.out, hh2, hF]; rfl
            clear hh2 hF
            go_wp2_with fail
            go_ret
            exact ⟨ret_bool (by simp), hbb3⟩
        · have hPk : P = 1 := by
            have hs2 : W.length < sb.size := by rw [HSZ.out]; unfold ptl; rw [if_neg hF]; simp
            rw [hP.out]; unfold pts; rw [if_pos ⟨hF, by omega⟩]
          subst hPk
          have z3 := last_sb HSB.out hF (by rcases HLL.out with h | h; exact absurd h hF; exact h) (by omega)
          rcases hh with hh | ⟨hh, hh2⟩
          · clear hF
            go_wp2_with fail
            go_ret
            exact ⟨ret_bool (by simp), hbb3⟩
          · have hs2 : 2 < sb.size := by
              have hf1 : 1 ≤ Fr.length := by cases Fr with | nil => exact absurd rfl hF | cons => simp
              rw [HSZ.out, HW.out, hh2]; unfold ptl; rw [if_neg hF]; simp; omega
            have z2 : ((sb.size : Int) == 1) = false := by rw [beq_eq_false_iff_ne]; omega
            have h1 : 1 < sb.size := by omega
            have z4 : ((sb[1].toNat : Int) == 46) = true := by
              rcases byte_sb HSB.out HDW.out HDF.out 1 h1 with ⟨_, _, g3⟩ | ⟨g1, _, _⟩
              · rw [g3]; rfl
              · rcases g1 with g1 | g1
                · exact absurd g1 hF
                · exfalso; apply g1; rw [HW.out, hh2]; rfl
            clear hh2 hF
            go_wp2_with fail
            go_ret
            exact ⟨ret_bool (by simp), hbb3⟩
  · have hsb0 : (lb.extract 1 lb.size).data.toList = W ++ ptl Fr := by
      have h1 : lb = ⟨(45 :: (W ++ ptl Fr)).toArray⟩ := by
        apply ByteArray.ext
        rw [← Array.toList_inj, HLB.out]; rfl
      have h2 : (⟨(45 :: (W ++ ptl Fr)).toArray⟩ : ByteArray).size = (45 :: (W ++ ptl Fr)).length := List.size_toArray
      rw [h1, h2, bs_drop]; rfl
    have HSB := Lib.hid hsb0
    clear hsb0
    go_wp2_with fail
    generalize lb.extract 1 lb.size = sb at *
    have HWG : Hid (badW (x :: W') = false) := by have := HP.out.good; rw [HW.out] at this; exact this
    have HLL := Lib.hid HP.out.last
    have HDW := Lib.hid HP.out.dW
    have HDF := Lib.hid HP.out.dF
    have hsz := size_sb HSB.out
    have hW1 : 1 ≤ W.length := by rw [HW.out]; simp
    have hs40 : sb.size ≤ 40 := by rw [hsz]; unfold ptl; split <;> simp <;> omega
    have hs1 : 1 ≤ sb.size := by omega
    have HSZ := Lib.hid hsz
    clear hsz HP p1
    go_loop [8, 9] (fun pt i => ∃ (k : Nat) (P : Int), i = .int .i64 k ∧ pt = .int .i64 P ∧ k ≤ sb.size ∧ 0 ≤ P ∧ P ≤ 1 ∧ Hid (P = pts W Fr k)) (fun _ i => sb.size - (intOf i).toNat)
    case atStart => exact ⟨0, 0, rfl, rfl, by omega, by omega, by omega, by show (0 : Int) = _; unfold pts; rw [if_neg (by omega)]⟩
    case round =>
      obtain ⟨k, P, rfl, rfl, hk, hP0, hP1, hP⟩ := hrel
      by_cases hlt : k < sb.size
      · rcases byte_sb HSB.out HDW.out HDF.out k hlt with ⟨g1, g2, g3⟩ | ⟨g1, g2, g3⟩
        · have hPk : P = 0 := by rw [hP.out]; unfold pts; rw [if_neg (by omega)]
          have hf1 : 1 ≤ Fr.length := by cases Fr with | nil => exact absurd rfl g1 | cons => simp
          have t1 : ((sb[k].toNat : Int) == 46) = true := by rw [g3]; rfl
          have t2 : ((k : Int) == 0) = false := by rw [beq_eq_false_iff_ne]; omega
          have hk2 : k + 1 < sb.size := by rw [HSZ.out]; unfold ptl; rw [if_neg g1]; simp; omega
          have t3 : ((k : Int) == (sb.size : Int) - 1) = false := by rw [beq_eq_false_iff_ne]; omega
          have G := Lib.hid (And.intro g1 (And.intro g2 hPk))
          clear g1 g2 g3 hPk
          go_wp2_with fail
          go_round
          case rel => exact ⟨k + 1, P + 1, by go_num, rfl, by omega, by omega, by have := G.out.2.2; omega, by show _ = _; unfold pts; rw [if_pos ⟨G.out.1, by have := G.out.2.1; omega⟩]; have := G.out.2.2; omega⟩
          case measure => simp [intOf]; omega
        · have t1 : ((sb[k].toNat : Int) == 46) = false := by rw [beq_eq_false_iff_ne]; omega
          have G := Lib.hid g1
          clear g1
          go_wp2_with fail
          go_round
          case rel =>
            exact ⟨k + 1, P, by go_num, rfl, by omega, by omega, by omega, by
              show _ = _
              rw [hP.out]
              unfold pts
              rcases G.out with h | h
              · rw [if_neg (by simp [h]), if_neg (by simp [h])]
              · by_cases hc : Fr ≠ [] ∧ W.length < k
                · rw [if_pos hc, if_pos ⟨hc.1, by omega⟩]
                · rw [if_neg hc, if_neg (by rintro ⟨h1, h2⟩; exact hc ⟨h1, by omega⟩)]⟩
          case measure => simp [intOf]; omega
      · have z1 : ((sb.size : Int) == 0) = false := by rw [beq_eq_false_iff_ne]; omega
        have h0 : 0 < sb.size := by omega
        have hh := head_sb (by rw [HSB.out, HW.out]) HWG.out h0
        by_cases hF : Fr = []
        · have hPk : P = 0 := by rw [hP.out]; unfold pts; rw [if_neg (by simp [hF])]
          subst hPk
          rcases hh with hh | ⟨hh, hh2⟩
          · clear hF
            go_wp2_with fail
            go_ret
            exact ⟨ret_bool (by simp), hbb3⟩
          · have z2 : ((sb.size : Int) == 1) = true := by
              rw [beq_iff_eq, HSZ.out, HW.out, hh2, hF]; rfl
            clear hh2 hF
            go_wp2_with fail
            go_ret
            exact ⟨ret_bool (by simp), hbb3⟩
        · have hPk : P = 1 := by
            have hs2 : W.length < sb.size := by rw [HSZ.out]; unfold ptl; rw [if_neg hF]; simp
            rw [hP.out]; unfold pts; rw [if_pos ⟨hF, by omega⟩]
          subst hPk
          have z3 := last_sb HSB.out hF (by rcases HLL.out with h | h; exact absurd h hF; exact h) (by omega)
          rcases hh with hh | ⟨hh, hh2⟩
          · clear hF
            go_wp2_with fail
            go_ret
            exact ⟨ret_bool (by simp), hbb3⟩
          · have hs2 : 2 < sb.size := by
              have hf1 : 1 ≤ Fr.length := by cases Fr with | nil => exact absurd rfl hF | cons => simp
              rw [HSZ.out, HW.out, hh2]; unfold ptl; rw [if_neg hF]; simp; omega
            have z2 : ((sb.size : Int) == 1) = false := by rw [beq_eq_false_iff_ne]; omega
            have h1 : 1 < sb.size := by omega
            have z4 : ((sb[1].toNat : Int) == 46) = true := by
              rcases byte_sb HSB.out HDW.out HDF.out 1 h1 with ⟨_, _, g3⟩ | ⟨g1, _, _⟩
              · rw [g3]; rfl
              · rcases g1 with g1 | g1
                · exact absurd g1 hF
                · exfalso; apply g1; rw [HW.out, hh2]; rfl
            clear hh2 hF
            go_wp2_with fail
            go_ret
            exact ⟨ret_bool (by simp), hbb3⟩
end Go.Proofs.YtaggeebfdlkbhaaDoor
