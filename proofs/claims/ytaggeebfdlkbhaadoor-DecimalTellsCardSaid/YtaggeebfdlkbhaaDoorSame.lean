/- The walk of the law DecimalSame: it answers true. -/
import Derived.Test.YtaggeebfdlkbhaaDoorBack
import Derived.Test.YtaggeebfdlkbhaaDoorSameMath
import Derived.Laws.IdiomStrings
set_option linter.unusedSimpArgs false
set_option linter.unusedVariables false
namespace Go.Proofs.YtaggeebfdlkbhaaDoor
open Go.RowKit Go.Sort

theorem parse_ba (s : ByteArray) (w : World) (hl : s.size ≤ 9223372036854775807) :
    Calls Tryd.prog 13 #[.string s] w (Ret (mkV (parseS s.data.toList)) w) := by
  have h := parse_any s.data.toList w hl
  rw [Lib.mk_data] at h
  exact h
/-- A text of one byte out of a slice that was just laid. -/
theorem conv_one (W : World) (x : Nat) (hx : x < 10) (cap : Nat) :
    (convert 41 9 (.slice (some ⟨W.heap.size, 0, none⟩) 1 cap)).run Tryd.prog (W.alloc (.cells #[.int .u8 (48 + (x : Int))] 5)) = .ok (.string ⟨#[UInt8.ofNat (48 + x)]⟩) (W.alloc (.cells #[.int .u8 (48 + (x : Int))] 5)) := by
  have hb : ((UInt8.ofNat (48 + x)).toNat : Int) = 48 + x := by
    have : (UInt8.ofNat (48 + x)).toNat = 48 + x := by simp; omega
    omega
  have := run_convert_bytes_back (P := Tryd.prog) (W.alloc (.cells #[.int .u8 (48 + (x : Int))] 5)) 41 9 5 ⟨W.heap.size, 0, none⟩ cap [UInt8.ofNat (48 + x)] Tryd.underlying41 Tryd.underlying5 Tryd.underlying9 (fun j hj => by
    have hj0 : j = 0 := by simp at hj; omega
    subst hj0
    simp only [List.getElem_cons_zero]
    rw [hb]
    simp [Addr.add])
  exact this
theorem zeros_snoc (j : Nat) : zeros (j + 1) = zeros j ++ [48] := by unfold zeros; rw [List.replicate_succ']
theorem app_data (a b : ByteArray) : (a ++ b).data.toList = a.data.toList ++ b.data.toList := by
  simp
theorem any_step (s : ByteArray) (k : Nat) (hk : k < s.size) : (s.data.toList.take (k + 1)).any (· == 46) = ((s.data.toList.take k).any (· == 46) || ((s[k].toNat : Int) == 46)) := by
  rw [List.take_succ_eq_append_getElem (by simpa using hk), any_append]
  have : s.data.toList[k]'(by simpa using hk) = s[k] := rfl
  rw [this]
  congr 1
  simp only [List.any_cons, List.any_nil, Bool.or_false]
  rw [Bool.eq_iff_iff]
  simp only [beq_iff_eq]
  constructor
  · intro h; rw [h]; rfl
  · intro h; exact UInt8.toNat_inj.1 (by show s[k].toNat = 46; omega)

set_option maxHeartbeats 4000000 in
set_option maxRecDepth 100000 in
theorem same_walk (mant ex nou ee : Int) (w : World) (ht : Tab w) (hm0 : -9223372036854775808 ≤ mant) (hm1 : mant ≤ 9223372036854775807) (he0 : -9223372036854775808 ≤ ex) (he1 : ex ≤ 9223372036854775807)
    (hn0 : -9223372036854775808 ≤ nou) (hn1 : nou ≤ 9223372036854775807) (hq0 : -9223372036854775808 ≤ ee) (hq1 : ee ≤ 9223372036854775807) :
    Calls Tryd.prog 5 #[.int .i64 mant, .int .i64 ex, .int .i64 nou, .int .i64 ee] w (Ret (.bool true) w) := by
  have p1 := Lib.hid (fun w => fit_of mant ex w hm0 hm1 he0 he1)
  have h5 := pickS_nonneg (c := nou) (n := 21) (by decide)
  have h6 := pickS_lt (c := nou) (n := 21) (by decide)
  have h7 := pickS_nonneg (c := ee) (n := 9) (by decide)
  have h8 := pickS_lt (c := ee) (n := 9) (by decide)
  have p2 := Lib.hid (fun w => pick_any nou 21 w hn0 hn1 (by decide) (by decide))
  have p3 := Lib.hid (fun w => pick_any ee 9 w hq0 hq1 (by decide) (by decide))
  generalize pickS nou 21 = cn at *
  generalize pickS ee 9 = ce at *
  obtain ⟨n, rfl⟩ := Int.eq_ofNat_of_zero_le h5
  obtain ⟨x, rfl⟩ := Int.eq_ofNat_of_zero_le h7
  have hr := fit_right mant ex
  generalize fitM mant = m at *
  generalize fitE mant ex = e at *
  obtain ⟨b1, b2, b3, b4⟩ := rightB_bounds hr
  have pr := Lib.hid (fun w h => print_any m e w h)
  obtain ⟨W, Fr, hP⟩ := print_parts hr
  have hlz0 := (print_len hr).1
  have K1 := Lib.hid (parse_e0 hr)
  have K2 := Lib.hid (parse_e00 hr)
  have K3 := Lib.hid (parse_en hr x (by omega))
  have K4 := Lib.hid (fun hF => parse_noughts hr hP hF n (by omega))
  have K5 := Lib.hid (fun hF => parse_point hr hP hF n (by omega))
  have KP := Lib.hid (point_parts hP)
  have hlz : (⟨(printS m e).toArray⟩ : ByteArray).size ≤ 40 := by
    have : (⟨(printS m e).toArray⟩ : ByteArray).size = (printS m e).length := List.size_toArray
    omega
  have HT := Lib.hid ht
  clear ht hm0 hm1 he0 he1 hn0 hn1 hq0 hq1 hr hP hlz0
  go_enter Tryd.func5, Tryd.ntmps5
  go_wp2_with fail
  (with_reducible refine (awake_any _ HT.out).mono ?_)
  rintro e1 w1 ⟨rfl, hb1⟩
  go_wp2_with fail
  (with_reducible refine (p1.out _).mono ?_)
  rintro e1 w2 ⟨rfl, hb2⟩
  have hbb2 : Below w.heap.size w w2 := hb1.trans (hb2.mono hb1.size)
  clear hb1 hb2
  go_wp2_with fail
  (with_reducible refine (pr.out _ ((HT.out.below hbb2).alloc _)).mono ?_)
  rintro e1 w3 ⟨rfl, hb3⟩
  have D0 := (DecAt.new w2 m e _).below hb3
  have hbb3 : Below w.heap.size w w3 := (hbb2.alloc hbb2.size _).trans (hb3.mono (by have := hbb2.size; simp; omega))
  generalize w2.heap.size = bd at *
  clear hb3 pr p1 HT hbb2
  generalize hgl : (⟨(printS m e).toArray⟩ : ByteArray) = lb at *
  have HLB : Hid (lb.data.toList = printS m e) := by show _ = _; rw [← hgl]
  clear hgl
  generalize printS m e = L at *
  go_wp2_with fail
  go_loop [12, 13] (fun pt i => ∃ (k : Nat) (pb : Bool), i = .int .i64 k ∧ pt = .bool pb ∧ k ≤ lb.size ∧ Hid (pb = (lb.data.toList.take k).any (· == 46))) (fun _ i => lb.size - (intOf i).toNat)
  case atStart => exact ⟨0, false, rfl, rfl, by omega, by show false = _; simp⟩
  case round =>
    obtain ⟨k, pb, rfl, rfl, hk, hpb⟩ := hrel
    by_cases hlt : k < lb.size
    · have HS := Lib.hid (any_step lb k hlt)
      cases pb
      · go_wp2_with fail
        go_round
        case rel => exact ⟨k + 1, (lb[k].toNat : Int) == 46, by go_num, rfl, by omega, by show _ = _; rw [HS.out, ← hpb.out]; rfl⟩
        case measure => simp [intOf]; omega
      · go_wp2_with fail
        go_round
        case rel => exact ⟨k + 1, true, by go_num, rfl, by omega, by show _ = _; rw [HS.out, ← hpb.out]; rfl⟩
        case measure => simp [intOf]; omega
    · have hpe : pb = !Fr.isEmpty := by
        rw [hpb.out, List.take_of_length_le (by have : lb.data.toList.length = lb.size := rfl; omega), HLB.out]; exact KP.out
      clear hpb KP
      by_cases hF : Fr = []
      · have hpf : pb = false := by rw [hpe, hF]; rfl
        clear hpe
        subst hpf
        have HP5 : Hid (∀ t : List UInt8, t = (L ++ [46, 48]) ++ zeros n → parseS t = (m, e, true)) := fun t ht => by rw [ht]; exact K5.out hF
        have HT0 : Hid ((lb ++ ⟨#[46, 48]⟩).data.toList = L ++ [46, 48]) := by show _ = _; rw [app_data, HLB.out]
        have hz0 : (lb ++ ⟨#[46, 48]⟩).size ≤ 45 := by rw [ByteArray.size_append]; show _ + 2 ≤ _; omega
        clear K4 K5 hF
        go_wp2_with fail
        go_loop [14, 15] (fun s i => ∃ (j : Nat) (tb : ByteArray), i = .int .i64 j ∧ s = .string tb ∧ j ≤ n ∧ tb.size ≤ 45 + j ∧ Hid (tb.data.toList = (L ++ [46, 48]) ++ zeros j)) (fun _ i => n - (intOf i).toNat)
        case atStart => exact ⟨0, _, rfl, rfl, by omega, by omega, by show _ = _; rw [HT0.out]; simp [zeros]⟩
        case round =>
          obtain ⟨j, tb, rfl, rfl, hj, htz, htb⟩ := hrel
          by_cases hjn : j < n
          · go_wp2_with (go_at_call 26; refine (p2.out _).mono ?_; rintro e w' ⟨rfl, rfl⟩)
            go_round
            case rel => exact ⟨j + 1, tb ++ ⟨#[48]⟩, by go_num, rfl, by omega, by rw [ByteArray.size_append]; show _ + 1 ≤ _; omega, by show _ = _; rw [app_data, htb.out, zeros_snoc, ← List.append_assoc]⟩
            case measure => simp [intOf]; omega
          · have hjn2 : j = n := by omega
            have HPA : Hid (parseS tb.data.toList = (m, e, true)) := HP5.out _ (by rw [htb.out, hjn2])
            clear hjn2 HP5
            go_wp2_with (go_at_call 26; refine (p2.out _).mono ?_; rintro e w' ⟨rfl, rfl⟩)
            (with_reducible refine (parse_ba _ _ (by omega)).mono ?_)
            rintro e1 w4 ⟨rfl, hb4⟩
            rw [HPA.out]
            unfold mkV
            have D0 := D0.below hb4
            have hbb4 : Below w.heap.size w w4 := hbb3.trans (hb4.mono hbb3.size)
            clear hb4
            go_wp2_with fail
            (with_reducible refine (parse_ba _ _ (by rw [ByteArray.size_append]; have : (⟨#[101, 48]⟩ : ByteArray).size = 2 := rfl; omega)).mono ?_)
            rintro e1 w5 ⟨rfl, hb5⟩
            rw [app_data, HLB.out, K1.out]
            unfold mkV
            have D0 := (D0.alloc _).below hb5
            have D1 := (DecAt.new w4 m e _).below hb5
            have hbb5 : Below w.heap.size w w5 := (hbb4.alloc hbb4.size _).trans (hb5.mono (by have := hbb4.size; simp; omega))
            generalize w4.heap.size = c1 at *
            clear hb5 hbb4
            go_wp2_with fail
            (with_reducible refine (parse_ba _ _ (by rw [ByteArray.size_append]; have : (⟨#[69, 43, 48, 48]⟩ : ByteArray).size = 4 := rfl; omega)).mono ?_)
            rintro e1 w6 ⟨rfl, hb6⟩
            rw [app_data, HLB.out, K2.out]
            unfold mkV
            have D0 := (D0.alloc _).below hb6
            have D1 := (D1.alloc _).below hb6
            have D2 := (DecAt.new w5 m e _).below hb6
            have hbb6 : Below w.heap.size w w6 := (hbb5.alloc hbb5.size _).trans (hb6.mono (by have := hbb5.size; simp; omega))
            generalize w5.heap.size = c2 at *
            clear hb6 hbb5
            go_wp2_with (go_at_call 26; refine (p3.out _).mono ?_; rintro e w' ⟨rfl, rfl⟩)
            have hcv := conv_one (w6.alloc (.cells #[.int .i64 m, .int .i64 e] 25)) x (by omega) 1
            rw [show (w6.alloc (.cells #[.int .i64 m, .int .i64 e] 25)).heap.size = w6.heap.size + 1 by simp] at hcv
            rw [hcv]
            clear hcv
            go_wp2_with fail
            have hby : UInt8.ofNat (48 + x) = 48 + UInt8.ofNat x := by simp
            have KX : Hid (parseS (lb ++ ⟨#[101, 45]⟩ ++ ⟨#[48 + UInt8.ofNat x]⟩).data.toList = mk m (e - x)) := by
              show _ = _
              rw [app_data, app_data, HLB.out, ← hby, ← K3.out, List.append_assoc]
              rfl
            clear hby
            (with_reducible refine (parse_ba _ _ (by rw [ByteArray.size_append, ByteArray.size_append]; have h1 : (⟨#[101, 45]⟩ : ByteArray).size = 2 := rfl; have h2 : (⟨#[48 + UInt8.ofNat x]⟩ : ByteArray).size = 1 := rfl; omega)).mono ?_)
            rintro e1 w7 ⟨rfl, hb7⟩
            rw [KX.out]
            have D0 := ((D0.alloc _).alloc _).below hb7
            have D1 := ((D1.alloc _).alloc _).below hb7
            have D2 := ((D2.alloc _).alloc _).below hb7
            have D3 := ((DecAt.new w6 m e _).alloc _).below hb7
            have hbb7 : Below w.heap.size w w7 := ((hbb6.alloc hbb6.size _).alloc (by have := hbb6.size; simp; omega) _).trans (hb7.mono (by have := hbb6.size; simp; omega))
            generalize w6.heap.size = c3 at *
            clear hb7 hbb6 KX K3
            have HMK := Lib.hid (fun w => make_any m (e - x) w (by omega) (by omega) (by omega))
            generalize mk m (e - x) = res at *
            obtain ⟨x1, x2, x3⟩ := res
            unfold mkV at *
            have D0c := D0
            obtain ⟨d0, d1, df, dl⟩ := D0c
            go_wp2_with fail
            (with_reducible refine (HMK.out _).mono ?_)
            rintro e1 w8 ⟨rfl, hb8⟩
            have D0 := (D0.alloc _).below hb8
            have D1 := (D1.alloc _).below hb8
            have D2 := (D2.alloc _).below hb8
            have D3 := (D3.alloc _).below hb8
            have D4 := (DecAt.new w7 x1 x2 _).below hb8
            have hbb8 : Below w.heap.size w w8 := (hbb7.alloc hbb7.size _).trans (hb8.mono (by have := hbb7.size; simp; omega))
            generalize w7.heap.size = c4 at *
            clear hb8 hbb7 d0 d1 df dl
            obtain ⟨d0, d1, df, dl⟩ := D0
            obtain ⟨f0, f1, ff, fl⟩ := D1
            obtain ⟨g0, g1, gf, gl⟩ := D2
            obtain ⟨i0, i1, jf, jl⟩ := D3
            obtain ⟨k0, k1, kf, kl⟩ := D4
            cases x3
            · go_wp2_with fail
              go_ret
              exact ⟨ret_bool (by simp), hbb8.alloc hbb8.size _⟩
            · go_wp2_with fail
              go_ret
              exact ⟨ret_bool (by simp), hbb8.alloc hbb8.size _⟩
      · have hpf : pb = true := by
          rw [hpe]
          cases Fr with
          | nil => exact absurd rfl hF
          | cons => rfl
        clear hpe
        subst hpf
        have HP5 : Hid (∀ t : List UInt8, t = L ++ zeros n → parseS t = (m, e, true)) := fun t ht => by rw [ht]; exact K4.out hF
        clear K4 K5 hF
        go_wp2_with fail
        go_loop [14, 15] (fun s i => ∃ (j : Nat) (tb : ByteArray), i = .int .i64 j ∧ s = .string tb ∧ j ≤ n ∧ tb.size ≤ 45 + j ∧ Hid (tb.data.toList = L ++ zeros j)) (fun _ i => n - (intOf i).toNat)
        case atStart => exact ⟨0, _, rfl, rfl, by omega, by omega, by show _ = _; rw [HLB.out]; simp [zeros]⟩
        case round =>
          obtain ⟨j, tb, rfl, rfl, hj, htz, htb⟩ := hrel
          by_cases hjn : j < n
          · go_wp2_with (go_at_call 26; refine (p2.out _).mono ?_; rintro e w' ⟨rfl, rfl⟩)
            go_round
            case rel => exact ⟨j + 1, tb ++ ⟨#[48]⟩, by go_num, rfl, by omega, by rw [ByteArray.size_append]; show _ + 1 ≤ _; omega, by show _ = _; rw [app_data, htb.out, zeros_snoc, ← List.append_assoc]⟩
            case measure => simp [intOf]; omega
          · have hjn2 : j = n := by omega
            have HPA : Hid (parseS tb.data.toList = (m, e, true)) := HP5.out _ (by rw [htb.out, hjn2])
            clear hjn2 HP5
            go_wp2_with (go_at_call 26; refine (p2.out _).mono ?_; rintro e w' ⟨rfl, rfl⟩)
            (with_reducible refine (parse_ba _ _ (by omega)).mono ?_)
            rintro e1 w4 ⟨rfl, hb4⟩
            rw [HPA.out]
            unfold mkV
            have D0 := D0.below hb4
            have hbb4 : Below w.heap.size w w4 := hbb3.trans (hb4.mono hbb3.size)
            clear hb4
            go_wp2_with fail
            (with_reducible refine (parse_ba _ _ (by rw [ByteArray.size_append]; have : (⟨#[101, 48]⟩ : ByteArray).size = 2 := rfl; omega)).mono ?_)
            rintro e1 w5 ⟨rfl, hb5⟩
            rw [app_data, HLB.out, K1.out]
            unfold mkV
            have D0 := (D0.alloc _).below hb5
            have D1 := (DecAt.new w4 m e _).below hb5
            have hbb5 : Below w.heap.size w w5 := (hbb4.alloc hbb4.size _).trans (hb5.mono (by have := hbb4.size; simp; omega))
            generalize w4.heap.size = c1 at *
            clear hb5 hbb4
            go_wp2_with fail
            (with_reducible refine (parse_ba _ _ (by rw [ByteArray.size_append]; have : (⟨#[69, 43, 48, 48]⟩ : ByteArray).size = 4 := rfl; omega)).mono ?_)
            rintro e1 w6 ⟨rfl, hb6⟩
            rw [app_data, HLB.out, K2.out]
            unfold mkV
            have D0 := (D0.alloc _).below hb6
            have D1 := (D1.alloc _).below hb6
            have D2 := (DecAt.new w5 m e _).below hb6
            have hbb6 : Below w.heap.size w w6 := (hbb5.alloc hbb5.size _).trans (hb6.mono (by have := hbb5.size; simp; omega))
            generalize w5.heap.size = c2 at *
            clear hb6 hbb5
            go_wp2_with (go_at_call 26; refine (p3.out _).mono ?_; rintro e w' ⟨rfl, rfl⟩)
            have hcv := conv_one (w6.alloc (.cells #[.int .i64 m, .int .i64 e] 25)) x (by omega) 1
            rw [show (w6.alloc (.cells #[.int .i64 m, .int .i64 e] 25)).heap.size = w6.heap.size + 1 by simp] at hcv
            rw [hcv]
            clear hcv
            go_wp2_with fail
            have hby : UInt8.ofNat (48 + x) = 48 + UInt8.ofNat x := by simp
            have KX : Hid (parseS (lb ++ ⟨#[101, 45]⟩ ++ ⟨#[48 + UInt8.ofNat x]⟩).data.toList = mk m (e - x)) := by
              show _ = _
              rw [app_data, app_data, HLB.out, ← hby, ← K3.out, List.append_assoc]
              rfl
            clear hby
            (with_reducible refine (parse_ba _ _ (by rw [ByteArray.size_append, ByteArray.size_append]; have h1 : (⟨#[101, 45]⟩ : ByteArray).size = 2 := rfl; have h2 : (⟨#[48 + UInt8.ofNat x]⟩ : ByteArray).size = 1 := rfl; omega)).mono ?_)
            rintro e1 w7 ⟨rfl, hb7⟩
            rw [KX.out]
            have D0 := ((D0.alloc _).alloc _).below hb7
            have D1 := ((D1.alloc _).alloc _).below hb7
            have D2 := ((D2.alloc _).alloc _).below hb7
            have D3 := ((DecAt.new w6 m e _).alloc _).below hb7
            have hbb7 : Below w.heap.size w w7 := ((hbb6.alloc hbb6.size _).alloc (by have := hbb6.size; simp; omega) _).trans (hb7.mono (by have := hbb6.size; simp; omega))
            generalize w6.heap.size = c3 at *
            clear hb7 hbb6 KX K3
            have HMK := Lib.hid (fun w => make_any m (e - x) w (by omega) (by omega) (by omega))
            generalize mk m (e - x) = res at *
            obtain ⟨x1, x2, x3⟩ := res
            unfold mkV at *
            have D0c := D0
            obtain ⟨d0, d1, df, dl⟩ := D0c
            go_wp2_with fail
            (with_reducible refine (HMK.out _).mono ?_)
            rintro e1 w8 ⟨rfl, hb8⟩
            have D0 := (D0.alloc _).below hb8
            have D1 := (D1.alloc _).below hb8
            have D2 := (D2.alloc _).below hb8
            have D3 := (D3.alloc _).below hb8
            have D4 := (DecAt.new w7 x1 x2 _).below hb8
            have hbb8 : Below w.heap.size w w8 := (hbb7.alloc hbb7.size _).trans (hb8.mono (by have := hbb7.size; simp; omega))
            generalize w7.heap.size = c4 at *
            clear hb8 hbb7 d0 d1 df dl
            obtain ⟨d0, d1, df, dl⟩ := D0
            obtain ⟨f0, f1, ff, fl⟩ := D1
            obtain ⟨g0, g1, gf, gl⟩ := D2
            obtain ⟨i0, i1, jf, jl⟩ := D3
            obtain ⟨k0, k1, kf, kl⟩ := D4
            cases x3
            · go_wp2_with fail
              go_ret
              exact ⟨ret_bool (by simp), hbb8.alloc hbb8.size _⟩
            · go_wp2_with fail
              go_ret
              exact ⟨ret_bool (by simp), hbb8.alloc hbb8.size _⟩
end Go.Proofs.YtaggeebfdlkbhaaDoor
