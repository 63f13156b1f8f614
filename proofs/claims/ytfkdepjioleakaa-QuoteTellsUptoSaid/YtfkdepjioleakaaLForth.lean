/- The walk of the law QuoteForth. -/
import Derived.Test.YtfkdepjioleakaaLBack
import Derived.BigRegion
set_option linter.unusedVariables false
set_option linter.unusedSimpArgs false
namespace Go.Proofs.Ytfkdepjioleakaa
open Go.RowKit

theorem forth_case (l : List UInt8) : unqS l = ([], 0, false) ∨ ∃ U n, unqS l = (U, n, true) ∧ wholeB U = true ∧ (qBody U).length + 2 ≤ l.length ∧ 2 ≤ n ∧ n ≤ l.length ∧ U.length ≤ l.length := by
  cases hp : Lib.hasPrefix l [34] with
  | false => left; unfold unqS; rw [if_neg (by rw [hp]; simp)]
  | true =>
    obtain ⟨m, rfl⟩ : ∃ m, l = 34 :: m := by
      obtain ⟨t, ht⟩ := List.isPrefixOf_iff_prefix.1 (show [34].isPrefixOf l = true from hp)
      exact ⟨t, ht.symm⟩
    cases hu : unqB m with
    | none => left; unfold unqS; rw [if_pos hp, List.drop_succ_cons, List.drop_zero, hu]
    | some p =>
      obtain ⟨U, k⟩ := p
      right
      obtain ⟨⟨rs, hrs, hU⟩, h1, h2⟩ := unq_some _ m (Nat.le_refl _) U k hu
      have h3 := unq_quote _ m (Nat.le_refl _) U k hu
      refine ⟨U, k + 1, by unfold unqS; rw [if_pos hp, List.drop_succ_cons, List.drop_zero, hu], by rw [hU]; exact wholeB_flat' hrs, by rw [List.length_cons]; omega, by omega, by rw [List.length_cons]; omega, by rw [List.length_cons]; omega⟩
theorem unquote_self {U : List UInt8} (h : wholeB U = true) (w : World) (hs : (quoteL U).length + 8 ≤ 140737488355328) :
    Calls Try.prog 15 #[.string ⟨(quoteL U).toArray⟩] w (Ret (.tuple #[.string ⟨U.toArray⟩, .int .i64 (quoteL U).length, .bool true]) w) := by
  have hu : unqS (quoteL U) = (U, (quoteL U).length, true) := by
    have := unq_back h []
    rwa [List.append_nil] at this
  exact unquote_at ⟨(quoteL U).toArray⟩ (quoteL U) (by simp) w (by rw [bs_size]; omega) _ hu
theorem quoteL_length (U : List UInt8) : (quoteL U).length = (qBody U).length + 2 := by unfold quoteL; simp

set_option maxHeartbeats 4000000 in
set_option maxRecDepth 100000 in
theorem lforth_walk (s : ByteArray) (v : Value) (zs : List Int) (at0 : Int) (more : ByteArray) (w : World) (hs : s.size ≤ 140737488351232) (hv : IntsAt w v zs) (a0 : -9223372036854775808 ≤ at0) (a1 : at0 ≤ 9223372036854775807) (hm : more.size ≤ 140737488351232) :
    Calls Try.prog 5 #[.string s, v, .int .i64 at0, .string more] w (Ret (.bool true) w) := by
  have HV := Lib.hid hv
  have TX := Lib.hid (fun u (h : IntsAt u v zs) => text_any v zs u h)
  have QT := Lib.hid (fun u => quote_text zs u)
  have hl1 := body_len (textR zs)
  have hl2 := textR_count zs
  have hq1 : (34 :: (bodyQ (textR zs) ++ [34])).length ≤ 2000 := by simp; omega
  generalize (34 :: (bodyQ (textR zs) ++ [34]) : List UInt8) = Q at *
  generalize flat (textR zs) = T at *
  clear hv hl1 hl2
  have pk0 := pickS_nonneg (c := at0) (n := (Q.length : Int) + 1) (by omega)
  have pk1 := pickS_lt (c := at0) (n := (Q.length : Int) + 1) (by omega)
  have PK := Lib.hid (fun u => pick_any at0 ((Q.length : Int) + 1) u a0 a1 (by omega) (by omega))
  generalize pickS at0 ((Q.length : Int) + 1) = m at *
  obtain ⟨k, rfl⟩ := Int.eq_ofNat_of_zero_le pk0
  have hk : k ≤ Q.length := by omega
  have hk2 : (k : Int) ≤ (Q.length : Int) := by omega
  clear pk0 pk1
  go_enter Try.func5, Try.ntmps5
  go_wp2_with (go_at_call 10; (with_reducible refine (awake_any _).mono ?_); rintro e w1 ⟨rfl, hb1⟩)
  go_wp2_with (go_at_call 11; (with_reducible refine (TX.out _ (HV.out.below hb1)).mono ?_); rintro e w2 ⟨rfl, hb2⟩)
  have hbb := below2 hb1 hb2
  clear hb1 hb2
  go_wp2_with (go_at_call 14; (with_reducible refine (QT.out _).mono ?_); rintro e w3 ⟨rfl, hb3⟩)
  have hbb3 := below2 hbb hb3
  clear hbb hb3
  go_wp2_with (go_at_call 13; (with_reducible refine (PK.out _).mono ?_); rintro e w4 ⟨rfl, rfl⟩)
  clear HV TX QT PK a0 a1
  go_region
  have hX0 : (⟨#[34]⟩ ++ s ++ ⟨#[34]⟩ : ByteArray).size ≤ 140737488353300 := by
    rw [ByteArray.size_append, ByteArray.size_append]
    show 1 + s.size + 1 ≤ _
    omega
  have hX1 : ((⟨Q.toArray⟩ : ByteArray).extract 0 k ++ more ++ (⟨Q.toArray⟩ : ByteArray).extract k Q.length).size ≤ 140737488353300 := by
    rw [ByteArray.size_append, ByteArray.size_append, ByteArray.size_extract, ByteArray.size_extract, bs_size]
    omega
  generalize (⟨#[34]⟩ ++ s ++ ⟨#[34]⟩ : ByteArray) = X0 at *
  generalize ((⟨Q.toArray⟩ : ByteArray).extract 0 k ++ more ++ (⟨Q.toArray⟩ : ByteArray).extract k Q.length) = X1 at *
  have hA : Below w.heap.size w (w3.alloc (.cells #[.string X0, .string X1] 9)).drew := (hbb3.alloc hbb3.size _).drew
  have hc0 : (w3.alloc (.cells #[.string X0, .string X1] 9)).drew.cell? ⟨w3.heap.size, 0, none⟩ = some (.string X0) := by simp
  have hc1 : (w3.alloc (.cells #[.string X0, .string X1] 9)).drew.cell? ⟨w3.heap.size, 1, none⟩ = some (.string X1) := by simp
  have hbs : w3.heap.size < (w3.alloc (.cells #[.string X0, .string X1] 9)).drew.heap.size := by simp
  generalize (w3.alloc (.cells #[.string X0, .string X1] 9)).drew = wA at *
  have HC0 := Lib.hid hc0
  have HC1 := Lib.hid hc1
  clear hc0 hc1
  go_wp2_with fail
  go_loopw [49] (fun iv wr => ∃ k : Nat, k ≤ 2 ∧ iv = .int .i64 k ∧ Below wA.heap.size wA wr) (fun iv _ => 2 - (intOf iv).toNat)
  case atStart => exact ⟨0, by omega, rfl, Below.refl _ _⟩
  case round =>
    obtain ⟨j, hj, rfl, hbr⟩ := hrel
    have hbw : Below w.heap.size w wr := hA.trans (hbr.mono hA.size)
    have hz : wA.heap.size ≤ wr.heap.size := hbr.size
    by_cases hlt : j < 2
    · obtain ⟨t, hcell, ht⟩ : ∃ t, wr.cell? ⟨w3.heap.size, j, none⟩ = some (.string t) ∧ t.size ≤ 140737488353300 := by
        have : j = 0 ∨ j = 1 := by omega
        rcases this with rfl | rfl
        · exact ⟨X0, by rw [(bcell hbr).1 _ _ hbs]; exact HC0.out, hX0⟩
        · exact ⟨X1, by rw [(bcell hbr).1 _ _ hbs]; exact HC1.out, hX1⟩
      rcases forth_case t.data.toList with hu | ⟨U, n, hu, hw, hq, hn0, hn1, hul⟩
      · have UQ := Lib.hid (fun u => unquote_at t _ rfl u (by omega) _ hu)
        unfold unqV at UQ
        clear hu
        go_wp2_with (go_at_call 15; (with_reducible refine (UQ.out _).mono ?_); rintro e w5 ⟨rfl, hb5⟩)
        go_roundw
        case rel => exact ⟨j + 1, by omega, by go_num, hbr.trans (hb5.mono hz)⟩
        case measure => simp [intOf]; omega
      · rw [sz] at hq hn1 hul
        have UQ := Lib.hid (fun u => unquote_at t _ rfl u (by omega) _ hu)
        have hql := quoteL_length U
        have QU := Lib.hid (fun u => quote_true (t := ⟨U.toArray⟩) (by simpa using hw) u (by rw [bs_size]; omega) (by show (qBody U).length + 16 ≤ _; omega))
        rw [show (⟨U.toArray⟩ : ByteArray).data.toList = U by simp] at QU
        have U2 := Lib.hid (fun u => unquote_self hw u (by omega))
        have WU := Lib.hid (fun u => whole_at ⟨U.toArray⟩ U (by simp) u (by rw [bs_size]; omega) true hw)
        have hq2 : (quoteL U).length ≤ 140737488353300 := by omega
        unfold unqV at UQ
        clear hu hw hql
        generalize quoteL U = P at *
        go_wp2_with (go_at_call 15; (with_reducible refine (UQ.out _).mono ?_); rintro e w5 ⟨rfl, hb5⟩)
        go_wp2_with (go_at_call 14; (with_reducible refine (QU.out _).mono ?_); rintro e w6 ⟨rfl, hb6⟩)
        have h6 := below2 hb5 hb6
        clear hb5 hb6
        go_wp2_with (go_at_call 15; (with_reducible refine (U2.out _).mono ?_); rintro e w7 ⟨rfl, hb7⟩)
        have h7 := below2 h6 hb7
        clear h6 hb7
        go_wp2_with (go_at_call 17; (with_reducible refine (WU.out _).mono ?_); rintro e w8 ⟨rfl, hb8⟩)
        have h8 := below2 h7 hb8
        clear h7 hb8
        go_roundw
        case rel => exact ⟨j + 1, by omega, by go_num, hbr.trans (h8.mono hz)⟩
        case measure => simp [intOf]; omega
    · go_wp2_with fail
      go_ret
      exact ⟨rfl, hbw⟩
end Go.Proofs.Ytfkdepjioleakaa
