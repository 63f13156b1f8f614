/- The walk of the law QuoteTells. -/
import Derived.Test.YtfkdepjioleakaaRUnq
import Derived.Test.YtfkdepjioleakaaLForth
set_option linter.unusedVariables false
set_option linter.unusedSimpArgs false
namespace Go.Proofs.Ytfkdepjioleakaa
open Go.RowKit

/-- Quote of a raw whole text, as the document answers. -/
theorem rquote_text (zs : List Int) (w : World) :
    Calls Try.prog 12 #[.string ⟨(flat (textR zs)).toArray⟩] w (Ret (.tuple #[.string ⟨(34 :: (bodyQ (textR zs) ++ [34])).toArray⟩, .bool true]) w) := by
  have h1 := textR_len zs
  have := rquote_any ⟨(flat (textR zs)).toArray⟩ w (by rw [bs_size]; omega)
  rwa [show (⟨(flat (textR zs)).toArray⟩ : ByteArray).data.toList = flat (textR zs) by simp, quote_flat (textR_vr zs)] at this

set_option maxHeartbeats 4000000 in
set_option maxRecDepth 100000 in
theorem ltells_walk (s : ByteArray) (v : Value) (zs : List Int) (at0 : Int) (more : ByteArray) (w : World) (hs : s.size ≤ 1048576) (hv : IntsAt w v zs) (a0 : -9223372036854775808 ≤ at0) (a1 : at0 ≤ 9223372036854775807) (hm : more.size ≤ 1048576) :
    Calls Try.prog 3 #[.string s, v, .int .i64 at0, .string more] w (Ret (.bool true) w) := by
  have HV := Lib.hid hv
  have TX := Lib.hid (fun u (h : IntsAt u v zs) => text_any v zs u h)
  have QT := Lib.hid (fun u => rquote_text zs u)
  have hT := textR_len zs
  have hl1 := body_len (textR zs)
  have hl2 := textR_count zs
  have hq1 : (34 :: (bodyQ (textR zs) ++ [34])).length ≤ 2000 := by simp; omega
  generalize (34 :: (bodyQ (textR zs) ++ [34]) : List UInt8) = Q at *
  generalize flat (textR zs) = T at *
  clear hv hl1 hl2
  have pk0 := pickS_nonneg (c := at0) (n := (Q.length : Int) + 1) (by omega)
  have pk1 := pickS_lt (c := at0) (n := (Q.length : Int) + 1) (by omega)
  have PK := Lib.hid (fun u => pick_any at0 ((Q.length : Int) + 1) u a0 a1 (by omega) (by omega))
  generalize pickS at0 ((Q.length : Int) + 1) = m at *
  obtain ⟨k, rfl⟩ := Int.eq_ofNat_of_zero_le pk0
  have hk : k ≤ Q.length := by omega
  have hk2 : (k : Int) ≤ (Q.length : Int) := by omega
  clear pk0 pk1
  go_enter Try.func3, Try.ntmps3
  go_wp2_with (go_at_call 10; (with_reducible refine (awake_any _).mono ?_); rintro e w1 ⟨rfl, hb1⟩)
  go_wp2_with (go_at_call 11; (with_reducible refine (TX.out _ (HV.out.below hb1)).mono ?_); rintro e w2 ⟨rfl, hb2⟩)
  have hbb := below2 hb1 hb2
  clear hb1 hb2
  go_wp2_with (go_at_call 12; (with_reducible refine (QT.out _).mono ?_); rintro e w3 ⟨rfl, hb3⟩)
  have hbb3 := below2 hbb hb3
  clear hbb hb3
  go_wp2_with (go_at_call 13; (with_reducible refine (PK.out _).mono ?_); rintro e w4 ⟨rfl, rfl⟩)
  clear HV TX QT PK a0 a1
  go_region
  have hone : (⟨#[34]⟩ : ByteArray).size = 1 := rfl
  have l1 : (⟨#[34]⟩ ++ s : ByteArray).size ≤ 2200000 := by
    simp only [ByteArray.size_append, ByteArray.size_extract, bs_size, hone]
    omega
  have l2 : (⟨#[34]⟩ ++ s ++ ⟨#[34]⟩ : ByteArray).size ≤ 2200000 := by
    simp only [ByteArray.size_append, ByteArray.size_extract, bs_size, hone]
    omega
  have l3 : (⟨Q.toArray⟩ : ByteArray).size ≤ 2200000 := by
    simp only [ByteArray.size_append, ByteArray.size_extract, bs_size, hone]
    omega
  have l4 : (⟨Q.toArray⟩ ++ more : ByteArray).size ≤ 2200000 := by
    simp only [ByteArray.size_append, ByteArray.size_extract, bs_size, hone]
    omega
  have l5 : ((⟨Q.toArray⟩ : ByteArray).extract 0 k ++ more ++ (⟨Q.toArray⟩ : ByteArray).extract (min ((k : Int) + (more.size : Int)) (Q.length : Int)).toNat Q.length).size ≤ 2200000 := by
    simp only [ByteArray.size_append, ByteArray.size_extract, bs_size, hone]
    omega
  have l6 : ((⟨Q.toArray⟩ : ByteArray).extract 0 k).size ≤ 2200000 := by
    simp only [ByteArray.size_append, ByteArray.size_extract, bs_size, hone]
    omega
  have l7 : ((⟨Q.toArray⟩ : ByteArray).extract 0 k ++ more ++ (⟨Q.toArray⟩ : ByteArray).extract k Q.length).size ≤ 2200000 := by
    simp only [ByteArray.size_append, ByteArray.size_extract, bs_size, hone]
    omega
  have l8 : (⟨T.toArray⟩ : ByteArray).size ≤ 2200000 := by
    simp only [ByteArray.size_append, ByteArray.size_extract, bs_size, hone]
    omega
  have l0 : s.size ≤ 2200000 := by omega
  clear hone
  generalize ((⟨Q.toArray⟩ : ByteArray).extract 0 k ++ more ++ (⟨Q.toArray⟩ : ByteArray).extract k Q.length) = X7 at *
  generalize ((⟨Q.toArray⟩ : ByteArray).extract 0 k ++ more ++ (⟨Q.toArray⟩ : ByteArray).extract (min ((k : Int) + (more.size : Int)) (Q.length : Int)).toNat Q.length) = X5 at *
  generalize ((⟨Q.toArray⟩ : ByteArray).extract 0 k) = X6 at *
  generalize (⟨Q.toArray⟩ ++ more : ByteArray) = X4 at *
  generalize (⟨Q.toArray⟩ : ByteArray) = X3 at *
  generalize (⟨#[34]⟩ ++ s ++ ⟨#[34]⟩ : ByteArray) = X2 at *
  generalize (⟨#[34]⟩ ++ s : ByteArray) = X1 at *
  generalize (⟨T.toArray⟩ : ByteArray) = X8 at *
  have hA : Below w.heap.size w (w3.alloc (.cells #[.string s, .string X1, .string X2, .string X3, .string X4, .string X5, .string X6, .string X7, .string X8] 9)).drew := (hbb3.alloc hbb3.size _).drew
  have hcs : Hid (∀ j, j < 9 → ∃ t, (w3.alloc (.cells #[.string s, .string X1, .string X2, .string X3, .string X4, .string X5, .string X6, .string X7, .string X8] 9)).drew.cell? ⟨w3.heap.size, j, none⟩ = some (.string t) ∧ t.size ≤ 2200000) := fun j hj => by
    have : j = 0 ∨ j = 1 ∨ j = 2 ∨ j = 3 ∨ j = 4 ∨ j = 5 ∨ j = 6 ∨ j = 7 ∨ j = 8 := by omega
    rcases this with rfl | rfl | rfl | rfl | rfl | rfl | rfl | rfl | rfl
    · exact ⟨s, by simp, l0⟩
    · exact ⟨X1, by simp, l1⟩
    · exact ⟨X2, by simp, l2⟩
    · exact ⟨X3, by simp, l3⟩
    · exact ⟨X4, by simp, l4⟩
    · exact ⟨X5, by simp, l5⟩
    · exact ⟨X6, by simp, l6⟩
    · exact ⟨X7, by simp, l7⟩
    · exact ⟨X8, by simp, l8⟩
  have hbs : w3.heap.size < (w3.alloc (.cells #[.string s, .string X1, .string X2, .string X3, .string X4, .string X5, .string X6, .string X7, .string X8] 9)).drew.heap.size := by simp
  generalize (w3.alloc (.cells #[.string s, .string X1, .string X2, .string X3, .string X4, .string X5, .string X6, .string X7, .string X8] 9)).drew = wA at *
  clear l0 l1 l2 l3 l4 l5 l6 l7 l8
  go_wp2_with fail
  go_loopw [79] (fun iv wr => ∃ j : Nat, j ≤ 9 ∧ iv = .int .i64 j ∧ Below wA.heap.size wA wr) (fun iv _ => 9 - (intOf iv).toNat)
  case atStart => exact ⟨0, by omega, rfl, Below.refl _ _⟩
  case round =>
    obtain ⟨j, hj, rfl, hbr⟩ := hrel
    have hbw : Below w.heap.size w wr := hA.trans (hbr.mono hA.size)
    have hz : wA.heap.size ≤ wr.heap.size := hbr.size
    by_cases hlt : j < 9
    · obtain ⟨t, hcell, ht⟩ := hcs.out j hlt
      rw [← (bcell hbr).1 _ _ hbs] at hcell
      have hql := qBody_len _ t.data.toList (Nat.le_refl _)
      rw [sz] at hql
      have Q1 := Lib.hid (fun u => quote_any t u (by omega) (by omega))
      have Q2 := Lib.hid (fun u => rquote_any t u (by omega))
      have U1 := Lib.hid (fun u => unquote_any t u (by omega))
      have U2 := Lib.hid (fun u => runq_any t u (by omega))
      have W1 := Lib.hid (fun u => whole_any t u (by omega))
      have W2 := Lib.hid (fun u => rwhole_any t u (by omega))
      unfold quoV at Q1 Q2
      unfold unqV at U1 U2
      clear hql
      generalize (⟨(if wholeB t.data.toList = true then quoteL t.data.toList else []).toArray⟩ : ByteArray) = A at *
      generalize wholeB t.data.toList = B at *
      generalize unqS t.data.toList = R at *
      obtain ⟨C, n, D⟩ := R
      simp only at U1 U2
      generalize (⟨C.toArray⟩ : ByteArray) = X at *
      go_wp2_with (go_at_call 14; (with_reducible refine (Q1.out _).mono ?_); rintro e w5 ⟨rfl, hb5⟩)
      go_wp2_with (go_at_call 12; (with_reducible refine (Q2.out _).mono ?_); rintro e w6 ⟨rfl, hb6⟩)
      have h6 := below2 hb5 hb6
      clear hb5 hb6
      go_wp2_with (go_at_call 15; (with_reducible refine (U1.out _).mono ?_); rintro e w7 ⟨rfl, hb7⟩)
      have h7 := below2 h6 hb7
      clear h6 hb7
      go_wp2_with (go_at_call 16; (with_reducible refine (U2.out _).mono ?_); rintro e w8 ⟨rfl, hb8⟩)
      have h8 := below2 h7 hb8
      clear h7 hb8
      go_wp2_with (go_at_call 17; (with_reducible refine (W1.out _).mono ?_); rintro e w9 ⟨rfl, hb9⟩)
      have h9 := below2 h8 hb9
      clear h8 hb9
      go_wp2_with (go_at_call 18; (with_reducible refine (W2.out _).mono ?_); rintro e w10 ⟨rfl, rfl⟩)
      go_roundw
      case rel => exact ⟨j + 1, by omega, by go_num, hbr.trans (h9.mono hz)⟩
      case measure => simp [intOf]; omega
    · go_wp2_with fail
      go_ret
      exact ⟨rfl, hbw⟩
end Go.Proofs.Ytfkdepjioleakaa
