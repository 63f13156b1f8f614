/- The walk of the law QuoteCut. -/
import Derived.Test.YtfkdepjioleakaaLWhole
set_option linter.unusedVariables false
set_option linter.unusedSimpArgs false
namespace Go.Proofs.Ytfkdepjioleakaa
open Go.RowKit

theorem quote_flat {rs : List Nat} (h : ∀ r ∈ rs, vr r) : quoV (flat rs) = .tuple #[.string ⟨(34 :: (bodyQ rs ++ [34])).toArray⟩, .bool true] := by
  unfold quoV quoteL
  rw [wholeB_flat' h, if_pos rfl, qBody_flat' h]
theorem body_len (rs : List Nat) : (bodyQ rs).length ≤ 6 * rs.length := by
  induction rs with
  | nil => simp [bodyQ]
  | cons r rs ih =>
    rw [show bodyQ (r :: rs) = qr r ++ bodyQ rs by simp [bodyQ], List.length_append, List.length_cons]
    have := qr_le6 r
    omega
theorem textR_count (zs : List Int) : (textR zs).length ≤ 200 := by unfold textR; rw [List.length_map, List.length_take]; exact Nat.min_le_left _ _
/-- Quote of a raw whole text. -/
theorem quote_text (zs : List Int) (w : World) :
    Calls Try.prog 14 #[.string ⟨(flat (textR zs)).toArray⟩] w (Ret (.tuple #[.string ⟨(34 :: (bodyQ (textR zs) ++ [34])).toArray⟩, .bool true]) w) := by
  have h1 := textR_len zs
  have h2 := body_len (textR zs)
  have h3 := textR_count zs
  have := quote_any ⟨(flat (textR zs)).toArray⟩ w (by rw [bs_size]; omega) (by
    show (qBody (flat (textR zs))).length + 16 ≤ _
    rw [qBody_flat' (textR_vr zs)]; omega)
  rwa [show (⟨(flat (textR zs)).toArray⟩ : ByteArray).data.toList = flat (textR zs) by simp, quote_flat (textR_vr zs)] at this
theorem unquote_at (x : ByteArray) (L : List UInt8) (hx : x.data.toList = L) (w : World) (hs : x.size + 8 ≤ 140737488355328) (p : List UInt8 × Nat × Bool) (hp : unqS L = p) :
    Calls Try.prog 15 #[.string x] w (Ret (unqV p) w) := by
  have := unquote_any x w hs
  rwa [hx, hp] at this
theorem cut_none {rs : List Nat} (h : ∀ r ∈ rs, vr r) {k : Nat} (hk : k < (34 :: (bodyQ rs ++ [34])).length) : unqS ((34 :: (bodyQ rs ++ [34])).take k) = ([], 0, false) := by
  cases k with
  | zero => rfl
  | succ k =>
    rw [List.take_succ_cons]
    have hk' : k ≤ (bodyQ rs).length := by simp at hk; omega
    rw [List.take_append_of_le_length hk']
    unfold unqS
    rw [if_pos (by simp [Lib.hasPrefix, List.isPrefixOf]), List.drop_succ_cons, List.drop_zero, unq_cut h (p := (bodyQ rs).take k) (q := (bodyQ rs).drop k) (by rw [List.take_append_drop])]

set_option maxHeartbeats 2000000 in
set_option maxRecDepth 100000 in
theorem lcut_walk (v : Value) (zs : List Int) (c : Int) (w : World) (hv : IntsAt w v zs) (c0 : -9223372036854775808 ≤ c) (c1 : c ≤ 9223372036854775807) :
    Calls Try.prog 8 #[v, .int .i64 c] w (Ret (.bool true) w) := by
  have HV := Lib.hid hv
  have TX := Lib.hid (fun u (h : IntsAt u v zs) => text_any v zs u h)
  have QT := Lib.hid (fun u => quote_text zs u)
  have CN := Lib.hid (fun k hk => cut_none (textR_vr zs) (k := k) hk)
  have hl1 := body_len (textR zs)
  have hl2 := textR_count zs
  have hq0 : 2 ≤ (34 :: (bodyQ (textR zs) ++ [34])).length := by simp
  have hq1 : (34 :: (bodyQ (textR zs) ++ [34])).length ≤ 2000 := by simp; omega
  generalize (34 :: (bodyQ (textR zs) ++ [34]) : List UInt8) = Q at *
  generalize flat (textR zs) = T at *
  clear hv hl1 hl2
  have pk0 := pickS_nonneg (c := c) (n := (Q.length : Int)) (by omega)
  have pk1 := pickS_lt (c := c) (n := (Q.length : Int)) (by omega)
  have PK := Lib.hid (fun u => pick_any c (Q.length : Int) u c0 c1 (by omega) (by omega))
  generalize pickS c (Q.length : Int) = m at *
  obtain ⟨k, rfl⟩ := Int.eq_ofNat_of_zero_le pk0
  have UQ := Lib.hid (fun u => unquote_at ((⟨Q.toArray⟩ : ByteArray).extract 0 k) (Q.take k) (by rw [bs_take]) u (by rw [bs_take, bs_size, List.length_take]; omega) _ (CN.out k (by omega)))
  have hk : k < Q.length := by omega
  have hne : Q.isEmpty = false := by cases Q with | nil => simp at hq0 | cons a b => rfl
  clear pk0 pk1 CN
  go_enter Try.func8, Try.ntmps8
  go_wp2_with (go_at_call 10; (with_reducible refine (awake_any _).mono ?_); rintro e w1 ⟨rfl, hb1⟩)
  go_wp2_with (go_at_call 11; (with_reducible refine (TX.out _ (HV.out.below hb1)).mono ?_); rintro e w2 ⟨rfl, hb2⟩)
  have hbb := below2 hb1 hb2
  clear hb1 hb2
  go_wp2_with (go_at_call 14; (with_reducible refine (QT.out _).mono ?_); rintro e w3 ⟨rfl, hb3⟩)
  have hbb3 := below2 hbb hb3
  clear hbb hb3
  go_wp2_with (go_at_call 13; (with_reducible refine (PK.out _).mono ?_); rintro e w4 ⟨rfl, rfl⟩)
  go_wp2_with (go_at_call 15; (with_reducible refine (UQ.out _).mono ?_); rintro e w5 ⟨rfl, hb5⟩; unfold unqV)
  go_ret
  exact ⟨rfl, below2 hbb3 hb5⟩
end Go.Proofs.Ytfkdepjioleakaa
