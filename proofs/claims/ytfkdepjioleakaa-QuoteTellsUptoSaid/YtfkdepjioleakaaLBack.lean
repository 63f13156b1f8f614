/- The walk of the law QuoteBack. -/
import Derived.Test.YtfkdepjioleakaaLCut
set_option linter.unusedVariables false
set_option linter.unusedSimpArgs false
namespace Go.Proofs.Ytfkdepjioleakaa
open Go.RowKit

theorem unq_back {l : List UInt8} (h : wholeB l = true) (m : List UInt8) : unqS (quoteL l ++ m) = (l, (quoteL l).length, true) := by
  obtain ⟨rs, hrs, rfl⟩ := whole_flat h
  have hq : quoteL (flat rs) = 34 :: (bodyQ rs ++ [34]) := by unfold quoteL; rw [qBody_flat' hrs]
  rw [hq]
  unfold unqS
  rw [if_pos (by simp [Lib.hasPrefix, List.isPrefixOf]), show (34 :: (bodyQ rs ++ [34]) ++ m : List UInt8).drop 1 = bodyQ rs ++ 34 :: m by simp, unq_body hrs]
  simp
theorem quote_true {t : ByteArray} (h : wholeB t.data.toList = true) (w : World) (hs : t.size ≤ 140737488355328) (hq : (qBody t.data.toList).length + 16 ≤ 140737488355328) :
    Calls Try.prog 14 #[.string t] w (Ret (.tuple #[.string ⟨(quoteL t.data.toList).toArray⟩, .bool true]) w) := by
  have := quote_any t w hs hq
  unfold quoV at this
  rwa [h, if_pos rfl] at this
theorem quote_false {t : ByteArray} (h : wholeB t.data.toList = false) (w : World) (hs : t.size ≤ 140737488355328) :
    Calls Try.prog 14 #[.string t] w (Ret (.tuple #[.string ⟨#[]⟩, .bool false]) w) := by
  have := quote_no t w hs h
  unfold quoV at this
  rwa [h, if_neg (by simp)] at this
theorem unquote_back {t : ByteArray} (h : wholeB t.data.toList = true) (more : ByteArray) (w : World) (hs : (quoteL t.data.toList).length + more.size + 8 ≤ 140737488355328) :
    Calls Try.prog 15 #[.string (⟨(quoteL t.data.toList).toArray⟩ ++ more)] w (Ret (.tuple #[.string t, .int .i64 (quoteL t.data.toList).length, .bool true]) w) := by
  have := unquote_at (⟨(quoteL t.data.toList).toArray⟩ ++ more) (quoteL t.data.toList ++ more.data.toList) (by simp) w (by rw [ByteArray.size_append, bs_size]; omega) _ (unq_back h _)
  unfold unqV at this
  rwa [show (⟨(t.data.toList, (quoteL t.data.toList).length, true).1.toArray⟩ : ByteArray) = t from (bs_self t).symm] at this
theorem quoteL_bound {t : ByteArray} (h : t.size ≤ 1048576) : (qBody t.data.toList).length ≤ 6291456 ∧ (quoteL t.data.toList).length ≤ 6291458 ∧ 2 ≤ (quoteL t.data.toList).length := by
  have := qBody_len _ t.data.toList (Nat.le_refl _)
  rw [sz] at this
  unfold quoteL
  simp
  omega

set_option maxHeartbeats 4000000 in
set_option maxRecDepth 100000 in
theorem lback_walk (s : ByteArray) (v : Value) (zs : List Int) (more : ByteArray) (w : World) (hs : s.size ≤ 1048576) (hv : IntsAt w v zs) (hm : more.size ≤ 1048576) :
    Calls Try.prog 4 #[.string s, v, .string more] w (Ret (.bool true) w) := by
  have HV := Lib.hid hv
  have hTl := textR_len zs
  have TX := Lib.hid (fun u (h : IntsAt u v zs) => text_any v zs u h)
  have WT := Lib.hid (fun u => whole_at ⟨(flat (textR zs)).toArray⟩ (flat (textR zs)) (by simp) u (by rw [bs_size]; omega) true (wholeB_flat' (textR_vr zs)))
  have hTs : (⟨(flat (textR zs)).toArray⟩ : ByteArray).size ≤ 1048576 := by rw [bs_size]; omega
  generalize (⟨(flat (textR zs)).toArray⟩ : ByteArray) = T at *
  clear hv hTl
  go_enter Try.func4, Try.ntmps4
  go_wp2_with (go_at_call 10; (with_reducible refine (awake_any _).mono ?_); rintro e w1 ⟨rfl, hb1⟩)
  go_wp2_with (go_at_call 11; (with_reducible refine (TX.out _ (HV.out.below hb1)).mono ?_); rintro e w2 ⟨rfl, hb2⟩)
  have hbb := below2 hb1 hb2
  clear hb1 hb2
  go_wp2_with fail
  have hA : Below w.heap.size w (w2.alloc (.cells #[.string s, .string T] 9)) := hbb.alloc hbb.size _
  have hc0 : (w2.alloc (.cells #[.string s, .string T] 9)).cell? ⟨w2.heap.size, 0, none⟩ = some (.string s) := by simp
  have hc1 : (w2.alloc (.cells #[.string s, .string T] 9)).cell? ⟨w2.heap.size, 1, none⟩ = some (.string T) := by simp
  have hbs : w2.heap.size < (w2.alloc (.cells #[.string s, .string T] 9)).heap.size := by simp
  generalize w2.alloc (.cells #[.string s, .string T] 9) = wA at *
  go_loopw [21] (fun iv wr => ∃ k : Nat, k ≤ 2 ∧ iv = .int .i64 k ∧ Below wA.heap.size wA wr) (fun iv _ => 2 - (intOf iv).toNat)
  case atStart => exact ⟨0, by omega, rfl, Below.refl _ _⟩
  case round =>
    obtain ⟨k, hk, rfl, hbr⟩ := hrel
    have hbw : Below w.heap.size w wr := hA.trans (hbr.mono hA.size)
    by_cases hlt : k < 2
    · obtain ⟨t, hcell, ht⟩ : ∃ t, wr.cell? ⟨w2.heap.size, k, none⟩ = some (.string t) ∧ t.size ≤ 1048576 := by
        have : k = 0 ∨ k = 1 := by omega
        rcases this with rfl | rfl
        · exact ⟨s, by rw [(bcell hbr).1 _ _ hbs]; exact hc0, hs⟩
        · exact ⟨T, by rw [(bcell hbr).1 _ _ hbs]; exact hc1, hTs⟩
      obtain ⟨q1, q2, q3⟩ := quoteL_bound ht
      cases hwh : wholeB t.data.toList with
      | false =>
        have QF := Lib.hid (fun u => quote_false hwh u (by omega))
        have WF := Lib.hid (fun u => whole_at t _ rfl u (by omega) false hwh)
        clear hwh hc0 hc1 q1 q2 q3
        go_wp2_with (go_at_call 14; (with_reducible refine (QF.out _).mono ?_); rintro e w3 ⟨rfl, hb3⟩)
        go_wp2_with (go_at_call 17; (with_reducible refine (WF.out _).mono ?_); rintro e w4 ⟨rfl, hb4⟩)
        have h34 := below2 hb3 hb4
        have hz : wA.heap.size ≤ wr.heap.size := hbr.size
        go_roundw
        case rel => exact ⟨k + 1, by omega, by go_num, hbr.trans (h34.mono hz)⟩
        case measure => simp [intOf]; omega
      | true =>
        have QF := Lib.hid (fun u => quote_true hwh u (by omega) (by omega))
        have WF := Lib.hid (fun u => whole_at t _ rfl u (by omega) true hwh)
        have UB := Lib.hid (fun u => unquote_back hwh more u (by omega))
        clear hwh hc0 hc1 q1
        generalize quoteL t.data.toList = Q at *
        have hne : Q.isEmpty = false := by cases Q with | nil => simp at q3 | cons a b => rfl
        go_wp2_with (go_at_call 14; (with_reducible refine (QF.out _).mono ?_); rintro e w3 ⟨rfl, hb3⟩)
        go_wp2_with (go_at_call 17; (with_reducible refine (WF.out _).mono ?_); rintro e w4 ⟨rfl, hb4⟩)
        have h34 := below2 hb3 hb4
        clear hb3 hb4
        go_wp2_with (go_at_call 15; (with_reducible refine (UB.out _).mono ?_); rintro e w5 ⟨rfl, hb5⟩)
        have h5 := below2 h34 hb5
        have hz : wA.heap.size ≤ wr.heap.size := hbr.size
        go_roundw
        case rel => exact ⟨k + 1, by omega, by go_num, hbr.trans (h5.mono hz)⟩
        case measure => simp [intOf]; omega
    · clear hc0 hc1
      go_wp2_with (go_at_call 11; (with_reducible refine (TX.out _ (HV.out.below hbw)).mono ?_); rintro e w3 ⟨rfl, hb3⟩)
      have h3 := below2 hbw hb3
      clear hb3
      go_wp2_with (go_at_call 17; (with_reducible refine (WT.out _).mono ?_); rintro e w4 ⟨rfl, hb4⟩)
      go_ret
      exact ⟨rfl, below2 h3 hb4⟩
end Go.Proofs.Ytfkdepjioleakaa
