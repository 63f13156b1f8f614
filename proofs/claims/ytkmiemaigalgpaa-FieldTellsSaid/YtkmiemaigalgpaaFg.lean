import Derived.Test.YtkmiemaigalgpaaFf
/- Layer 5: the contract of Check. -/
set_option linter.unusedVariables false
set_option linter.unusedSimpArgs false
namespace Go.Proofs.Ytkmiemaigalgpaa.Js
open Go.RowKit Lex

set_option maxHeartbeats 4000000 in
set_option maxRecDepth 100000 in
theorem check_any (S : Nat → Prop) (d : Nat) (v : Value) (j : J) (sv : Value) (fs : List Fd) (w : World) (h : JAt S w d v j) (hs : FdsAt w sv fs) : Calls Try.prog 19 #[v, sv] w (Ret (.int .i64 (chkL j fs 0)) w) := by
  have HA := Lib.hid (fun (f : Fd) (w' : World) (hb : Below w.heap.size w w') => has5_any S d v j f w' (h.below hb (Nat.le_refl _)))
  obtain ⟨k, m, e, t, ns, is⟩ := j
  obtain ⟨d', an, cn, ai, ci, hd', rfl, _, _, _, _, _, hn1, hn, hi1, hi, hit⟩ := h.open_
  clear hit h
  obtain ⟨ao, cap, rfl, hc, hmx, hg, hcl⟩ := hs
  have HC := Lib.hid hcl
  obtain ⟨R, HR⟩ : ∃ R, Hid (chkL (J.mk k m e t ns is) fs 0 = R) := ⟨_, rfl⟩
  rw [HR.out]
  obtain ⟨n, HN⟩ : ∃ n, Hid (fs.length = n) := ⟨_, rfl⟩
  rw [HN.out] at hc hmx ⊢
  have HK0 : Hid (KI w #[.int .i64 k, .int .i64 m, .int .i64 e, .string ⟨t.toArray⟩, .slice an ns.length cn, .slice ai is.length ci] (w.alloc (.cells #[.int .i64 k, .int .i64 m, .int .i64 e, .string ⟨t.toArray⟩, .slice an ns.length cn, .slice ai is.length ci] 27))) := ⟨belowOne _ _, heap_alloc_new _ _⟩
  clear hcl hg
  go_enter Try.func19, Try.ntmps19
  go_wp2_with fail
  go_loopw [9] (fun i wr => ∃ q : Nat, q ≤ n ∧ i = .int .i64 q ∧ Hid (KI w #[.int .i64 k, .int .i64 m, .int .i64 e, .string ⟨t.toArray⟩, .slice an ns.length cn, .slice ai is.length ci] wr) ∧ Hid (chkL (J.mk k m e t ns is) (fs.drop q) q = R)) (fun i _ => n - (intOf i).toNat)
  case atStart => exact ⟨0, Nat.zero_le _, rfl, HK0, HR⟩
  case round =>
    clear HK0 HR
    obtain ⟨q, hq, rfl, HI, HK⟩ := hrel
    by_cases hlt : q < n
    · obtain ⟨b, off, rfl, hbl, hel⟩ := HC.out (by rw [HN.out]; omega)
      have hu := hel q (by rw [HN.out]; omega)
      have HS := Lib.hid (drop_getD0 (l := fs) (q := q) fd0 (by rw [HN.out]; exact hlt))
      generalize fs.getD q fd0 = f at *
      obtain ⟨nm, fk, lo, hi', fr⟩ := f
      unfold fdV at hu
      obtain ⟨x0, x1, x2, x3, x4⟩ := (hu.keep (HI.out.bel.block b hbl)).five
      have hblr : b < wr.heap.size := Nat.lt_of_lt_of_le hbl HI.out.bel.size
      have q1 : (q : Int) < (n : Int) := by omega
      obtain ⟨y0, y1, y2, y3, y4, y5⟩ := six_of HI.out.box
      have hlr : w.heap.size < wr.heap.size := Own.block_lt HI.out.box
      have HB := Lib.hid (HA.out ⟨nm, fk, lo, hi', fr⟩)
      unfold fdV at HB
      have HW : Hid (∀ o, Below w.heap.size w (wr.alloc o)) := fun o => HI.out.bel.trans ((belowOne wr o).mono HI.out.bel.size)
      clear hel hu HC HA
      by_cases hk : k = 7
      · have b7 : (k != 7) = false := by simpa using hk
        obtain ⟨r, Hr⟩ : ∃ r, Hid (hasB (J.mk k m e t ns is) ⟨nm, fk, lo, hi', fr⟩ = r) := ⟨_, rfl⟩
        rw [Hr.out] at HB
        have HKK := Lib.hid hk
        clear hk
        cases r with
        | true =>
          go_wp2_with (go_at_call 41; (with_reducible refine (HB.out _ (HW.out _)).mono ?_); rintro e1 w1 ⟨rfl, hb1⟩)
          go_roundw
          case rel =>
            refine ⟨q + 1, by omega, by go_num, HI.out.step (Dec.below_call hb1), ?_⟩
            show _ = _
            rw [← HK.out, HS.out, chkL, if_pos ⟨HKK.out, Hr.out⟩]
          case measure => simp [intOf]; omega
        | false =>
          go_wp2_with (go_at_call 41; (with_reducible refine (HB.out _ (HW.out _)).mono ?_); rintro e1 w1 ⟨rfl, hb1⟩)
          go_ret
          refine ⟨Quo.ret_int ?_, (HW.out _).trans (hb1.mono (HW.out _).size)⟩
          rw [← HK.out, HS.out, chkL, if_neg (by rw [Hr.out]; simp)]
      · have b7 : (k != 7) = true := by simpa using hk
        have HKK := Lib.hid hk
        clear hk
        go_wp2_with fail
        go_ret
        refine ⟨Quo.ret_int ?_, HW.out _⟩
        rw [← HK.out, HS.out, chkL, if_neg (fun h => HKK.out h.1)]
    · obtain rfl : q = n := by omega
      have HE : Hid (R = -1) := by
        show _ = _
        rw [← HK.out, List.drop_of_length_le (by rw [HN.out]; exact Nat.le_refl _), chkL]
      go_wp2_with fail
      go_ret
      exact ⟨Quo.ret_int HE.out.symm, HI.out.bel⟩
end Go.Proofs.Ytkmiemaigalgpaa.Js
