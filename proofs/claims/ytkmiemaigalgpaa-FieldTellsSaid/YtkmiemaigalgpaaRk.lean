import Derived.Test.YtkmiemaigalgpaaRf
import Derived.Test.YtkmiemaigalgpaaFf
import Derived.Test.YtkmiemaigalgpaaFj
import Derived.Test.YtkmiemaigalgpaaMx
import Derived.Lib.QuietBelow
import Derived.Deep.RegionLaw
import Derived.Deep.DeepCutAuto
import Derived.Deep.CutRange
import Derived.Deep.CutBlock
/- The document's Check. -/
set_option linter.unusedVariables false
set_option linter.unusedSimpArgs false
namespace Go.Proofs.Ytkmiemaigalgpaa.Js
open Go.RowKit Lex

/-- What Get told, in a box. -/
def XB (w : World) (d : Nat) (r : J × Bool) (p q : Value) (w' : World) : Prop :=
  ∃ bx k m e t an nn cn ai ni ci, p = .pointer (some ⟨bx, 0, none⟩) ∧ q = .bool r.2 ∧ Below w.heap.size w w' ∧ w'.heap[bx]? = some (.cells #[.int .i64 k, .int .i64 m, .int .i64 e, .string t, .slice an nn cn, .slice ai ni ci] 27 (0, 0)) ∧ JAt Any w' d (.agg #[.int .i64 k, .int .i64 m, .int .i64 e, .string t, .slice an nn cn, .slice ai ni ci]) r.1
theorem XB.ofA {w w5 : World} {d : Nat} {r : J × Bool} {k m e : Int} {t : ByteArray} {an : Option Addr} {nn cn : Nat} {ai : Option Addr} {ni ci : Nat} (hb : Below w.heap.size w w5) (hJ : JAt (fun b => b < w.heap.size) w5 d (.agg #[.int .i64 k, .int .i64 m, .int .i64 e, .string t, .slice an nn cn, .slice ai ni ci]) r.1) :
    XB w d r (.pointer (some ⟨w5.heap.size, 0, none⟩)) (.bool r.2) (w5.alloc (.cells #[.int .i64 k, .int .i64 m, .int .i64 e, .string t, .slice an nn cn, .slice ai ni ci] 27)) :=
  ⟨_, k, m, e, t, an, nn, cn, ai, ni, ci, rfl, rfl, hb.alloc hb.size _, heap_alloc_new _ _, hJ.any.below (belowOne _ _) (Nat.le_refl _)⟩
theorem XB.ofB {w w5 : World} {d : Nat} {r : J × Bool} {k m e : Int} {t : ByteArray} {an : Option Addr} {nn cn : Nat} {ai : Option Addr} {ni ci : Nat} {d0 d1 d2 d3 d4 d5 : Value} (hb : Below w.heap.size w w5) (hz : w5.heap[w.heap.size]? = some (.cells #[d0, d1, d2, d3, d4, d5] 27 (0, 0))) (hJ : JAt (fun b => b < w.heap.size) w5 d (.agg #[.int .i64 k, .int .i64 m, .int .i64 e, .string t, .slice an nn cn, .slice ai ni ci]) r.1) :
    XB w d r (.pointer (some ⟨w.heap.size, 0, none⟩)) (.bool r.2) ((((((w5.setCell ⟨w.heap.size, 0, none⟩ (.int .i64 k)).setCell ⟨w.heap.size, 1, none⟩ (.int .i64 m)).setCell ⟨w.heap.size, 2, none⟩ (.int .i64 e)).setCell ⟨w.heap.size, 3, none⟩ (.string t)).setCell ⟨w.heap.size, 4, none⟩ (.slice an nn cn)).setCell ⟨w.heap.size, 5, none⟩ (.slice ai ni ci)) := by
  have h : XB w d r (.pointer (some ⟨w.heap.size, 0, none⟩)) (.bool r.2) (put6 w5 w.heap.size 0 (.int .i64 k) (.int .i64 m) (.int .i64 e) (.string t) (.slice an nn cn) (.slice ai ni ci)) :=
    ⟨_, k, m, e, t, an, nn, cn, ai, ni, ci, rfl, rfl, below_put6' hb (Nat.le_refl _) _ _ _ _ _ _, put6_self hz _ _ _ _ _ _, hJ.keep (S' := Any) (fun _ _ _ => trivial) (fun b hb' _ => put6_block _ _ 0 _ _ _ _ _ _ b (by have h' : b < w.heap.size := hb'; omega)) (by rw [put6_size]; exact Nat.le_refl _)⟩
  simpa only [put6, Nat.zero_add] using h
theorem chkL_at {j : J} {fs : List Fd} {q n : Nat} (hn : fs.length = n) (hq : q < n) (hk : j.k = 7) : chkL j (fs.drop q) q = if hasB j (fs.getD q fd0) = true then chkL j (fs.drop (q + 1)) (q + 1) else q := by
  rw [drop_getD0 (l := fs) (q := q) fd0 (by omega), chkL]
  by_cases h : hasB j (fs.getD q fd0) = true
  · rw [if_pos ⟨hk, h⟩, if_pos h]
  · rw [if_neg (fun x => h x.2), if_neg h]

set_option maxHeartbeats 8000000 in
set_option maxRecDepth 100000 in
theorem rcheck_any (S : Nat → Prop) (d : Nat) (v : Value) (j : J) (sv : Value) (fs : List Fd) (w : World) (h : JAt S w d v j) (hs : FdsAt w sv fs) : Calls Try.prog 20 #[v, sv] w (Ret (.int .i64 (chkL j fs 0)) w) := by
  have hJ := Lib.hid h
  obtain ⟨k, m, e, t, an, nn, cn, ai, ni, ci, rfl⟩ := jAt_form h
  obtain ⟨hjk, _⟩ := jAt_tell h
  obtain ⟨ao, cap, rfl, hc, hmx, hgd, hcl⟩ := hs
  have HC := Lib.hid hcl
  have HG := Lib.hid hgd
  obtain ⟨n, HN⟩ : ∃ n, Hid (fs.length = n) := ⟨_, rfl⟩
  rw [HN.out] at hc hmx HC ⊢
  have HJK := Lib.hid hjk
  clear h hgd hcl hjk
  obtain ⟨R, HR⟩ : ∃ R, Hid (chkL j fs 0 = R) := ⟨_, rfl⟩
  rw [HR.out]
  have HB0 := Lib.hid (belowOne w (.cells #[.int .i64 k, .int .i64 m, .int .i64 e, .string t, .slice an nn cn, .slice ai ni ci] 27))
  have HBX := Lib.hid (heap_alloc_new w (.cells #[.int .i64 k, .int .i64 m, .int .i64 e, .string t, .slice an nn cn, .slice ai ni ci] 27))
  by_cases hk : k = 7
  · subst hk
    go_enter Try.func20, Try.ntmps20
    go_wp2_with fail
    generalize hw0 : w.alloc (.cells #[.int .i64 7, .int .i64 m, .int .i64 e, .string t, .slice an nn cn, .slice ai ni ci] 27) = w0 at *
    clear hw0
    go_loopw [5] (fun i wr => ∃ q : Nat, q ≤ n ∧ i = .int .i64 q ∧ Hid (Below w0.heap.size w0 wr) ∧ Hid (chkL j (fs.drop q) q = R)) (fun i _ => n - (intOf i).toNat)
    case atStart => exact ⟨0, Nat.zero_le _, rfl, Below.refl _ _, HR⟩
    case round =>
      obtain ⟨q, hq, rfl, HW, HK⟩ := hrel
      by_cases hlt : q < n
      · obtain ⟨b, off, rfl, hbl, hel⟩ := HC.out (by omega)
        have hu := hel q hlt
        have HCK := Lib.hid (chkL_at HN.out hlt HJK.out)
        generalize fs.getD q fd0 = f at *
        obtain ⟨nm, fk, lo, hi, fr⟩ := f
        unfold fdV at hu
        rw [show hasB j ⟨nm, fk, lo, hi, fr⟩ = (if (getS j nm).2 = true then fitB (getS j nm).1 ⟨nm, fk, lo, hi, fr⟩ else fr) from rfl] at HCK
        have hbw := HB0.out.trans (HW.out.mono HB0.out.size)
        obtain ⟨x0, x1, x2, x3, x4⟩ := (hu.keep (hbw.block b hbl)).five
        obtain ⟨y0, y1, y2, y3, y4, y5⟩ := six_of ((HW.out.block _ (Own.block_lt HBX.out)).trans HBX.out)
        have i1 : (q : Int) < (n : Int) := by omega
        have hblr : b < wr.heap.size := Nat.lt_of_lt_of_le hbl hbw.size
        have hvbl : w.heap.size < wr.heap.size := Own.block_lt ((HW.out.block _ (Own.block_lt HBX.out)).trans HBX.out)
        have hJr : JAt (fun b => b < wr.heap.size) wr d (.agg #[.int .i64 7, .int .i64 m, .int .i64 e, .string t, .slice an nn cn, .slice ai ni ci]) j := (hJ.out.below hbw (Nat.le_refl _)).keep (fun b _ hb => hb) (fun _ _ _ => rfl) (Nat.le_refl _)
        have GA := Lib.hid (rget_any _ d _ j nm wr.drew (hJr.below (Below.refl _ _).drew (Nat.le_refl _)))
        have GB := Lib.hid (rget_any _ d _ j nm (wr.alloc (.cells #[.int .i64 0, .int .i64 0, .int .i64 0, .string ⟨#[]⟩, .slice none 0 0, .slice none 0 0] 27)).drew (hJr.below ((Below.refl _ _).alloc (Nat.le_refl _) _).drew (Nat.le_refl _)))
        unfold RG at GA GB
        generalize getS j nm = G at *
        go_upto_region 6 with fail
        go_cut [6, 7] from 23 to 32 (fun s6 s7 wy => Hid (XB wr d G s6 s7 wy))
        case first =>
          go_region_law (first
            | (go_simp; go_at_call 9; (with_reducible refine (GA.out).mono ?_); rintro e5 w5 ⟨k5, m5, e5', t5, an5, nn5, cn5, ai5, ni5, ci5, rfl, hJ5, hb5⟩; have HB5 := Lib.hid (((Below.refl _ _).drew).trans hb5 : Below wr.heap.size wr w5); have HJ5 := Lib.hid (hJ5.below hb5 (Nat.le_refl _)))
            | (go_simp; go_at_call 9; (with_reducible refine (GB.out).mono ?_); rintro e5 w5 ⟨k5, m5, e5', t5, an5, nn5, cn5, ai5, ni5, ci5, rfl, hJ5, hb5⟩; have HZ5 := Lib.hid ((hb5.block _ (by show wr.heap.size < (wr.alloc (.cells #[.int .i64 0, .int .i64 0, .int .i64 0, .string ⟨#[]⟩, .slice none 0 0, .slice none 0 0] 27)).heap.size; simp)).trans (heap_alloc_new wr (.cells #[.int .i64 0, .int .i64 0, .int .i64 0, .string ⟨#[]⟩, .slice none 0 0, .slice none 0 0] 27)) : w5.heap[wr.heap.size]? = some (.cells #[.int .i64 0, .int .i64 0, .int .i64 0, .string ⟨#[]⟩, .slice none 0 0, .slice none 0 0] 27)); obtain ⟨⟨z0, z1, z2, z3, z4, z5⟩, g0, g1, g2, g3, g4, g5⟩ := twelve_of HZ5.out; have HB5 := Lib.hid ((((Below.refl _ _).alloc (Nat.le_refl _) _).drew).trans (hb5.mono (by show wr.heap.size ≤ (wr.alloc (.cells #[.int .i64 0, .int .i64 0, .int .i64 0, .string ⟨#[]⟩, .slice none 0 0, .slice none 0 0] 27)).heap.size; simp)) : Below wr.heap.size wr w5); have HJ5 := Lib.hid (hJ5.below hb5 (Nat.le_refl _))))
          all_goals go_wp2_with fail
          all_goals go_meet
          all_goals first
            | (with_reducible exact Lib.hid (XB.ofA HB5.out HJ5.out))
            | (with_reducible exact Lib.hid (XB.ofB HB5.out HZ5.out HJ5.out))
        case rest =>
          obtain ⟨bx, k6, m6, e6, t6, an6, nn6, cn6, ai6, ni6, ci6, rfl, rfl, hb6, hbx6, hJ6⟩ := hcut.out
          obtain ⟨gx, gb⟩ := G
          have HB6 := Lib.hid (HW.out.trans (hb6.mono HW.out.size))
          clear x0 x1 x2 x3 x4 y0 y1 y2 y3 y4 y5 GA GB hJr hblr hvbl hcut
          obtain ⟨x0, x1, x2, x3, x4⟩ := (hu.keep ((hbw.trans (hb6.mono hbw.size)).block b hbl)).five
          obtain ⟨p0, p1, p2, p3, p4, p5⟩ := six_of hbx6
          have rx0 := cell_regrown x0
          have rx1 := cell_regrown x1
          have rx2 := cell_regrown x2
          have rx3 := cell_regrown x3
          have rx4 := cell_regrown x4
          have rp0 := cell_regrown p0
          have rp1 := cell_regrown p1
          have rp2 := cell_regrown p2
          have rp3 := cell_regrown p3
          have rp4 := cell_regrown p4
          have rp5 := cell_regrown p5
          have C1 := Lib.hid (fun (dd : Nat) (os : Array Obj) => Calls.regrown_of (w := wc) (d := dd) (os := os) (rfits_any Any d _ gx ⟨nm, fk, lo, hi, fr⟩ _ (hJ6.below (below_regrown wc dd os) (Nat.le_refl _))))
          unfold fdV at C1
          simp only at C1 HCK
          clear hu hJ6 hbx6 hb6 hbw
          cases gb with
          | false =>
            cases fr with
            | true =>
              have HBN := HB6
              go_wp2_with fail
              go_roundw
              case rel => exact ⟨q + 1, by omega, by go_num, HBN, by show _ = _; rw [← HK.out, HCK.out]; simp⟩
              case measure => simp [intOf]; omega
            | false =>
              go_wp2_with fail
              go_ret
              exact ⟨Quo.ret_int (by rw [← HK.out, HCK.out]; simp), HB0.out.trans (HB6.out.mono HB0.out.size)⟩
          | true =>
            cases hf : fitB gx ⟨nm, fk, lo, hi, fr⟩ with
            | true =>
              rw [hf] at C1 HCK
              clear hf
              go_upto_region 10 with fail
              clear x0 x1 x2 x3 x4 p0 p1 p2 p3 p4 p5
              refine wp_region_quiet_below mixed5 (by kernel_rfl) ?_
              repeat (quiet_step (with_reducible exact C1.out _ _))
              refine wpQuiet_nil ?_
              intro _ hw'
              obtain ⟨⟨dq, osq⟩, hw''⟩ := hw'
              subst hw''
              have HBN := Lib.hid (HB6.out.trans ((below_regrown wc dq osq).mono HB6.out.size))
              go_wp2_with fail
              go_roundw
              case rel => exact ⟨q + 1, by omega, by go_num, HBN, by show _ = _; rw [← HK.out, HCK.out]; simp⟩
              case measure => simp [intOf]; omega
            | false =>
              rw [hf] at C1 HCK
              clear hf
              go_upto_region 10 with fail
              clear x0 x1 x2 x3 x4 p0 p1 p2 p3 p4 p5
              refine wp_region_quiet_below mixed5 (by kernel_rfl) ?_
              repeat (quiet_step (with_reducible exact C1.out _ _))
              refine wpQuiet_nil ?_
              intro _ hw'
              obtain ⟨⟨dq, osq⟩, hw''⟩ := hw'
              subst hw''
              have HBN := Lib.hid (HB6.out.trans ((below_regrown wc dq osq).mono HB6.out.size))
              go_wp2_with fail
              go_ret
              exact ⟨Quo.ret_int (by rw [← HK.out, HCK.out]; simp), HB0.out.trans (HBN.out.mono HB0.out.size)⟩
      · have HE : Hid (R = -1) := by show _ = _; rw [← HK.out, List.drop_of_length_le (by rw [HN.out]; omega), chkL]
        have i1 : ¬ (q : Int) < (n : Int) := by omega
        go_wp2_with fail
        go_ret
        exact ⟨Quo.ret_int HE.out.symm, HB0.out.trans (HW.out.mono HB0.out.size)⟩
  · have hkb : (k != 7) = true := by simpa using hk
    by_cases hn0 : n = 0
    · subst hn0
      have HE : Hid (R = -1) := by
        show _ = _
        rw [← HR.out, List.length_eq_zero_iff.1 HN.out, chkL]
      go_enter Try.func20, Try.ntmps20
      go_wp2_with fail
      go_loopw [5] (fun i wr => i = .int .i64 0 ∧ Hid (Below w.heap.size w wr)) (fun _ _ => 0)
      case atStart => exact ⟨rfl, HB0⟩
      case round =>
        obtain ⟨rfl, HW⟩ := hrel
        go_wp2_with fail
        go_ret
        exact ⟨Quo.ret_int HE.out.symm, HW.out⟩
    · have HE : Hid (R = 0) := by
        show _ = _
        rw [← HR.out]
        obtain ⟨f, r, e⟩ : ∃ f r, fs = f :: r := by
          cases hfs : fs with
          | nil => exact absurd (by rw [← HN.out, hfs]; rfl) hn0
          | cons f r => exact ⟨f, r, rfl⟩
        rw [e, chkL, if_neg (fun x => hk (HJK.out.symm.trans x.1))]
        rfl
      have i1 : (0 : Int) < (n : Int) := by omega
      go_enter Try.func20, Try.ntmps20
      go_wp2_with fail
      go_ret
      exact ⟨Quo.ret_int HE.out.symm, HB0.out⟩
end Go.Proofs.Ytkmiemaigalgpaa.Js
