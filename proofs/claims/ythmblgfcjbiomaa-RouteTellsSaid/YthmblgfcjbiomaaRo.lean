import Derived.Test.YthmblgfcjbiomaaRn
/- way: are edges a way? -/
set_option linter.unusedVariables false
set_option linter.unusedSimpArgs false
namespace Go.Proofs.Ythmblgfcjbiomaa.Rt
open Go.RowKit Ly

/-- Numbers of edges that are a way. -/
theorem WayL.cat {es : List Ed} {bl : List Int} {a b c : Int} {ks ls : List Nat} (h : WayL es bl b a ks) (k : WayL es bl c b ls) : WayL es bl c a (ks ++ ls) := h.trans k
theorem toI_len (ks : List Nat) : (toI ks).length = ks.length := by simp [toI]
theorem toI_append (ks ls : List Nat) : toI (ks ++ ls) = toI ks ++ toI ls := by simp [toI]
theorem ati_toI {ks : List Nat} {i : Nat} (h : i < ks.length) : ati (toI ks) i = ((ks.getD i 0 : Nat) : Int) := by
  rw [ati_lt (by rw [toI_len]; exact h)]
  simp [toI, h]
theorem costI_toI {es : List Ed} : ∀ {ks : List Nat}, (∀ k ∈ ks, k < es.length) → costI es (toI ks) = costL es ks
  | [], _ => rfl
  | k :: r, h => by
    have := costI_toI (ks := r) fun x hx => h x (by simp [hx])
    show costI es ((k : Int) :: toI r) = _
    simp only [costI, costL]
    rw [if_pos ⟨by omega, by simpa using h k (by simp)⟩, this, Int.toNat_natCast]
set_option maxHeartbeats 8000000 in
set_option maxRecDepth 100000 in
theorem way12_any {n : Int} {es : List Ed} {w : World} (v bv kv : Value) (hv : EdgesAt w v es) (bl : List Int) (hb : IntsAt w bv bl) (ks : List Nat) (hk : IntsAt w kv (toI ks)) (hr : RightL n es) (a b : Int) (hw : WayL es bl b a ks) (hl : ks.length ≤ 1000000) :
    Calls Try.prog 23 #[.agg #[.int .i64 n, v], bv, kv, .int .i64 a, .int .i64 b] w (Ret (.bool true) w) := by
  have HB0 : Hid (Below w.heap.size w (w.alloc (.cells #[.int .i64 n, v] 24))) := (Below.refl _ w).alloc (Nat.le_refl _) _
  have HX0 := Lib.hid (BoxAt.new n v w)
  have HE := Lib.hid (hv.below HB0.out (Nat.le_refl _))
  have HI := Lib.hid (hb.below HB0.out (Nat.le_refl _))
  have HKS := Lib.hid (hk.below HB0.out (Nat.le_refl _))
  obtain ⟨Q, HQ⟩ : ∃ Q, Hid (Ret (.bool true) w = Q) := ⟨_, rfl⟩
  rw [HQ.out]
  obtain ⟨eo, ce, rfl⟩ := slE hv
  obtain ⟨bo, cb, rfl⟩ := slI hb
  obtain ⟨ko, ck, rfl⟩ := slI hk
  rw [toI_len] at *
  have h120 : es.length ≤ 120 := hr.2.2.1
  have HEND := Lib.hid hw.at.1
  have HAT := Lib.hid hw.at.2
  have c1 := HX0.out.c1
  clear hv hb hk hw
  go_enter Try.func23, Try.ntmps23
  go_upto_region 1 with fail
  generalize w.alloc (.cells #[.int .i64 n, .slice eo es.length ce] 24) = w0 at *
  clear c1
  go_wp2_with fail
  go_loopw [11, 12] (fun nd i wr => ∃ k : Nat, k ≤ ks.length ∧ i = .int .i64 k ∧ nd = .int .i64 (nodeAt es a ks k) ∧ Hid (Below w0.heap.size w0 wr)) (fun _ i _ => ks.length - (intOf i).toNat)
  case atStart => exact ⟨0, Nat.zero_le _, rfl, rfl, Below.refl _ _⟩
  case round =>
    obtain ⟨i, hi, rfl, rfl, HBW⟩ := hrel
    by_cases hlt : i < ks.length
    · obtain ⟨hk1, hk2, hk3⟩ := HAT.out i hlt
      have HN : Hid (nodeAt es a ks (i + 1) = (ate es (ks.getD i 0)).2.1) := rfl
      obtain ⟨ka, kc, he1, he2, he3⟩ := HKS.out
      rw [toI_len] at he1 he3
      cases he1
      obtain ⟨kb, kof, rfl, lk, hks⟩ := he3 (by omega)
      have hlk : i < (toI ks).length := by rw [toI_len]; exact hlt
      have g0 := (HBW.out.cell (p := ⟨kb, kof + i, none⟩) lk).trans (hks i hlt)
      rw [ati_toI hlt] at g0
      have G0 : Hid (w0.cell? ⟨kb, kof + i, none⟩ = some (.int .i64 (ks.getD i 0 : Nat))) := by have := hks i hlt; rw [ati_toI hlt] at this; exact this
      generalize ks.getD i 0 = k at *
      obtain ⟨ea, ec, hf1, hf2, hf3⟩ := HE.out
      cases hf1
      obtain ⟨eb, eof, rfl, le, hes⟩ := hf3 (by omega)
      have g1 := (HBW.out.cell (p := ⟨eb, eof + k * 3, none⟩) le).trans (hes k hk1).1
      have g2 := (HBW.out.cell (p := ⟨eb, eof + k * 3 + 1, none⟩) le).trans (hes k hk1).2.1
      have c1 := (HX0.out.below HBW.out).c1
      rw [hk3] at g1
      have HNB : Hid ((ate es k).2.1 ∉ bl) := mayB_iff.1 hk2
      have HC := Lib.hid (fun u => (has12_any bl (ate es k).2.1 _ (wr.drewN u) (HI.out.below (HBW.out.trans ⟨rfl, rfl, rfl, Nat.le_refl _, fun _ _ => rfl⟩) (Nat.le_refl _)) false (by simpa using HNB.out)).mono fun e w' ⟨h1, h2⟩ => (⟨h1, h2.symm⟩ : e = _ ∧ w' = wr.drewN u))
      have G2 := Lib.hid (hes k hk1).2.1
      clear he2 he3 hks hf2 hf3 hes hk2 hk3
      generalize (ate es k).2.1 = y at *
      generalize nodeAt es a ks i = nd at *
      have dk0 : decide ((k : Int) < 0) = false := by simp
      have dk1 : decide (es.length ≤ k) = false := by simp; omega
      go_upto_region 5 with fail
      go_quiet ((go_at_call 21; refine Calls.quiet_of_same (HC.out _)))
      have HB5 : Hid (Below w0.heap.size w0 (wr.drewN nq)) := HBW.out.trans ⟨rfl, rfl, rfl, Nat.le_refl _, fun _ _ => rfl⟩
      clear HC
      go_upto_region 7 with fail
      have g3 := (HB5.out.cell (p := ⟨kb, kof + i, none⟩) lk).trans G0.out
      have g4 := (HB5.out.cell (p := ⟨eb, eof + k * 3 + 1, none⟩) le).trans G2.out
      have c3 := (HX0.out.below HB5.out).c1
      clear g0 g1 g2 c1
      generalize wr.drewN nq = w5 at *
      go_quiet (fail)
      go_wp2_with fail
      go_roundw
      case rel => exact ⟨i + 1, by omega, by go_num, by rw [HN.out], ⟨HB5.out.os, HB5.out.tape, HB5.out.output, HB5.out.size, HB5.out.block⟩⟩
      case measure => simp [intOf]; omega
    · obtain rfl : i = ks.length := by omega
      rw [HEND.out]
      have HF : Hid (Q (.returned (.bool true)) wr) := by
        show Q _ _
        rw [← HQ.out]
        exact ⟨rfl, HB0.out.trans (HBW.out.mono HB0.out.size)⟩
      go_wp2_with fail
      exact HF.out
end Go.Proofs.Ythmblgfcjbiomaa.Rt
