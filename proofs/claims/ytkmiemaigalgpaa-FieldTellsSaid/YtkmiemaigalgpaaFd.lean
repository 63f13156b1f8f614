import Derived.Test.YtkmiemaigalgpaaFc
/- Layer 5: the contracts of fit, of tell in its six uses, of Get, Num, Text, Flag and List. -/
set_option linter.unusedVariables false
set_option linter.unusedSimpArgs false
namespace Go.Proofs.Ytkmiemaigalgpaa.Js
open Go.RowKit Lex

theorem belowOne (w : World) (o : Obj) : Below w.heap.size w (w.alloc o) := (Below.refl _ _).alloc (Nat.le_refl _) _
theorem two_boxes' {w w1 : World} {C D : Array Value} {T U : TypeId} (hb : Below ((w.alloc (.cells C T)).alloc (.cells D U)).heap.size ((w.alloc (.cells C T)).alloc (.cells D U)) w1) :
    w1.heap[w.heap.size]? = some (.cells C T (0, 0)) ∧ w1.heap[w.heap.size + 1]? = some (.cells D U (0, 0)) ∧ w.heap.size + 1 < w1.heap.size ∧ Below w.heap.size w w1 := by
  have hs := hb.size
  simp at hs
  exact ⟨by rw [hb.block _ (by simp; omega)]; exact two_old w _ _, by rw [hb.block _ (by simp)]; exact two_new w _ _, by omega, (((Below.refl _ _).alloc (Nat.le_refl _) _).alloc (by simp) _).trans (hb.mono (by simp; omega))⟩
theorem fiveOf {w : World} {b : Nat} {T : TypeId} {f : Nat × Nat} {c0 c1 c2 c3 c4 : Value} (h : w.heap[b]? = some (.cells #[c0, c1, c2, c3, c4] T f)) :
    w.cell? ⟨b, 0, none⟩ = some c0 ∧ w.cell? ⟨b, 1, none⟩ = some c1 ∧ w.cell? ⟨b, 2, none⟩ = some c2 ∧ w.cell? ⟨b, 3, none⟩ = some c3 ∧ w.cell? ⟨b, 4, none⟩ = some c4 := by
  have k : ∀ i, w.cell? ⟨b, i, none⟩ = (#[c0, c1, c2, c3, c4] : Array Value)[i]? := fun i => cell_of_row _ _ _ _ _ _ h
  exact ⟨k 0, k 1, k 2, k 3, k 4⟩
theorem below_call2 {w w1 : World} {o1 o2 : Obj} (hb : Below ((w.alloc o1).alloc o2).heap.size ((w.alloc o1).alloc o2) w1) : Below w.heap.size w w1 := (belowTwo w o1 o2).trans (hb.mono (by simp; omega))

theorem fitB_mk (k m e : Int) (t : List UInt8) (ns : List (List UInt8)) (is : List J) (nm : List UInt8) (fk lo hi : Int) (fr : Bool) : fitB (.mk k m e t ns is) ⟨nm, fk, lo, hi, fr⟩ =
    (if fk = 8 then (flagS (.mk k m e t ns is)).2 else if k ≠ fk then false else if fk = 4 then (numS (.mk k m e t ns is)).2 && inB (numS (.mk k m e t ns is)).1 ⟨nm, fk, lo, hi, fr⟩ else if fk = 5 then inB t.length ⟨nm, fk, lo, hi, fr⟩ else if fk = 6 then inB is.length ⟨nm, fk, lo, hi, fr⟩ else true) := rfl
set_option maxHeartbeats 4000000 in
set_option maxRecDepth 100000 in
theorem fit5_any (S : Nat → Prop) (d : Nat) (v : Value) (j : J) (f : Fd) (w : World) (h : JAt S w d v j) : Calls Try.prog 50 #[v, fdV f] w (Ret (.bool (fitB j f)) w) := by
  have hJ := Lib.hid h
  obtain ⟨k, m, e, t, ns, is⟩ := j
  obtain ⟨d', an, cn, ai, ci, hd', rfl, hk, hm, he, ht, hns, hn1, hn, hi1, hi, hit⟩ := h.open_
  have NU := Lib.hid (fun (w' : World) (hb : Below w.heap.size w w') => number_any S d _ _ w' (hJ.out.below hb (Nat.le_refl _)))
  have FL := Lib.hid (fun (w' : World) (hb : Below w.heap.size w w') => flag_any S d _ _ w' (hJ.out.below hb (Nat.le_refl _)))
  obtain ⟨nm, fk, lo, hi', fr⟩ := f
  have WI := Lib.hid (fun n w' => within5_any n ⟨nm, fk, lo, hi', fr⟩ w')
  clear h hJ hns hit hd' hk hm he ht
  rw [fitB_mk]
  unfold fdV at *
  simp only at WI ⊢
  have hts : (⟨t.toArray⟩ : ByteArray).size = t.length := Lex.bs_size t
  by_cases h8 : fk = 8
  · subst h8
    rw [if_pos rfl]
    generalize flagS (J.mk k m e t ns is) = R at *
    obtain ⟨r1, r2⟩ := R
    go_enter Try.func50, Try.ntmps50
    go_wp2_with (go_at_call 38; (with_reducible refine (FL.out _ (belowTwo _ _ _)).mono ?_); rintro e1 w1 ⟨rfl, hb1⟩)
    go_ret
    exact ⟨rfl, below_call2 hb1⟩
  · rw [if_neg h8]
    have b8 : (fk == 8) = false := by simpa using h8
    by_cases hkk : k = fk
    · subst hkk
      rw [if_neg (show ¬ (k ≠ k) from fun h => h rfl)]
      by_cases h4 : k = 4
      · subst h4
        rw [if_pos rfl]
        generalize numS (J.mk 4 m e t ns is) = R at *
        obtain ⟨r1, r2⟩ := R
        have W1 := Lib.hid (WI.out r1)
        simp only
        generalize inB r1 ⟨nm, 4, lo, hi', fr⟩ = rb at *
        cases r2 with
        | true =>
          go_enter Try.func50, Try.ntmps50
          go_wp2_with (first
            | (go_at_call 33; (with_reducible refine (NU.out _ (belowTwo _ _ _)).mono ?_); rintro e1 w1 ⟨rfl, hb1⟩; obtain ⟨x1, x2, x3, hbw⟩ := two_boxes' hb1; obtain ⟨p0, p1, p2, p3, p4⟩ := fiveOf x2)
            | (go_at_call 55; (with_reducible refine (W1.out _).mono ?_); rintro e2 w2 ⟨rfl, hb2⟩))
          go_ret
          exact ⟨rfl, hbw.trans (hb2.mono hbw.size)⟩
        | false =>
          go_enter Try.func50, Try.ntmps50
          go_wp2_with (go_at_call 33; (with_reducible refine (NU.out _ (belowTwo _ _ _)).mono ?_); rintro e1 w1 ⟨rfl, hb1⟩)
          go_ret
          exact ⟨rfl, below_call2 hb1⟩
      · rw [if_neg h4]
        have b4 : (k == 4) = false := by simpa using h4
        by_cases h5 : k = 5
        · subst h5
          rw [if_pos rfl]
          have W1 := Lib.hid (WI.out t.length)
          generalize inB t.length ⟨nm, 5, lo, hi', fr⟩ = rb at *
          go_enter Try.func50, Try.ntmps50
          go_wp2_with (go_at_call 55; (with_reducible refine (W1.out _).mono ?_); rintro e2 w2 ⟨rfl, hb2⟩)
          go_ret
          exact ⟨rfl, below_call2 hb2⟩
        · rw [if_neg h5]
          have b5 : (k == 5) = false := by simpa using h5
          by_cases h6 : k = 6
          · subst h6
            rw [if_pos rfl]
            have W1 := Lib.hid (WI.out is.length)
            generalize inB is.length ⟨nm, 6, lo, hi', fr⟩ = rb at *
            go_enter Try.func50, Try.ntmps50
            go_wp2_with (go_at_call 55; (with_reducible refine (W1.out _).mono ?_); rintro e2 w2 ⟨rfl, hb2⟩)
            go_ret
            exact ⟨rfl, below_call2 hb2⟩
          · rw [if_neg h6]
            have b6 : (k == 6) = false := by simpa using h6
            go_enter Try.func50, Try.ntmps50
            go_wp2_with fail
            go_ret
            exact ⟨rfl, belowTwo _ _ _⟩
    · rw [if_pos hkk]
      have bk : (k != fk) = true := by simpa using hkk
      go_enter Try.func50, Try.ntmps50
      go_wp2_with fail
      go_ret
      exact ⟨rfl, belowTwo _ _ _⟩
end Go.Proofs.Ytkmiemaigalgpaa.Js
