import Derived.Test.YtgfkpfppdoeifaaGreatDoorRd
/- The reader: name, until. -/
set_option linter.unusedVariables false
set_option linter.unusedSimpArgs false
namespace Go.Proofs.YtgfkpfppdoeifaaGreatDoor.Js
open Go.RowKit Lex

/-- All that was there is as it was but for the blocks in X. -/
structure Chg (X : Nat → Prop) (w w' : World) : Prop where
  os : w'.os = w.os
  tape : w'.tape = w.tape
  output : w'.output = w.output
  size : w.heap.size ≤ w'.heap.size
  block : ∀ k, k < w.heap.size → ¬ X k → w'.heap[k]? = w.heap[k]?
theorem Chg.refl (X : Nat → Prop) (w : World) : Chg X w w := ⟨rfl, rfl, rfl, Nat.le_refl _, fun _ _ _ => rfl⟩
theorem Chg.trans {X : Nat → Prop} {a b c : World} (h : Chg X a b) (k : Chg X b c) : Chg X a c :=
  ⟨k.os.trans h.os, k.tape.trans h.tape, k.output.trans h.output, Nat.le_trans h.size k.size, fun i hi hx => (k.block i (Nat.lt_of_lt_of_le hi h.size) hx).trans (h.block i hi hx)⟩
theorem Chg.mono {X Y : Nat → Prop} {w w' : World} (h : Chg X w w') (hX : ∀ k, k < w.heap.size → X k → Y k) : Chg Y w w' := ⟨h.os, h.tape, h.output, h.size, fun k hk hx => h.block k hk (fun hy => hx (hX k hk hy))⟩
theorem Chg.of_below {X : Nat → Prop} {w w' : World} (h : Below w.heap.size w w') : Chg X w w' := ⟨h.os, h.tape, h.output, h.size, fun k hk _ => h.block k hk⟩
theorem Chg.of_moves {x : Nat} {w w' : World} (h : Moves w.heap.size x w w') : Chg (· = x) w w' := ⟨h.os, h.tape, h.output, h.size, fun k hk hx => h.block k hk hx⟩
theorem Chg.alloc {X : Nat → Prop} {a w : World} (h : Chg X a w) (o : Obj) : Chg X a (w.alloc o) := h.trans (.of_below ((Below.refl _ _).alloc (Nat.le_refl _) _))
theorem Chg.drew {X : Nat → Prop} {a w : World} (h : Chg X a w) : Chg X a w.drew := ⟨h.os, h.tape, h.output, h.size, h.block⟩
theorem Chg.setCell {X : Nat → Prop} {a w : World} (h : Chg X a w) {p : Addr} (hp : X p.block ∨ a.heap.size ≤ p.block) (u : Value) : Chg X a (w.setCell p u) :=
  ⟨h.os, h.tape, h.output, by simpa [World.setCell] using h.size, fun k hk hx => (Below.heap_setCell _ _ _ _ (fun e => by subst e; rcases hp with hp | hp; exact hx hp; omega)).trans (h.block k hk hx)⟩
theorem Chg.grown {X : Nat → Prop} {a w w' : World} {row : Option Nat} (h : Chg X a w) (hg : w.grownBy w' row) (hr : ∀ k, row = some k → X k ∨ a.heap.size ≤ k) : Chg X a w' :=
  ⟨hg.os.trans h.os, hg.tape.trans h.tape, hg.output.trans h.output, Nat.le_trans h.size hg.size, fun k hk hx => (hg.block k (Nat.lt_of_lt_of_le hk h.size) (fun e => by rcases hr k e.symm with h' | h'; exact hx h'; omega)).trans (h.block k hk hx)⟩
theorem Chg.below {X : Nat → Prop} {w w' : World} {B : Nat} (h : Chg X w w') (hB : B ≤ w.heap.size) (hX : ∀ k, X k → B ≤ k) : Below B w w' := ⟨h.os, h.tape, h.output, h.size, fun k hk => h.block k (by omega) (fun hx => by have := hX k hx; omega)⟩

/-- How until goes: a step for each, then the closing sign or a comma. -/
def untilS {σ : Type} (step : σ → List Tok → Int × σ × List Tok) (close : UInt8) : Nat → σ → List Tok → Int × σ × List Tok
  | 0, st, l => (40, st, l)
  | n + 1, st, l =>
    if (step st l).1 = 0 then
      match (step st l).2.2 with
      | [] => (40, (step st l).2.1, [])
      | y :: l' => if sgB y close = true then (0, (step st l).2.1, l') else if sgB y 44 = true then untilS step close n (step st l).2.1 l' else (40, (step st l).2.1, y :: l')
    else step st l

/-- What a step of a closure does: it goes on with its state, or tells an error. -/
def StepOk {σ : Type} (fn : FuncId) (caps : Array Value) (X : Nat → Prop) (Inv : σ → World → Prop) (Bad : World → Prop) (step : σ → List Tok → Int × σ × List Tok) (cnt : σ → Nat) (rb bt cap : Nat) (ts : List Tok) : Prop :=
  ∀ st l w, Inv st w → Rd w rb bt cap ts l → cnt st + l.length ≤ ts.length → Calls Tryz.prog fn caps w fun e w' => e = .returned (.int .i64 (step st l).1) ∧ Rd w' rb bt cap ts (step st l).2.2 ∧ Chg X w w' ∧ ((step st l).1 = 0 → Inv (step st l).2.1 w') ∧ Bad w' ∧ ((step st l).1 = 0 → (step st l).2.2.length < l.length)

/-- Where a reader is. -/
def posOf (w : World) (rb : Nat) : Nat := match w.cell? ⟨rb, 1, none⟩ with
  | some v => (intOf v).toNat
  | none => 0
theorem Rd.pos {w : World} {rb bt cap : Nat} {ts l : List Tok} (h : Rd w rb bt cap ts l) : ts.length - posOf w rb = l.length := by
  unfold posOf
  rw [(two_of h.blk).2]
  have := h.suf.length_le
  simp [intOf]
  omega
theorem ex_cons {l : List Tok} (h : EndL l) : ∃ y r, l = y :: r := by
  cases l with
  | nil => exact absurd rfl h.ne
  | cons y r => exact ⟨y, r, rfl⟩
set_option maxHeartbeats 2000000 in
set_option maxRecDepth 100000 in
theorem until_arr {σ : Type} (caps : Array Value) (X : Nat → Prop) (Inv : σ → World → Prop) (Bad : World → Prop) (step : σ → List Tok → Int × σ × List Tok) (cnt : σ → Nat) (hcnt : ∀ st l, cnt (step st l).2.1 ≤ cnt st + 1) (rb bt cap : Nat) (ts : List Tok) (close : UInt8) (s : ByteArray) (hs : (⟨#[close]⟩ : ByteArray) = s)
    (hX : X rb) (hst : StepOk 129 caps X Inv Bad step cnt rb bt cap ts) (hki : ∀ st w w', Inv st w → Chg (· = rb) w w' → Inv st w') (hkb : ∀ w w', Bad w → Chg (· = rb) w w' → Bad w') (hib : ∀ st w, Inv st w → Bad w)
    (st : σ) (x : Tok) (l : List Tok) (w : World) (hI : Inv st w) (hR : Rd w rb bt cap ts (x :: l)) (hc0 : cnt st + (x :: l).length ≤ ts.length) :
    Calls Tryz.prog 128 #[.pointer (some ⟨rb, 0, none⟩), .string s, .func (.func 129) #[] caps] w fun e w' =>
      let r := if sgB x close = true then (0, st, l) else untilS step close (x :: l).length st (x :: l)
      e = .returned (.int .i64 r.1) ∧ Rd w' rb bt cap ts r.2.2 ∧ Chg X w w' ∧ (r.1 = 0 → Inv r.2.1 w') ∧ Bad w' := by
  have T1 := Lib.hid (take_any hR close s hs)
  have HI := Lib.hid hI
  have HR := Lib.hid hR
  have HST := Lib.hid hst
  have hmX : ∀ {w w'}, Chg (· = rb) w w' → Chg X w w' := fun h => h.mono (fun k _ e => by subst e; exact hX)
  have HM : Hid (∀ w w', Chg (· = rb) w w' → Chg X w w') := fun w w' h => hmX h
  have HKI := Lib.hid hki
  have HKB := Lib.hid hkb
  have HIB := Lib.hid hib
  have HC0 := Lib.hid hc0
  have HCN := Lib.hid hcnt
  clear hI hR hst hmX hki hkb hib hX hc0 hcnt
  cases hc : sgB x close with
  | true =>
    rw [hc] at T1
    simp only [if_true] at T1 ⊢
    go_enter Tryz.func128, Tryz.ntmps128
    go_wp2_with (go_at_call 159; (with_reducible refine (T1.out).mono ?_); rintro e1 w1 ⟨rfl, hR1, hm1⟩)
    go_ret
    have hc1 := Chg.of_moves hm1
    exact ⟨rfl, hR1, HM.out _ _ hc1, fun _ => HKI.out _ _ _ HI.out hc1, HKB.out _ _ (HIB.out _ _ HI.out) hc1⟩
  | false =>
    rw [hc] at T1
    simp only [Bool.false_eq_true, if_false] at T1 ⊢
    obtain ⟨R, HRR⟩ : ∃ R, Hid (untilS step close (x :: l).length st (x :: l) = R) := ⟨_, rfl⟩
    rw [HRR.out]
    go_enter Tryz.func128, Tryz.ntmps128
    go_wp2_with (go_at_call 159; (with_reducible refine (T1.out).mono ?_); rintro e1 w1 ⟨rfl, hR1, hm1⟩)
    have hc1 := Chg.of_moves hm1
    have HI1 := Lib.hid (HKI.out _ _ _ HI.out hc1)
    have HC1 := Lib.hid (HM.out _ _ hc1)
    have HSZ := Lib.hid hR1.suf.length_le
    clear hm1 hc1 T1 HI HR
    go_loopw [] (fun wr => ∃ (n : Nat) (st' : σ) (l' : List Tok), Rd wr rb bt cap ts l' ∧ Hid (Inv st' wr) ∧ Hid (Chg X w wr) ∧ Hid (R = untilS step close n st' l') ∧ l'.length ≤ n ∧ cnt st' + l'.length ≤ ts.length) (fun wr => ts.length - posOf wr rb)
    case atStart => exact ⟨_, st, x :: l, hR1, HI1, HC1, HRR.out.symm, Nat.le_refl _, HC0.out⟩
    case round =>
      clear HRR HI1 HC1 hR1
      obtain ⟨n, st', l', hR1, HI1, HC1, HRR, hn, hcl⟩ := hrel
      have hpos := hR1.pos
      have hll := hR1.fin.ne
      have hl0 : 0 < l'.length := List.length_pos_iff.2 hll
      obtain ⟨n', rfl⟩ : ∃ n', n = n' + 1 := ⟨n - 1, by omega⟩
      have C := Lib.hid (HST.out st' l' wr HI1.out hR1 hcl)
      have HCS := Lib.hid (HCN.out st' l')
      have HU := Lib.hid (show untilS step close (n' + 1) st' l' = _ from by rw [untilS])
      generalize step st' l' = S at *
      obtain ⟨E, st2, l2⟩ := S
      simp only at C HU HCS
      clear hR1 HI1
      by_cases hE : E = 0
      · subst hE
        simp only [if_true, true_implies, forall_const] at HU C
        go_wp2_with (go_at_call 129; (with_reducible refine (C.out).mono ?_); rintro e1 w2 ⟨rfl, hR2, hc2, hI2, hb2, hlt2⟩)
        obtain ⟨y, l3, rfl⟩ := ex_cons hR2.fin
        have hc02 := HC1.out.trans hc2
        simp only at HU
        have T2 := take_any hR2 close s hs
        cases hy : sgB y close with
        | true =>
          rw [hy] at T2 HU
          simp only [if_true] at T2 HU
          (with_reducible refine T2.mono ?_)
          rintro e2 w3 ⟨rfl, hR3, hm3⟩
          have hc3 := Chg.of_moves hm3
          go_wp2_with fail
          go_ret
          rw [HRR.out, HU.out]
          exact ⟨rfl, hR3, hc02.trans (HM.out _ _ hc3), fun _ => HKI.out _ _ _ hI2 hc3, HKB.out _ _ hb2 hc3⟩
        | false =>
          rw [hy] at T2 HU
          simp only [Bool.false_eq_true, if_false] at T2 HU
          (with_reducible refine T2.mono ?_)
          rintro e2 w3 ⟨rfl, hR3, hm3⟩
          have hc3 := Chg.of_moves hm3
          have T3 := take_any hR3 44 ⟨#[44]⟩ rfl
          have HI3 := Lib.hid (HKI.out _ _ _ hI2 hc3)
          have HB3 := Lib.hid (HKB.out _ _ hb2 hc3)
          have hc03 := hc02.trans (HM.out _ _ hc3)
          clear T2 hR3 hR2 hI2 hb2 hc2 hc02 hm3 hc3 C
          cases hz : sgB y 44 with
          | true =>
            rw [hz] at T3 HU
            simp only [if_true] at T3 HU
            go_wp2_with fail
            (with_reducible refine T3.mono ?_)
            rintro e3 w4 ⟨rfl, hR4, hm4⟩
            have hc4 := Chg.of_moves hm4
            have hpos4 := hR4.pos
            go_wp2_with fail
            go_roundw
            case rel => exact ⟨n', st2, l3, hR4, HKI.out _ _ _ HI3.out hc4, hc03.trans (HM.out _ _ hc4), HRR.out.trans HU.out, by simp at hlt2; omega, by have := HCS.out; simp at hlt2; omega⟩
            case measure => rw [hpos4, hpos]; simp at hlt2; omega
          | false =>
            rw [hz] at T3 HU
            simp only [Bool.false_eq_true, if_false] at T3 HU
            go_wp2_with fail
            (with_reducible refine T3.mono ?_)
            rintro e3 w4 ⟨rfl, hR4, hm4⟩
            have hc4 := Chg.of_moves hm4
            go_wp2_with fail
            go_ret
            rw [HRR.out, HU.out]
            exact ⟨rfl, hR4, hc03.trans (HM.out _ _ hc4), fun h => absurd (show (40 : Int) = 0 from h) (by decide), HKB.out _ _ HB3.out hc4⟩
      · have hne : (E != 0) = true := by simpa using hE
        rw [if_neg hE] at HU
        go_wp2_with (go_at_call 129; (with_reducible refine (C.out).mono ?_); rintro e1 w2 ⟨rfl, hR2, hc2, hI2, hb2, hlt2⟩)
        go_ret
        rw [HRR.out, HU.out]
        exact ⟨rfl, hR2, HC1.out.trans hc2, fun h => absurd h hE, hb2⟩
set_option maxHeartbeats 2000000 in
set_option maxRecDepth 100000 in
theorem until_obj {σ : Type} (caps : Array Value) (X : Nat → Prop) (Inv : σ → World → Prop) (Bad : World → Prop) (step : σ → List Tok → Int × σ × List Tok) (cnt : σ → Nat) (hcnt : ∀ st l, cnt (step st l).2.1 ≤ cnt st + 1) (rb bt cap : Nat) (ts : List Tok) (close : UInt8) (s : ByteArray) (hs : (⟨#[close]⟩ : ByteArray) = s)
    (hX : X rb) (hst : StepOk 130 caps X Inv Bad step cnt rb bt cap ts) (hki : ∀ st w w', Inv st w → Chg (· = rb) w w' → Inv st w') (hkb : ∀ w w', Bad w → Chg (· = rb) w w' → Bad w') (hib : ∀ st w, Inv st w → Bad w)
    (st : σ) (x : Tok) (l : List Tok) (w : World) (hI : Inv st w) (hR : Rd w rb bt cap ts (x :: l)) (hc0 : cnt st + (x :: l).length ≤ ts.length) :
    Calls Tryz.prog 128 #[.pointer (some ⟨rb, 0, none⟩), .string s, .func (.func 130) #[] caps] w fun e w' =>
      let r := if sgB x close = true then (0, st, l) else untilS step close (x :: l).length st (x :: l)
      e = .returned (.int .i64 r.1) ∧ Rd w' rb bt cap ts r.2.2 ∧ Chg X w w' ∧ (r.1 = 0 → Inv r.2.1 w') ∧ Bad w' := by
  have T1 := Lib.hid (take_any hR close s hs)
  have HI := Lib.hid hI
  have HR := Lib.hid hR
  have HST := Lib.hid hst
  have hmX : ∀ {w w'}, Chg (· = rb) w w' → Chg X w w' := fun h => h.mono (fun k _ e => by subst e; exact hX)
  have HM : Hid (∀ w w', Chg (· = rb) w w' → Chg X w w') := fun w w' h => hmX h
  have HKI := Lib.hid hki
  have HKB := Lib.hid hkb
  have HIB := Lib.hid hib
  have HC0 := Lib.hid hc0
  have HCN := Lib.hid hcnt
  clear hI hR hst hmX hki hkb hib hX hc0 hcnt
  cases hc : sgB x close with
  | true =>
    rw [hc] at T1
    simp only [if_true] at T1 ⊢
    go_enter Tryz.func128, Tryz.ntmps128
    go_wp2_with (go_at_call 159; (with_reducible refine (T1.out).mono ?_); rintro e1 w1 ⟨rfl, hR1, hm1⟩)
    go_ret
    have hc1 := Chg.of_moves hm1
    exact ⟨rfl, hR1, HM.out _ _ hc1, fun _ => HKI.out _ _ _ HI.out hc1, HKB.out _ _ (HIB.out _ _ HI.out) hc1⟩
  | false =>
    rw [hc] at T1
    simp only [Bool.false_eq_true, if_false] at T1 ⊢
    obtain ⟨R, HRR⟩ : ∃ R, Hid (untilS step close (x :: l).length st (x :: l) = R) := ⟨_, rfl⟩
    rw [HRR.out]
    go_enter Tryz.func128, Tryz.ntmps128
    go_wp2_with (go_at_call 159; (with_reducible refine (T1.out).mono ?_); rintro e1 w1 ⟨rfl, hR1, hm1⟩)
    have hc1 := Chg.of_moves hm1
    have HI1 := Lib.hid (HKI.out _ _ _ HI.out hc1)
    have HC1 := Lib.hid (HM.out _ _ hc1)
    have HSZ := Lib.hid hR1.suf.length_le
    clear hm1 hc1 T1 HI HR
    go_loopw [] (fun wr => ∃ (n : Nat) (st' : σ) (l' : List Tok), Rd wr rb bt cap ts l' ∧ Hid (Inv st' wr) ∧ Hid (Chg X w wr) ∧ Hid (R = untilS step close n st' l') ∧ l'.length ≤ n ∧ cnt st' + l'.length ≤ ts.length) (fun wr => ts.length - posOf wr rb)
    case atStart => exact ⟨_, st, x :: l, hR1, HI1, HC1, HRR.out.symm, Nat.le_refl _, HC0.out⟩
    case round =>
      clear HRR HI1 HC1 hR1
      obtain ⟨n, st', l', hR1, HI1, HC1, HRR, hn, hcl⟩ := hrel
      have hpos := hR1.pos
      have hll := hR1.fin.ne
      have hl0 : 0 < l'.length := List.length_pos_iff.2 hll
      obtain ⟨n', rfl⟩ : ∃ n', n = n' + 1 := ⟨n - 1, by omega⟩
      have C := Lib.hid (HST.out st' l' wr HI1.out hR1 hcl)
      have HCS := Lib.hid (HCN.out st' l')
      have HU := Lib.hid (show untilS step close (n' + 1) st' l' = _ from by rw [untilS])
      generalize step st' l' = S at *
      obtain ⟨E, st2, l2⟩ := S
      simp only at C HU HCS
      clear hR1 HI1
      by_cases hE : E = 0
      · subst hE
        simp only [if_true, true_implies, forall_const] at HU C
        go_wp2_with (go_at_call 130; (with_reducible refine (C.out).mono ?_); rintro e1 w2 ⟨rfl, hR2, hc2, hI2, hb2, hlt2⟩)
        obtain ⟨y, l3, rfl⟩ := ex_cons hR2.fin
        have hc02 := HC1.out.trans hc2
        simp only at HU
        have T2 := take_any hR2 close s hs
        cases hy : sgB y close with
        | true =>
          rw [hy] at T2 HU
          simp only [if_true] at T2 HU
          (with_reducible refine T2.mono ?_)
          rintro e2 w3 ⟨rfl, hR3, hm3⟩
          have hc3 := Chg.of_moves hm3
          go_wp2_with fail
          go_ret
          rw [HRR.out, HU.out]
          exact ⟨rfl, hR3, hc02.trans (HM.out _ _ hc3), fun _ => HKI.out _ _ _ hI2 hc3, HKB.out _ _ hb2 hc3⟩
        | false =>
          rw [hy] at T2 HU
          simp only [Bool.false_eq_true, if_false] at T2 HU
          (with_reducible refine T2.mono ?_)
          rintro e2 w3 ⟨rfl, hR3, hm3⟩
          have hc3 := Chg.of_moves hm3
          have T3 := take_any hR3 44 ⟨#[44]⟩ rfl
          have HI3 := Lib.hid (HKI.out _ _ _ hI2 hc3)
          have HB3 := Lib.hid (HKB.out _ _ hb2 hc3)
          have hc03 := hc02.trans (HM.out _ _ hc3)
          clear T2 hR3 hR2 hI2 hb2 hc2 hc02 hm3 hc3 C
          cases hz : sgB y 44 with
          | true =>
            rw [hz] at T3 HU
            simp only [if_true] at T3 HU
            go_wp2_with fail
            (with_reducible refine T3.mono ?_)
            rintro e3 w4 ⟨rfl, hR4, hm4⟩
            have hc4 := Chg.of_moves hm4
            have hpos4 := hR4.pos
            go_wp2_with fail
            go_roundw
            case rel => exact ⟨n', st2, l3, hR4, HKI.out _ _ _ HI3.out hc4, hc03.trans (HM.out _ _ hc4), HRR.out.trans HU.out, by simp at hlt2; omega, by have := HCS.out; simp at hlt2; omega⟩
            case measure => rw [hpos4, hpos]; simp at hlt2; omega
          | false =>
            rw [hz] at T3 HU
            simp only [Bool.false_eq_true, if_false] at T3 HU
            go_wp2_with fail
            (with_reducible refine T3.mono ?_)
            rintro e3 w4 ⟨rfl, hR4, hm4⟩
            have hc4 := Chg.of_moves hm4
            go_wp2_with fail
            go_ret
            rw [HRR.out, HU.out]
            exact ⟨rfl, hR4, hc03.trans (HM.out _ _ hc4), fun h => absurd (show (40 : Int) = 0 from h) (by decide), HKB.out _ _ HB3.out hc4⟩
      · have hne : (E != 0) = true := by simpa using hE
        rw [if_neg hE] at HU
        go_wp2_with (go_at_call 130; (with_reducible refine (C.out).mono ?_); rintro e1 w2 ⟨rfl, hR2, hc2, hI2, hb2, hlt2⟩)
        go_ret
        rw [HRR.out, HU.out]
        exact ⟨rfl, hR2, HC1.out.trans hc2, fun h => absurd h hE, hb2⟩
end Go.Proofs.YtgfkpfppdoeifaaGreatDoor.Js
