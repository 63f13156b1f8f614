import Derived.Test.YthmblgfcjbiomaaHd
/- rise and sink. -/
set_option linter.unusedVariables false
set_option linter.unusedSimpArgs false
namespace Go.Proofs.Ythmblgfcjbiomaa.Hp
open Go.RowKit

theorem less_at {base : Nat} {w : World} {b : Nat} {v : Value} {l : List Pr} (h : HpAt base w b v l) (i j : Nat) (x y : Int) (t : Bool) (hx : x = i) (hy : y = j) (hi : i < l.length) (hj : j < l.length) (ht : ltP (at' l i) (at' l j) = t) :
    Calls Try.prog 46 #[.pointer (some ⟨b, 0, none⟩), .int .i64 x, .int .i64 y] w (fun e w' => e = .returned (.bool t) ∧ Below w.heap.size w w') := by
  subst hx hy ht
  exact less_any h i j hi hj
theorem swap_at {base : Nat} {w : World} {b : Nat} {v : Value} {l : List Pr} (h : HpAt base w b v l) (i j : Nat) (x y : Int) (hx : x = i) (hy : y = j) (hi : i < l.length) (hj : j < l.length) :
    Calls Try.prog 43 #[.pointer (some ⟨b, 0, none⟩), .int .i64 x, .int .i64 y] w (SwapRet base w b v (swapL l i j)) := by
  subst hx hy
  exact swap_any h i j hi hj
/-- What rise and sink leave. -/
def MoveRet (base : Nat) (w : World) (b : Nat) (v : Value) (l : List Pr) (e : Ending) (w' : World) : Prop :=
  e = .returned (.tuple #[]) ∧ ∃ l', HpAt base w' b v l' ∧ Pile l' ∧ l'.Perm l ∧ w.grownBy w' v.ownBlock
/-- Between the rounds. -/
structure RI (base : Nat) (w : World) (b : Nat) (v : Value) (l l' : List Pr) (wr : World) : Prop where
  hp : HpAt base wr b v l'
  perm : l'.Perm l
  grown : w.grownBy wr v.ownBlock
theorem RI.below {base b : Nat} {w wr w' : World} {v : Value} {l l' : List Pr} (h : RI base w b v l l' wr) (hb : Below wr.heap.size wr w') : RI base w b v l l' w' :=
  ⟨h.hp.below hb, h.perm, grown_trans h.grown (grown_below hb)⟩
theorem RI.swap {base b : Nat} {w wr w' : World} {v : Value} {l l' : List Pr} (h : RI base w b v l l' wr) {i j : Nat} (hi : i < l'.length) (hj : j < l'.length) (hp : HpAt base w' b v (swapL l' i j)) (hg : wr.grownBy w' v.ownBlock) : RI base w b v l (swapL l' i j) w' :=
  ⟨hp, (perm_swap hi hj).trans h.perm, grown_trans h.grown hg⟩

set_option maxHeartbeats 4000000 in
theorem rise_any {base : Nat} {w : World} {b : Nat} {v : Value} {l : List Pr} (h : HpAt base w b v l) (p : Nat) (hp : p < l.length) (hu : Up l p) :
    Calls Try.prog 45 #[.pointer (some ⟨b, 0, none⟩), .int .i64 p] w (MoveRet base w b v l) := by
  obtain ⟨Q, HQ⟩ : ∃ Q, Hid (MoveRet base w b v l = Q) := ⟨_, rfl⟩
  rw [HQ.out]
  have H0 : RI base w b v l l w := ⟨h, List.Perm.refl _, ⟨rfl, rfl, rfl, Nat.le_refl _, fun _ _ _ => rfl⟩⟩
  have HU := Lib.hid hu
  clear hu
  go_enter Try.func45, Try.ntmps45
  go_wp2
  go_loopw [1] (fun i wr => ∃ (q : Nat) (l' : List Pr), i = .int .i64 q ∧ q < l'.length ∧ Hid (Up l' q) ∧ RI base w b v l l' wr) (fun i _ => (intOf i).toNat)
  case atStart => exact ⟨p, l, rfl, hp, HU, H0⟩
  case round =>
    obtain ⟨q, l', rfl, hq, hU, hR⟩ := hrel
    have hs := hR.hp.short
    rcases Nat.eq_zero_or_pos q with rfl | h0
    · go_wp2_with fail
      go_end0
      rw [← HQ.out]
      exact ⟨rfl, l', hR.hp, hU.out.done hq (fun h => absurd h (by omega)), hR.perm, hR.grown⟩
    · obtain ⟨m, rfl⟩ : ∃ m, q = m + 1 := ⟨q - 1, by omega⟩
      cases ht : ltP (at' l' (m + 1)) (at' l' (m / 2)) with
      | false =>
        have HT := Lib.hid ht
        clear ht
        go_wp2_with (go_at_call 46; (with_reducible refine (less_at hR.hp (m + 1) (m / 2) _ _ false (by omega) (by omega) hq (by omega) HT.out).mono ?_); rintro e w1 ⟨rfl, hb1⟩)
        go_end0
        rw [← HQ.out]
        have hR1 := hR.below hb1
        exact ⟨rfl, l', hR1.hp, hU.out.done hq (fun _ => HT.out), hR1.perm, hR1.grown⟩
      | true =>
        have HT := Lib.hid ht
        clear ht
        have hm2 : m / 2 < l'.length := by omega
        go_wp2_with (first | (go_at_call 46; (with_reducible refine (less_at hR.hp (m + 1) (m / 2) _ _ true (by omega) (by omega) hq hm2 HT.out).mono ?_); rintro e w1 ⟨rfl, hb1⟩) | (go_at_call 43; (with_reducible refine (swap_at (hR.below hb1).hp (m + 1) (m / 2) _ _ (by omega) (by omega) hq hm2).mono ?_); rintro e w2 ⟨rfl, hp2, hg2⟩))
        go_roundw
        case rel => exact ⟨m / 2, swapL l' (m + 1) (m / 2), by go_num, by rw [length_swapL]; exact hm2, hU.out.step hq (by omega) HT.out, (hR.below hb1).swap hq hm2 hp2 hg2⟩
        case measure => simp [intOf]; omega
end Go.Proofs.Ythmblgfcjbiomaa.Hp
