import Derived.Test.YtnpbkjmlmdpggaaYa
import Derived.Test.YtnpbkjmlmdpggaaChecked
import Derived.WalkKit
import Derived.BigCall
import Derived.ProofKit
import Derived.Below
import Derived.Lib.Hide
import Derived.Deep.QuietTactic
import Derived.Lib.QuietBelow
import Derived.BigRegion
import Derived.BigQuiet
import Derived.Laws.OwnMore
import Derived.Deep.DeepCutAuto
import Derived.Deep.CutRange
import Derived.Deep.CutBlock
import Derived.Deep.LoopGhost
import Derived.Deep.WholeRow
import Derived.Outline
/- Layouts and slices of numbers in memory; the smallest contracts. -/
set_option linter.unusedVariables false
set_option linter.unusedSimpArgs false
namespace Go.Proofs.Ytnpbkjmlmdpggaa.Ly
open Go.RowKit

def edC (e : Ed) : List Value := [.int .i64 e.1, .int .i64 e.2.1, .int .i64 e.2.2]
def flatE (l : List Ed) : List Value := l.flatMap edC
theorem flatE_len (l : List Ed) : (flatE l).length = l.length * 3 := by
  induction l with
  | nil => rfl
  | cons x r ih => simp [flatE, edC] at ih ⊢; omega
theorem flatE_append (l m : List Ed) : flatE (l ++ m) = flatE l ++ flatE m := by simp [flatE]
theorem flatE_cons (x : Ed) (l : List Ed) : flatE (x :: l) = .int .i64 x.1 :: .int .i64 x.2.1 :: .int .i64 x.2.2 :: flatE l := rfl
theorem flatE_get : ∀ {l : List Ed} {i : Nat}, i < l.length → (flatE l)[i * 3]? = some (.int .i64 (ate l i).1) ∧ (flatE l)[i * 3 + 1]? = some (.int .i64 (ate l i).2.1) ∧ (flatE l)[i * 3 + 2]? = some (.int .i64 (ate l i).2.2)
  | [], i, h => by simp at h
  | x :: r, 0, h => ⟨rfl, rfl, rfl⟩
  | x :: r, i + 1, h => by
    have := flatE_get (l := r) (i := i) (by simpa using h)
    rw [flatE_cons, show (i + 1) * 3 = i * 3 + 1 + 1 + 1 by omega]
    exact this
/-- A slice of edges that reads as a list. -/
def EdgesAt (w : World) (v : Value) (l : List Ed) : Prop :=
  ∃ ao cap, v = .slice ao l.length cap ∧ l.length ≤ 1000000000000000000 ∧ (0 < l.length → ∃ b o, ao = some ⟨b, o, none⟩ ∧ b < w.heap.size ∧
    ∀ j, j < l.length → w.cell? ⟨b, o + j * 3, none⟩ = some (.int .i64 (ate l j).1) ∧ w.cell? ⟨b, o + j * 3 + 1, none⟩ = some (.int .i64 (ate l j).2.1) ∧ w.cell? ⟨b, o + j * 3 + 2, none⟩ = some (.int .i64 (ate l j).2.2))
theorem EdgesAt.below {w w' : World} {v : Value} {l : List Ed} (h : EdgesAt w v l) {B : Nat} (hb : Below B w w') (hB : w.heap.size ≤ B) : EdgesAt w' v l := by
  obtain ⟨ao, cap, h1, h2, h3⟩ := h
  refine ⟨ao, cap, h1, h2, fun h0 => ?_⟩
  obtain ⟨b, o, e, hl, hc⟩ := h3 h0
  exact ⟨b, o, e, Nat.lt_of_lt_of_le hl hb.size, fun j hj => ⟨(hb.cell (by show b < B; omega)).trans (hc j hj).1, (hb.cell (by show b < B; omega)).trans (hc j hj).2.1, (hb.cell (by show b < B; omega)).trans (hc j hj).2.2⟩⟩
/-- A slice of numbers that reads as a list. -/
def IntsAt (w : World) (v : Value) (l : List Int) : Prop :=
  ∃ ao cap, v = .slice ao l.length cap ∧ l.length ≤ 1000000000000000000 ∧ (0 < l.length → ∃ b o, ao = some ⟨b, o, none⟩ ∧ b < w.heap.size ∧
    ∀ j, j < l.length → w.cell? ⟨b, o + j, none⟩ = some (.int .i64 (ati l j)))
theorem IntsAt.below {w w' : World} {v : Value} {l : List Int} (h : IntsAt w v l) {B : Nat} (hb : Below B w w') (hB : w.heap.size ≤ B) : IntsAt w' v l := by
  obtain ⟨ao, cap, h1, h2, h3⟩ := h
  refine ⟨ao, cap, h1, h2, fun h0 => ?_⟩
  obtain ⟨b, o, e, hl, hc⟩ := h3 h0
  exact ⟨b, o, e, Nat.lt_of_lt_of_le hl hb.size, fun j hj => (hb.cell (by show b < B; omega)).trans (hc j hj)⟩
theorem IntsAt.nil (w : World) (c : Nat) : IntsAt w (.slice none 0 c) [] := ⟨none, c, rfl, by simp, fun h => by simp at h⟩
theorem EdgesAt.nil (w : World) (c : Nat) : EdgesAt w (.slice none 0 c) [] := ⟨none, c, rfl, by simp, fun h => by simp at h⟩
def intC (l : List Int) : List Value := l.map fun z => .int .i64 z
theorem intC_append (l m : List Int) : intC (l ++ m) = intC l ++ intC m := by simp [intC]
theorem intC_get {l : List Int} {i : Nat} (h : i < l.length) : (intC l)[i]? = some (.int .i64 (ati l i)) := by
  rw [ati_lt h]
  simp [intC, h]
/-- Rows of one's own are read. -/
theorem ints_own {w : World} {base n : Nat} {v : Value} {l : List Int} (h : w.ownsRow base 3 1 v n (intC l)) (hl : l.length = n) (hn : n ≤ 1000000000000000000) : IntsAt w v l := by
  subst hl
  rcases h.2 with ⟨rfl, h0⟩ | ⟨g, cap, cur, rfl, hb, hg, hnc, hcm, hcs, htake⟩
  · exact ⟨none, 0, by rw [h0], hn, fun h => by omega⟩
  · refine ⟨_, _, rfl, hn, fun _ => ⟨g, 0, rfl, (Array.getElem?_eq_some_iff.1 hg).1, fun j hj => ?_⟩⟩
    rw [Nat.zero_add, h.cellAt _ (by omega)]
    exact intC_get hj
theorem edges_own {w : World} {base n : Nat} {v : Value} {l : List Ed} (h : w.ownsRow base 54 3 v n (flatE l)) (hl : l.length = n) (hn : n ≤ 1000000000000000000) : EdgesAt w v l := by
  subst hl
  rcases h.2 with ⟨rfl, h0⟩ | ⟨g, cap, cur, rfl, hb, hg, hnc, hcm, hcs, htake⟩
  · exact ⟨none, 0, by rw [h0], hn, fun h => by omega⟩
  · refine ⟨_, _, rfl, hn, fun _ => ⟨g, 0, rfl, (Array.getElem?_eq_some_iff.1 hg).1, fun j hj => ?_⟩⟩
    have := flatE_get hj
    rw [Nat.zero_add, h.cellAt _ (by omega), h.cellAt _ (by omega), h.cellAt _ (by omega)]
    exact this
/-- What a call answers that makes memory, and writes into none that was there. -/
def Ret (v : Value) (w : World) (e : Ending) (w' : World) : Prop := e = .returned v ∧ Below w.heap.size w w'
theorem ret_int {k : IntKind} {a b : Int} (h : a = b) : Ending.returned (.int k a) = .returned (.int k b) := by rw [h]
theorem ret_bool {a b : Bool} (h : a = b) : Ending.returned (.bool a) = .returned (.bool b) := by rw [h]

theorem bcell {W w1 : World} (hb : Below W.heap.size W w1) : (∀ b o, b < W.heap.size → w1.cell? ⟨b, o, none⟩ = W.cell? ⟨b, o, none⟩) ∧ (∀ b o, b < W.heap.size → w1.frozen? ⟨b, o, none⟩ = W.frozen? ⟨b, o, none⟩) :=
  ⟨fun b o h => hb.cell (p := ⟨b, o, none⟩) h, fun b o h => hb.frozen (p := ⟨b, o, none⟩) h⟩
def pickS (c n : Int) : Int := (if c < 0 then -(c + 1) else c) % n
theorem pickS_nonneg {c n : Int} (h : 0 < n) : 0 ≤ pickS c n := Int.emod_nonneg _ (by omega)
theorem pickS_lt {c n : Int} (h : 0 < n) : pickS c n < n := Int.emod_lt_of_pos _ h
theorem pick_any (c n : Int) (w : World) (hc0 : -9223372036854775808 ≤ c) (hc1 : c ≤ 9223372036854775807) (hn0 : 0 < n) (hn1 : n ≤ 9223372036854775807) :
    Calls Try.prog 29 #[.int .i64 c, .int .i64 n] w (fun e w' => e = .returned (.int .i64 (pickS c n)) ∧ w = w') := by
  by_cases hc : c < 0
  all_goals
    go_enter Try.func29, Try.ntmps29
    go_wp2
    go_ret
    refine ⟨ret_int ?_, rfl⟩
    unfold pickS
    first
      | (rw [if_pos hc, ← Int.neg_tmod, Int.tmod_eq_emod_of_nonneg (by omega)]; done)
      | rw [if_neg (by omega)]

theorem nodeB_iff {n a : Int} : nodeB n a = true ↔ 0 ≤ a ∧ a < n := by simp [nodeB]
theorem isNode_any (n a : Int) (v : Value) (w : World) (t : Bool) (h : nodeB n a = t) :
    Calls Try.prog 57 #[.agg #[.int .i64 n, v], .int .i64 a] w (Ret (.bool t) w) := by
  have H := Lib.hid h
  clear h
  have H0 : Hid (Below w.heap.size w (w.alloc (.cells #[.int .i64 n, v] 32))) := (Below.refl _ w).alloc (Nat.le_refl _) _
  obtain ⟨Q, HQ⟩ : ∃ Q, Hid (Ret (.bool t) w = Q) := ⟨_, rfl⟩
  rw [HQ.out]
  by_cases h0 : 0 ≤ a
  · go_enter Try.func57, Try.ntmps57
    go_wp2
    rw [← HQ.out]
    exact ⟨ret_bool (by rw [← H.out]; simp [nodeB, h0]), H0.out⟩
  · have h0' : decide (0 ≤ a) = false := by simpa using h0
    go_enter Try.func57, Try.ntmps57
    go_wp2
    rw [← HQ.out]
    exact ⟨ret_bool (by rw [← H.out]; unfold nodeB; rw [h0']; rfl), H0.out⟩
def edgeB (n : Int) (e : Ed) : Bool := nodeB n e.1 && (nodeB n e.2.1 && (!decide (e.1 = e.2.1) && (decide (1 ≤ e.2.2) && decide (e.2.2 ≤ 1000))))
theorem edgeB_iff {n : Int} {e : Ed} : edgeB n e = true ↔ EdgeOk n e := by
  unfold edgeB EdgeOk
  simp only [Bool.and_eq_true, nodeB_iff, Bool.not_eq_true', decide_eq_false_iff_not, decide_eq_true_iff, ne_eq]
set_option maxHeartbeats 4000000 in
theorem rightEdge_any (n : Int) (v : Value) (e : Ed) (w : World) (t : Bool) (h : edgeB n e = t) :
    Calls Try.prog 52 #[.agg #[.int .i64 n, v], .agg #[.int .i64 e.1, .int .i64 e.2.1, .int .i64 e.2.2]] w (Ret (.bool t) w) := by
  obtain ⟨f, g, c⟩ := e
  have H := Lib.hid h
  clear h
  have H0 : Hid (Below w.heap.size w ((w.alloc (.cells #[.int .i64 n, v] 32)).alloc (.cells #[.int .i64 f, .int .i64 g, .int .i64 c] 54))) := ((Below.refl _ w).alloc (Nat.le_refl _) _).alloc (by simp) _
  have hz : w.heap.size + 1 < ((w.alloc (.cells #[.int .i64 n, v] 32)).alloc (.cells #[.int .i64 f, .int .i64 g, .int .i64 c] 54)).heap.size := by simp
  obtain ⟨Q, HQ⟩ : ∃ Q, Hid (Ret (.bool t) w = Q) := ⟨_, rfl⟩
  rw [HQ.out]
  have C := Lib.hid (fun a w t (h : nodeB n a = t) => isNode_any n a v w t h)
  obtain ⟨t1, e1⟩ : ∃ t, nodeB n f = t := ⟨_, rfl⟩
  obtain ⟨t2, e2⟩ : ∃ t, nodeB n g = t := ⟨_, rfl⟩
  have E1 := Lib.hid e1
  have E2 := Lib.hid e2
  have HT : Hid ((t1 && (t2 && (!decide (f = g) && (decide (1 ≤ c) && decide (c ≤ 1000))))) = t) := by
    show _ = _
    rw [← H.out, ← e1, ← e2]
    rfl
  clear e1 e2 H
  cases t1
  · go_enter Try.func52, Try.ntmps52
    go_wp2_with (go_at_call 57; (with_reducible refine (C.out _ _ _ E1.out).mono ?_); rintro e w1 ⟨rfl, hb1⟩)
    rw [← HQ.out]
    exact ⟨ret_bool HT.out, H0.out.trans (hb1.mono (by simp; omega))⟩
  · cases t2
    · go_enter Try.func52, Try.ntmps52
      go_wp2_with (first
        | (go_at_call 57; (with_reducible refine (C.out _ _ _ E1.out).mono ?_); rintro e w1 ⟨rfl, hb1⟩; obtain ⟨hc1, hf1⟩ := bcell hb1)
        | (go_at_call 57; (with_reducible refine (C.out _ _ _ E2.out).mono ?_); rintro e w2 ⟨rfl, hb2⟩))
      rw [← HQ.out]
      exact ⟨ret_bool HT.out, (H0.out.trans (hb1.mono (by simp; omega))).trans (hb2.mono (by have := hb1.size; simp at this; omega))⟩
    · by_cases h3 : f = g
      · subst h3
        go_enter Try.func52, Try.ntmps52
        go_wp2_with (first
          | (go_at_call 57; (with_reducible refine (C.out _ _ _ E1.out).mono ?_); rintro e w1 ⟨rfl, hb1⟩; obtain ⟨hc1, hf1⟩ := bcell hb1; have hz1 : w.heap.size + 1 < w1.heap.size := Nat.lt_of_lt_of_le hz hb1.size)
          | (go_at_call 57; (with_reducible refine (C.out _ _ _ E2.out).mono ?_); rintro e w2 ⟨rfl, hb2⟩; obtain ⟨hc2, hf2⟩ := bcell hb2; have hz2 : w.heap.size + 1 < w2.heap.size := Nat.lt_of_lt_of_le hz1 hb2.size))
        all_goals
          rw [← HQ.out]
          exact ⟨ret_bool (by rw [← HT.out]; simp), (H0.out.trans (hb1.mono (by simp; omega))).trans (hb2.mono (by have := hb1.size; simp at this; omega))⟩
      · by_cases h4 : 1 ≤ c
        all_goals
          go_enter Try.func52, Try.ntmps52
          go_wp2_with (first
            | (go_at_call 57; (with_reducible refine (C.out _ _ _ E1.out).mono ?_); rintro e w1 ⟨rfl, hb1⟩; obtain ⟨hc1, hf1⟩ := bcell hb1; have hz1 : w.heap.size + 1 < w1.heap.size := Nat.lt_of_lt_of_le hz hb1.size)
            | (go_at_call 57; (with_reducible refine (C.out _ _ _ E2.out).mono ?_); rintro e w2 ⟨rfl, hb2⟩; obtain ⟨hc2, hf2⟩ := bcell hb2; have hz2 : w.heap.size + 1 < w2.heap.size := Nat.lt_of_lt_of_le hz1 hb2.size))
          all_goals
            rw [← HQ.out]
            exact ⟨ret_bool (by rw [← HT.out]; first | (simp [*]; done) | (simp [*]; omega)), (H0.out.trans (hb1.mono (by simp; omega))).trans (hb2.mono (by have := hb1.size; simp at this; omega))⟩

/-- A list's first places do not hold a number. -/
theorem mem_take_at {l : List Int} {k : Nat} {x : Int} (hk : k < l.length) : x ∈ l.take (k + 1) ↔ x ∈ l.take k ∨ ati l k = x := by
  rw [List.take_succ_eq_append_getElem hk, List.mem_append, List.mem_singleton, ati_lt hk]
  constructor
  · rintro (h | rfl)
    · exact .inl h
    · exact .inr rfl
  · rintro (h | rfl)
    · exact .inl h
    · exact .inr rfl
theorem below_drewN {B : Nat} {a w : World} (h : Below B a w) (n : Nat) : Below B a (w.drewN n) := ⟨h.os, h.tape, h.output, h.size, h.block⟩
set_option maxHeartbeats 4000000 in
/-- Two lists are the same. -/
theorem ints_any (a b : List Int) (va vb : Value) (w : World) (ha : IntsAt w va a) (hb : IntsAt w vb b) (t : Bool) (h : decide (a = b) = t) :
    Calls Try.prog 15 #[va, vb] w (Ret (.bool t) w) := by
  have H := Lib.hid h
  clear h
  obtain ⟨ao, ac, rfl, ha1, ha2⟩ := ha
  obtain ⟨bo, bc, rfl, hb1, hb2⟩ := hb
  obtain ⟨Q, HQ⟩ : ∃ Q, Hid (Ret (.bool t) w = Q) := ⟨_, rfl⟩
  rw [HQ.out]
  by_cases hl : a.length = b.length
  · have HL := Lib.hid hl
    rw [hl] at ha1 ha2
    rw [hl]
    clear hl
    go_enter Try.func15, Try.ntmps15
    go_wp2
    go_loopw [5] (fun i wr => ∃ k : Nat, k ≤ b.length ∧ i = .int .i64 k ∧ Hid (a.take k = b.take k) ∧ Hid (Below w.heap.size w wr)) (fun i _ => b.length - (intOf i).toNat)
    case atStart => exact ⟨0, Nat.zero_le _, rfl, by show _ = _; simp, Below.refl _ _⟩
    case round =>
      obtain ⟨k, hk, rfl, ht, hB⟩ := hrel
      by_cases hlt : k < b.length
      · obtain ⟨b1, o1, rfl, l1, c1⟩ := ha2 (by omega)
        obtain ⟨b2, o2, rfl, l2, c2⟩ := hb2 (by omega)
        have g1 := (hB.out.cell (p := ⟨b1, o1 + k, none⟩) l1).trans (c1 k hlt)
        have g2 := (hB.out.cell (p := ⟨b2, o2 + k, none⟩) l2).trans (c2 k hlt)
        clear c1 c2 ha2 hb2
        by_cases e : ati a k = ati b k
        · have HE := Lib.hid e
          rw [e] at g1
          clear e
          go_wp2
          go_quiet (fail)
          go_wp2
          go_roundw
          case rel =>
            refine ⟨k + 1, by omega, by go_num, ?_, below_drewN hB.out _⟩
            show _ = _
            rw [List.take_succ_eq_append_getElem (by rw [HL.out]; exact hlt), List.take_succ_eq_append_getElem hlt, ht.out, ← ati_lt, ← ati_lt, HE.out]
          case measure => simp [intOf]; omega
        · have HE : Hid (a ≠ b) := fun x => e (by rw [x])
          have e' : decide (ati a k = ati b k) = false := by simpa using e
          go_wp2
          go_quiet (fail)
          go_wp2
          rw [← HQ.out]
          exact ⟨ret_bool (by rw [← H.out]; simp [HE.out]), below_drewN hB.out _⟩
      · have HE : Hid (a = b) := by
          have := ht.out
          rwa [List.take_of_length_le (by rw [HL.out]; omega), List.take_of_length_le (by omega)] at this
        clear ht
        go_wp2
        rw [← HQ.out]
        exact ⟨ret_bool (by rw [← H.out]; simp [HE.out]), hB.out⟩
  · have HE : Hid (a ≠ b) := fun x => hl (by rw [x])
    have e' : decide ((a.length : Int) = (b.length : Int)) = false := by simp; omega
    go_enter Try.func15, Try.ntmps15
    go_wp2
    rw [← HQ.out]
    exact ⟨ret_bool (by rw [← H.out]; simp [HE.out]), Below.refl _ _⟩
end Go.Proofs.Ytnpbkjmlmdpggaa.Ly
