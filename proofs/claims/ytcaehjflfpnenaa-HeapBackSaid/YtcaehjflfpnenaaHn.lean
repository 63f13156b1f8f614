import Derived.Test.YtcaehjflfpnenaaHm
/- The law HeapApart. -/
set_option linter.unusedVariables false
set_option linter.unusedSimpArgs false
namespace Go.Proofs.Ytcaehjflfpnenaa.Hp
open Go.RowKit

/-- Two heaps that share nothing. -/
structure Two (B : Nat) (w : World) (a b : Nat) (va vb : Value) (s t : List Pr) : Prop where
  one : HpIs B w a va s
  two : HpIs B w b vb t
  ne : a ≠ b
  apart : ∀ g, va.ownBlock = some g → vb.ownBlock ≠ some g
theorem Two.flip {B a b : Nat} {w : World} {va vb : Value} {s t : List Pr} (h : Two B w a b va vb s t) : Two B w b a vb va t s :=
  ⟨h.two, h.one, fun e => h.ne e.symm, fun g e1 e2 => h.apart g e2 e1⟩
/-- A heap's block is no row's. -/
theorem row_not {B a b : Nat} {w : World} {va vb : Value} {s t : List Pr} (h : HpIs B w a va s) (k : HpIs B w b vb t) : va.ownBlock ≠ some b := by
  obtain ⟨l, h1, _⟩ := h
  obtain ⟨m, k1, _⟩ := k
  intro e
  rcases h1.row.2 with ⟨rfl, _⟩ | ⟨g, cap, cur, rfl, _, hg, _⟩
  · cases e
  · cases e
    have := k1.cell
    rw [hg] at this
    simp at this
theorem Two.step {B a b : Nat} {w w' : World} {va vb va' : Value} {s s' t : List Pr} (h : Two B w a b va vb s t) (hs : HpIs B w' a va' s') (ho : Only a va.ownBlock va'.ownBlock w w') : Two B w' a b va' vb s' t := by
  have hb := h.two.at
  refine ⟨hs, h.two.keep (ho.block b hb.2.1 (fun e => h.ne e.symm) (fun e => row_not h.one h.two e.symm)) (fun g e => ho.block g (hb.2.2.2 g e).2 (fun e2 => row_not h.two h.one (by rw [e, e2])) (fun e2 => h.apart g e2.symm e)), h.ne, fun g e1 e2 => ?_⟩
  rcases ho.row g e1 with h1 | h1
  · exact h.apart g h1 e2
  · have := (hb.2.2.2 g e2).2
    omega
theorem Two.below {B a b : Nat} {w w' : World} {va vb : Value} {s t : List Pr} (h : Two B w a b va vb s t) (hb : Below w.heap.size w w') : Two B w' a b va vb s t :=
  ⟨h.one.below hb, h.two.below hb, h.ne, h.apart⟩
/-- A list, turned by so many places. -/
def turnL (L : List Pr) (r : Nat) : List Pr := L.drop r ++ L.take r
theorem turn_perm (L : List Pr) (r : Nat) : (turnL L r).Perm L := by
  unfold turnL
  exact List.perm_append_comm.trans (by rw [List.take_append_drop])
theorem turn_at {L : List Pr} {r k : Nat} (hr : r < L.length) (hk : k < L.length) : at' (turnL L r) k = at' L ((k + r) % L.length) := by
  unfold turnL at'
  rw [List.getD_eq_getElem?_getD, List.getD_eq_getElem?_getD]
  congr 1
  by_cases h : k + r < L.length
  · rw [List.getElem?_append_left (by simp; omega), Nat.mod_eq_of_lt h, List.getElem?_drop, Nat.add_comm]
  · rw [List.getElem?_append_right (by simp; omega), List.getElem?_take, List.length_drop, if_pos (by omega)]
    congr 1
    rw [show k + r = (k + r - L.length) + L.length by omega, Nat.add_mod_right, Nat.mod_eq_of_lt (by omega)]
    omega
set_option maxHeartbeats 8000000 in
set_option maxRecDepth 100000 in
theorem lapart_walk (v : Value) (l : List Pr) (t : Int) (W : World) (hl : Fits W v l) (ht0 : -9223372036854775808 ≤ t) (ht1 : t ≤ 9223372036854775807) : Calls Try.prog 6 #[v, .int .i64 t] W (AwakeRet W) := by
  obtain ⟨⟨ao, cap, rfl, hbig, hcell⟩, -⟩ := hl
  obtain ⟨Q, HQ⟩ : ∃ Q, Hid (AwakeRet W = Q) := ⟨_, rfl⟩
  rw [HQ.out]
  have HC := Lib.hid hcell
  clear hcell
  go_enter Try.func6, Try.ntmps6
  go_upto_region 3 with (first
    | (go_at_call 8; (with_reducible refine (awake_any W).mono ?_); rintro e w1 ⟨rfl, hb1⟩)
    | (go_at_call 9; (with_reducible refine (new_any w1).mono ?_); rintro e w2 ⟨rfl, rfl⟩))
  have hs0 := Lib.hid (new_is (base := W.heap.size) (w := w1) hb1.size)
  have HB1 := Lib.hid (hb1.alloc hb1.size (.cells #[.slice none 0 0] 42))
  generalize hb : w1.heap.size = a at *
  clear hb hb1
  generalize w1.alloc (.cells #[.slice none 0 0] 42) = w2 at *
  go_upto_region 4 with (go_at_call 9; (with_reducible refine (new_any w2).mono ?_); rintro e w3 ⟨rfl, rfl⟩)
  have H2 : Hid (Two W.heap.size (w2.alloc (.cells #[.slice none 0 0] 42)) a w2.heap.size (.slice none 0 0) (.slice none 0 0) [] []) :=
    ⟨hs0.out.below ((Below.refl _ _).alloc (Nat.le_refl _) _), new_is HB1.out.size, by have := hs0.out.at; omega, fun g e => by cases e⟩
  have HB2 := Lib.hid (HB1.out.alloc HB1.out.size (.cells #[.slice none 0 0] 42))
  generalize hb : w2.heap.size = b at *
  clear hb hs0 HB1
  generalize w2.alloc (.cells #[.slice none 0 0] 42) = w3 at *
  go_upto_region 7 with fail
  obtain ⟨N, hN⟩ : ∃ N : Nat, N = min l.length 100 := ⟨_, rfl⟩
  have hNl : N ≤ l.length := by omega
  have hN2 : N ≤ 100 := by omega
  rw [show (if (100 : Int) < (l.length : Int) then (100 : Int) else (l.length : Int)) = (N : Int) by split <;> omega]
  clear hN
  obtain ⟨L, hL⟩ : ∃ L, Hid (l.take N = L) := ⟨_, rfl⟩
  have HLL : Hid (L.length = N) := by rw [← hL.out]; show _ = _; rw [List.length_take]; omega
  obtain ⟨r, hr, hrN⟩ : ∃ r : Nat, Hid (0 < N → pickS t N = (r : Int)) ∧ Hid (0 < N → r < N) := by
    by_cases h : 0 < N
    · have h1 := pickS_nonneg (c := t) (n := N) (by omega)
      have h2 := pickS_lt (c := t) (n := N) (by omega)
      exact ⟨(pickS t N).toNat, fun _ => by omega, fun _ => by omega⟩
    · exact ⟨0, fun h' => absurd h' h, fun h' => absurd h' h⟩
  obtain ⟨R, hR⟩ : ∃ R, Hid (turnL L r = R) := ⟨_, rfl⟩
  have HRL : Hid (R.length = N) := by rw [← hR.out, (turn_perm L r).length_eq]; exact HLL.out
  go_wp2_with fail
  go_loopw [9] (fun i wr => ∃ (k : Nat) (va vb : Value), i = .int .i64 k ∧ k ≤ N ∧ Two W.heap.size wr a b va vb (sortP (L.take k)) (sortP (R.take k)) ∧ Below W.heap.size W wr) (fun i _ => N - (intOf i).toNat)
  case atStart => exact ⟨0, _, _, rfl, by omega, H2.out, HB2.out⟩
  case round =>
    obtain ⟨k, va, vb, rfl, hk, hT, hBW⟩ := hrel
    by_cases hlt : k < N
    · obtain ⟨ab, o, rfl, hab, hcc⟩ := HC.out (by omega)
      have ⟨c1, c2⟩ := hcc k (by omega)
      have d1 := (hBW.cell (p := ⟨ab, o + k * 2, none⟩) hab).trans c1
      have d2 := (hBW.cell (p := ⟨ab, o + k * 2 + 1, none⟩) hab).trans c2
      have HCC := Lib.hid hcc
      have hkl : k < l.length := by omega
      have hS := Lib.hid (ins_next (l := L) (k := k) (by rw [HLL.out]; exact hlt))
      have hS2 := Lib.hid (ins_next (l := R) (k := k) (by rw [HRL.out]; exact hlt))
      have hsl : (sortP (L.take k)).length ≤ 999 := by rw [length_sort, List.length_take]; omega
      have hsl2 : (sortP (R.take k)).length ≤ 999 := by rw [length_sort, List.length_take]; omega
      have hlk : (k : Int) = (((sortP (R.take k)).length : Nat) : Int) := by rw [length_sort, List.length_take, HRL.out]; omega
      have HLK := Lib.hid hlk
      have hrN' := hrN.out (by omega)
      obtain ⟨q, hq⟩ : ∃ q, (k + r) % N = q := ⟨_, rfl⟩
      have hqN : q < N := by rw [← hq]; exact Nat.mod_lt _ (by omega)
      have HLk : at' L k = at' l k := by rw [← hL.out, at_take hlt]
      have HRk : at' R k = at' l q := by rw [← hR.out, turn_at (by rw [HLL.out]; exact hrN') (by rw [HLL.out]; exact hlt), HLL.out, hq, ← hL.out, at_take hqN]
      rw [HLk] at hS
      rw [HRk] at hS2
      have PK := pick_any t N
      rw [hr.out (by omega)] at PK
      have PP := Lib.hid PK
      have ⟨c3, c4⟩ := hcc q (by omega)
      have hqq : ((k : Int) + (r : Int)) % (N : Int) = (q : Int) := by rw [← hq]; simp
      have HT := Lib.hid hT
      have HBW := Lib.hid hBW
      clear hT hBW c1 c2 hcc hlk PK hq HLk HRk
      generalize hx : at' l k = x at *
      obtain ⟨x1, x2⟩ := x
      generalize hy : at' l q = y at *
      obtain ⟨y1, y2⟩ := y
      dsimp only at *
      clear hx hy
      go_upto_region 10 with fail
      go_still_tail 11, (by kernel_rfl)
      change wpList _ _ _ _ _ wr.drew
      have HD : Hid (Two W.heap.size wr.drew a b va vb (sortP (L.take k)) (sortP (R.take k))) := HT.out.below (Below.refl _ _).drew
      have HBD : Hid (Below W.heap.size W wr.drew) := HBW.out.drew
      generalize wr.drew = wD at *
      go_upto_region 13 with (first
        | (go_at_call 13; (with_reducible refine (push_at HD.out.one hsl x1 x2 _ hS.out).mono ?_); rintro e w4 ⟨rfl, v4, g4, o4⟩; have HT4 := Lib.hid (HD.out.step g4 o4); have HB4 := Lib.hid (HBD.out.trans (HD.out.one.stays o4)); clear g4 o4)
        | (go_at_call 15; (with_reducible refine (len_at HT4.out.two _ HLK.out).mono ?_); rintro e w5 ⟨rfl, rfl⟩))
      have d3 := (HB4.out.cell (p := ⟨ab, o + q * 2, none⟩) hab).trans c3
      have d4 := (HB4.out.cell (p := ⟨ab, o + q * 2 + 1, none⟩) hab).trans c4
      clear c3 c4
      have hql : q < l.length := by omega
      go_upto_region 14 with (go_at_call 17; (with_reducible refine (PP.out _ ht0 ht1 (by omega) (by omega)).mono ?_); rintro e w6 ⟨rfl, rfl⟩)
      have HT5 := Lib.hid (HT4.out.below ((Below.refl _ w4).alloc (Nat.le_refl _) (.cells #[.int .i64 y1, .int .i64 y2] 32)))
      have HB5 := Lib.hid (HB4.out.alloc HB4.out.size (.cells #[.int .i64 y1, .int .i64 y2] 32))
      go_wp2_with (go_at_call 13; (with_reducible refine (push_at HT5.out.two hsl2 y1 y2 _ hS2.out).mono ?_); rintro e w7 ⟨rfl, v7, g7, o7⟩; have HT7 := Lib.hid (HT5.out.flip.step g7 o7).flip; have HB7 := Lib.hid (HB5.out.trans (HT5.out.two.stays o7)); clear g7 o7)
      go_roundw
      case rel => exact ⟨k + 1, v4, v7, by go_num, hlt, HT7.out, HB7.out⟩
      case measure => simp [intOf]; omega
    · obtain rfl : N = k := by omega
      obtain ⟨S, hS⟩ : ∃ S, Hid (sortP L = S) := ⟨_, rfl⟩
      have hSl : Hid (S.length = N) := by rw [← hS.out]; show _ = _; rw [length_sort]; exact HLL.out
      have hT' : Hid (Two W.heap.size wr a b va vb S S) := by
        have h1 := hT
        rw [show L.take N = L by rw [← HLL.out]; exact List.take_length, show R.take N = R by rw [← HRL.out]; exact List.take_length, show sortP R = sortP L from sort_perm (by rw [← hR.out]; exact turn_perm L r), hS.out] at h1
        exact h1
      have HBW := Lib.hid hBW
      clear hT hBW hlt hk H2 HB2
      go_wp2_with fail
      go_loopw [11] (fun i wr => ∃ (k : Nat) (va vb : Value), i = .int .i64 k ∧ k ≤ N ∧ Two W.heap.size wr a b va vb (S.drop k) (S.drop k) ∧ Below W.heap.size W wr) (fun i _ => N - (intOf i).toNat)
      case atStart => exact ⟨0, _, _, rfl, by omega, hT'.out, HBW.out⟩
      case round =>
        obtain ⟨k, va, vb, rfl, hk, hT, hBW⟩ := hrel
        by_cases hlt : k < N
        · have hks : k < S.length := by rw [hSl.out]; exact hlt
          rw [drop_cons hks] at hT
          have HT := Lib.hid hT
          have HBW := Lib.hid hBW
          clear hT hBW
          generalize at' S k = x at *
          obtain ⟨x1, x2⟩ := x
          go_wp2_with (first
            | (go_at_call 11; (with_reducible refine (pop_head HT.out.one).mono ?_); rintro e w4 ⟨rfl, v4, g4, o4⟩; have HT4 := Lib.hid (HT.out.step g4 o4); have HB4 := Lib.hid (HBW.out.trans (HT.out.one.stays o4)); clear g4 o4)
            | (go_at_call 11; (with_reducible refine (pop_head HT4.out.two).mono ?_); rintro e w5 ⟨rfl, v5, g5, o5⟩; have HT5 := Lib.hid (HT4.out.flip.step g5 o5).flip; have HB5 := Lib.hid (HB4.out.trans (HT4.out.two.stays o5)); clear g5 o5))
          go_roundw
          case rel => exact ⟨k + 1, v4, v5, by go_num, hlt, HT5.out, HB5.out⟩
          case measure => simp [intOf]; omega
        · obtain rfl : N = k := by omega
          rw [show S.drop N = [] by rw [← hSl.out]; exact List.drop_length] at hT
          go_wp2_with (first
            | (go_at_call 15; (with_reducible refine (len_at hT.one 0 (by simp)).mono ?_); rintro e w5 ⟨rfl, rfl⟩)
            | (go_at_call 15; (with_reducible refine (len_at hT.two 0 (by simp)).mono ?_); rintro e w5 ⟨rfl, rfl⟩))
          rw [← HQ.out]
          exact ⟨rfl, hBW⟩
end Go.Proofs.Ytcaehjflfpnenaa.Hp
