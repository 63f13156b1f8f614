import Derived.Test.YtcaehjflfpnenaaHra
import Derived.Test.YtcaehjflfpnenaaHrb
import Derived.Test.YtcaehjflfpnenaaHrc
import Derived.Test.YtcaehjflfpnenaaHrn
import Derived.Test.YtcaehjflfpnenaaHl
/- The law HeapPlays. -/
set_option linter.unusedVariables false
set_option linter.unusedSimpArgs false
namespace Go.Proofs.Ytcaehjflfpnenaa.Hp
open Go.RowKit

theorem rpush_any {base : Nat} {w : World} {b : Nat} {v : Value} {s : List Pr} (h : RfAt base w b v s) (hs : s.length ≤ 999) (x1 x2 : Int) :
    Calls Try.prog 14 #[.pointer (some ⟨b, 0, none⟩), .int .i64 x1, .int .i64 x2] w (RPushRet base w b (insP (x1, x2) s)) := by
  rcases h.row with ⟨rfl, h0, rfl⟩ | ⟨g, o, c, cur, fr, rfl, hc, hT, hg, hcell⟩
  · exact rpush_nil h x1 x2
  · by_cases hK : ∃ i, i < s.length ∧ ltP (at' s i) (x1, x2) = false
    · obtain ⟨i, hi, _⟩ := id hK
      exact rpush_a h (by omega) hs x1 x2 hK
    · have hK' : ∀ i, i < s.length → ltP (at' s i) (x1, x2) = true := fun i hi => by
        cases hl : ltP (at' s i) (x1, x2) with
        | true => rfl
        | false => exact absurd ⟨i, hi, hl⟩ hK
      by_cases hck : c = s.length
      · exact rpush_b h hck hs x1 x2 hK'
      · exact rpush_c h hck hs x1 x2 hK'

/-- The program's heap and the document's, with the same things. -/
structure Both (B : Nat) (w : World) (a b : Nat) (va vb : Value) (s : List Pr) : Prop where
  one : HpIs B w a va s
  two : RfAt B w b vb s
theorem both_ne {B a b : Nat} {w : World} {va vb : Value} {s t : List Pr} (h : HpIs B w a va s) (k : RfAt B w b vb t) : a ≠ b ∧ va.ownBlock ≠ some b ∧ vb.ownBlock ≠ some a ∧ (∀ g, va.ownBlock = some g → vb.ownBlock ≠ some g) := by
  obtain ⟨l, h1, _⟩ := h
  have hv : ∀ g, va.ownBlock = some g → ∃ cur fr, w.heap[g]? = some (.cells cur 46 fr) := fun g e => by
    rcases h1.row.2 with ⟨rfl, _⟩ | ⟨g', cap, cur, rfl, _, hg, _⟩
    · cases e
    · cases e; exact ⟨_, _, hg⟩
  have hw : ∀ g, vb.ownBlock = some g → ∃ cur fr, w.heap[g]? = some (.cells cur 32 fr) := fun g e => by
    rcases k.row with ⟨rfl, _⟩ | ⟨g', o, c, cur, fr, rfl, _, _, hg, _⟩
    · cases e
    · cases e; exact ⟨_, _, hg⟩
  refine ⟨fun e => ?_, fun e => ?_, fun e => ?_, fun g e1 e2 => ?_⟩
  · subst e
    have := h1.cell
    rw [k.cell] at this
    simp at this
  · obtain ⟨cur, fr, hg⟩ := hv b e
    rw [k.cell] at hg
    simp at hg
  · obtain ⟨cur, fr, hg⟩ := hw a e
    rw [h1.cell] at hg
    simp at hg
  · obtain ⟨cur, fr, hg⟩ := hv g e1
    obtain ⟨cur2, fr2, hg2⟩ := hw g e2
    rw [hg] at hg2
    simp at hg2
theorem two_stays {B a b : Nat} {w w' : World} {va vb va' : Value} {s t : List Pr} (h : HpIs B w a va s) (k : RfAt B w b vb t) (ho : Only a va.ownBlock va'.ownBlock w w') : RfAt B w' b vb t := by
  obtain ⟨n1, n2, n3, n4⟩ := both_ne h k
  refine ⟨k.ge, (ho.block b k.lt (fun e => n1 e.symm) (fun e => n2 e.symm)).trans k.cell, k.row.keep (fun g cur fr hg e => ho.block g (Array.getElem?_eq_some_iff.1 hg).1 (fun e2 => n3 (by rw [e, e2])) (fun e2 => n4 g e2.symm e)), k.short⟩
theorem one_stays {B a b : Nat} {w w' : World} {va vb : Value} {s t : List Pr} (h : HpIs B w a va s) (k : RfAt B w b vb t) (ho : Only b none none w w') : HpIs B w' a va s := by
  obtain ⟨n1, n2, n3, n4⟩ := both_ne h k
  exact h.keep (ho.block a h.at.2.1 n1 (by simp)) (fun g e => ho.block g (h.at.2.2.2 g e).2 (fun e2 => n2 (by rw [e, e2])) (by simp))
theorem rf_stays {B b : Nat} {w w' : World} {vb : Value} {t : List Pr} (k : RfAt B w b vb t) (ho : Only b none none w w') : Below B w w' :=
  ho.stays (Nat.le_of_lt (Nat.lt_of_le_of_lt k.ge k.lt)) k.ge (fun g e => by cases e)
/-- A slice of bools that reads as a list. -/
def BoolsAt (w : World) (v : Value) (l : List Bool) : Prop :=
  ∃ ao cap, v = .slice ao l.length cap ∧ (0 < l.length → ∃ b o, ao = some ⟨b, o, none⟩ ∧ b < w.heap.size ∧ ∀ j, j < l.length → w.cell? ⟨b, o + j, none⟩ = some (.bool (l.getD j false)))
theorem rlen_at {base : Nat} {w : World} {b : Nat} {v : Value} {s : List Pr} (h : RfAt base w b v s) (y : Int) (hy : y = (s.length : Int)) : Calls Try.prog 16 #[.pointer (some ⟨b, 0, none⟩)] w (fun e w' => e = .returned (.int .i64 y) ∧ w = w') := by
  subst hy
  exact rlen_any h
set_option maxHeartbeats 8000000 in
set_option maxRecDepth 100000 in
theorem lplays_walk (v : Value) (l : List Pr) (vp : Value) (ps : List Bool) (W : World) (hl : Fits W v l) (hp : BoolsAt W vp ps) : Calls Try.prog 3 #[v, vp] W (AwakeRet W) := by
  obtain ⟨⟨ao, cap, rfl, hbig, hcell⟩, -⟩ := hl
  obtain ⟨ap, cp, rfl, hbool⟩ := hp
  obtain ⟨Q, HQ⟩ : ∃ Q, Hid (AwakeRet W = Q) := ⟨_, rfl⟩
  rw [HQ.out]
  have HC := Lib.hid hcell
  have HBL := Lib.hid hbool
  clear hcell hbool
  go_enter Try.func3, Try.ntmps3
  go_upto_region 3 with (first
    | (go_at_call 8; (with_reducible refine (awake_any W).mono ?_); rintro e w1 ⟨rfl, hb1⟩)
    | (go_at_call 9; (with_reducible refine (new_any w1).mono ?_); rintro e w2 ⟨rfl, rfl⟩))
  have hs0 := Lib.hid (new_is (base := W.heap.size) (w := w1) hb1.size)
  have HB1 := Lib.hid (hb1.alloc hb1.size (.cells #[.slice none 0 0] 42))
  generalize hb : w1.heap.size = a at *
  clear hb hb1
  generalize w1.alloc (.cells #[.slice none 0 0] 42) = w2 at *
  go_upto_region 4 with (go_at_call 10; (with_reducible refine (rnew_any w2).mono ?_); rintro e w3 ⟨rfl, rfl⟩)
  have H2 : Hid (Both W.heap.size (w2.alloc (.cells #[.slice none 0 0] 44)) a w2.heap.size (.slice none 0 0) (.slice none 0 0) []) :=
    ⟨hs0.out.below ((Below.refl _ _).alloc (Nat.le_refl _) _), rnew_is HB1.out.size⟩
  have HB2 := Lib.hid (HB1.out.alloc HB1.out.size (.cells #[.slice none 0 0] 44))
  generalize hb : w2.heap.size = b at *
  clear hb hs0 HB1
  generalize w2.alloc (.cells #[.slice none 0 0] 44) = w3 at *
  obtain ⟨N, hN⟩ : ∃ N : Nat, N = min l.length 120 := ⟨_, rfl⟩
  have hNl : N ≤ l.length := by omega
  have hN2 : N ≤ 120 := by omega
  have HNE : Hid (N = l.length ∨ N = 120) := (by omega : N = l.length ∨ N = 120)
  clear hN
  go_wp2_with fail
  go_loopw [8] (fun i wr => ∃ (k : Nat) (va vb : Value) (s : List Pr), i = .int .i64 k ∧ k ≤ N ∧ s.length ≤ k ∧ Both W.heap.size wr a b va vb s ∧ Below W.heap.size W wr) (fun i _ => N - (intOf i).toNat)
  case atStart => exact ⟨0, _, _, _, rfl, by omega, by simp, H2.out, HB2.out⟩
  case round =>
    obtain ⟨k, va, vb, s, rfl, hk, hsk, hT, hBW⟩ := hrel
    have HT := Lib.hid hT
    have HBW := Lib.hid hBW
    clear hT hBW
    by_cases hlt : k < N
    · have hkl : k < l.length := by omega
      have hk120 : k < 120 := by omega
      have hs999 : s.length ≤ 999 := by omega
      by_cases hpk : k < ps.length ∧ ps.getD k false = true
      · obtain ⟨pb, po, rfl, hpb, hpc⟩ := HBL.out (by omega)
        have d1 := (HBW.out.cell (p := ⟨pb, po + k, none⟩) hpb).trans (hpc k hpk.1)
        rw [hpk.2] at d1
        have hk1 := hpk.1
        clear hpk hpc
        have P1 := Lib.hid (pop_any HT.out.one)
        have HP2 := fun u (h : RfAt W.heap.size u b vb s) => rpop_any h
        have P2 := Lib.hid HP2
        clear HP2
        unfold PopRet at P1
        unfold RPopRet at P2
        have hst : s.tail.length ≤ k + 1 := by rw [List.length_tail]; omega
        generalize (at' s 0).1 = z1 at P1 P2
        generalize (at' s 0).2 = z2 at P1 P2
        generalize (!s.isEmpty) = zo at P1 P2
        go_wp2_with (first
          | (go_at_call 11; (with_reducible refine (P1.out).mono ?_); rintro e w4 ⟨rfl, v4, g4, o4⟩; have K4 := Lib.hid (two_stays HT.out.one HT.out.two o4); have G4 := Lib.hid g4; have B4 := Lib.hid (HBW.out.trans (HT.out.one.stays o4)); clear g4 o4)
          | (go_at_call 12; (with_reducible refine (P2.out _ K4.out).mono ?_); rintro e w5 ⟨rfl, v5, g5, o5⟩; have H5 := Lib.hid (one_stays G4.out K4.out o5); have G5 := Lib.hid g5; have B5 := Lib.hid (B4.out.trans (rf_stays K4.out o5)); clear g5 o5)
          | (go_at_call 15; (with_reducible refine (len_any H5.out).mono ?_); rintro e w6 ⟨rfl, rfl⟩)
          | (go_at_call 16; (with_reducible refine (rlen_any G5.out).mono ?_); rintro e w7 ⟨rfl, rfl⟩))
        go_roundw
        case rel => exact ⟨k + 1, v4, v5, s.tail, by go_num, hlt, hst, ⟨H5.out, G5.out⟩, B5.out⟩
        case measure => simp [intOf]; omega
      · obtain ⟨ab, o, rfl, hab, hcc⟩ := HC.out (by omega)
        have ⟨c1, c2⟩ := hcc k (by omega)
        have hcond : decide (k < ps.length) = false ∨ (decide (k < ps.length) = true ∧ k < ps.length ∧ ps.getD k false = false) := by
          by_cases h : k < ps.length
          · right
            refine ⟨by simpa using h, h, ?_⟩
            cases hp : ps.getD k false with
            | false => rfl
            | true => exact absurd ⟨h, hp⟩ hpk
          · left
            simpa using h
        clear hpk hcc
        have hxl : (insP (at' l k) s).length ≤ k + 1 := by rw [length_ins]; omega
        generalize at' l k = x at *
        obtain ⟨x1, x2⟩ := x
        dsimp only at c1 c2
        have hcell : ∃ y : Bool, y = false ∧ (k < ps.length → ∃ pb po, ap = some ⟨pb, po, none⟩ ∧ pb < W.heap.size ∧ W.cell? ⟨pb, po + k, none⟩ = some (.bool (ps.getD k false))) := ⟨false, rfl, fun h => by
          obtain ⟨pb, po, e, hpb, hpc⟩ := HBL.out (by omega)
          exact ⟨pb, po, e, hpb, hpc k h⟩⟩
        obtain ⟨_, _, hcell⟩ := hcell
        rcases hcond with hA | ⟨hA, hk1, hk2⟩
        · clear hcell
          go_upto_region 14 with fail
          have d3 := (HBW.out.cell (p := ⟨ab, o + k * 2, none⟩) hab).trans c1
          have d4 := (HBW.out.cell (p := ⟨ab, o + k * 2 + 1, none⟩) hab).trans c2
          go_still_tail 11, (by kernel_rfl)
          change wpList _ _ _ _ _ wr.drew
          have HD : Hid (HpIs W.heap.size wr.drew a va s) := HT.out.one.below (Below.refl _ _).drew
          have KD : Hid (RfAt W.heap.size wr.drew b vb s) := HT.out.two.below (Below.refl _ _).drew
          have BD : Hid (Below W.heap.size W wr.drew) := HBW.out.drew
          clear d3 d4
          generalize wr.drew = wD at *
          go_upto_region 15 with (go_at_call 13; (with_reducible refine (push_any HD.out hs999 x1 x2).mono ?_); rintro e w4 ⟨rfl, v4, g4, o4⟩; have K4 := Lib.hid (two_stays HD.out KD.out o4); have G4 := Lib.hid g4; have B4 := Lib.hid (BD.out.trans (HD.out.stays o4)); clear g4 o4)
          have d3 := (B4.out.cell (p := ⟨ab, o + k * 2, none⟩) hab).trans c1
          have d4 := (B4.out.cell (p := ⟨ab, o + k * 2 + 1, none⟩) hab).trans c2
          go_still_tail 11, (by kernel_rfl)
          change wpList _ _ _ _ _ w4.drew
          have GE : Hid (HpIs W.heap.size w4.drew a v4 (insP (x1, x2) s)) := G4.out.below (Below.refl _ _).drew
          have KE : Hid (RfAt W.heap.size w4.drew b vb s) := K4.out.below (Below.refl _ _).drew
          have BE : Hid (Below W.heap.size W w4.drew) := B4.out.drew
          clear d3 d4
          generalize w4.drew = wE at *
          go_wp2_with (first
            | (go_at_call 14; (with_reducible refine (rpush_any KE.out hs999 x1 x2).mono ?_); rintro e w5 ⟨rfl, v5, g5, o5⟩; have H5 := Lib.hid (one_stays GE.out KE.out o5); have G5 := Lib.hid g5; have B5 := Lib.hid (BE.out.trans (rf_stays KE.out o5)); clear g5 o5)
            | (go_at_call 15; (with_reducible refine (len_any H5.out).mono ?_); rintro e w6 ⟨rfl, rfl⟩)
            | (go_at_call 16; (with_reducible refine (rlen_any G5.out).mono ?_); rintro e w7 ⟨rfl, rfl⟩))
          go_roundw
          case rel => exact ⟨k + 1, v4, v5, _, by go_num, hlt, hxl, ⟨H5.out, G5.out⟩, B5.out⟩
          case measure => simp [intOf]; omega
        · obtain ⟨pb, po, rfl, hpb, hpc⟩ := hcell hk1
          rw [hk2] at hpc
          have d1 := (HBW.out.cell (p := ⟨pb, po + k, none⟩) hpb).trans hpc
          clear hcell hpc hk2
          go_upto_region 14 with fail
          have d3 := (HBW.out.cell (p := ⟨ab, o + k * 2, none⟩) hab).trans c1
          have d4 := (HBW.out.cell (p := ⟨ab, o + k * 2 + 1, none⟩) hab).trans c2
          go_still_tail 11, (by kernel_rfl)
          change wpList _ _ _ _ _ wr.drew
          have HD : Hid (HpIs W.heap.size wr.drew a va s) := HT.out.one.below (Below.refl _ _).drew
          have KD : Hid (RfAt W.heap.size wr.drew b vb s) := HT.out.two.below (Below.refl _ _).drew
          have BD : Hid (Below W.heap.size W wr.drew) := HBW.out.drew
          clear d3 d4
          generalize wr.drew = wD at *
          go_upto_region 15 with (go_at_call 13; (with_reducible refine (push_any HD.out hs999 x1 x2).mono ?_); rintro e w4 ⟨rfl, v4, g4, o4⟩; have K4 := Lib.hid (two_stays HD.out KD.out o4); have G4 := Lib.hid g4; have B4 := Lib.hid (BD.out.trans (HD.out.stays o4)); clear g4 o4)
          have d3 := (B4.out.cell (p := ⟨ab, o + k * 2, none⟩) hab).trans c1
          have d4 := (B4.out.cell (p := ⟨ab, o + k * 2 + 1, none⟩) hab).trans c2
          go_still_tail 11, (by kernel_rfl)
          change wpList _ _ _ _ _ w4.drew
          have GE : Hid (HpIs W.heap.size w4.drew a v4 (insP (x1, x2) s)) := G4.out.below (Below.refl _ _).drew
          have KE : Hid (RfAt W.heap.size w4.drew b vb s) := K4.out.below (Below.refl _ _).drew
          have BE : Hid (Below W.heap.size W w4.drew) := B4.out.drew
          clear d3 d4
          generalize w4.drew = wE at *
          go_wp2_with (first
            | (go_at_call 14; (with_reducible refine (rpush_any KE.out hs999 x1 x2).mono ?_); rintro e w5 ⟨rfl, v5, g5, o5⟩; have H5 := Lib.hid (one_stays GE.out KE.out o5); have G5 := Lib.hid g5; have B5 := Lib.hid (BE.out.trans (rf_stays KE.out o5)); clear g5 o5)
            | (go_at_call 15; (with_reducible refine (len_any H5.out).mono ?_); rintro e w6 ⟨rfl, rfl⟩)
            | (go_at_call 16; (with_reducible refine (rlen_any G5.out).mono ?_); rintro e w7 ⟨rfl, rfl⟩))
          go_roundw
          case rel => exact ⟨k + 1, v4, v5, _, by go_num, hlt, hxl, ⟨H5.out, G5.out⟩, B5.out⟩
          case measure => simp [intOf]; omega
    · obtain rfl : N = k := by omega
      have hout : decide (N < l.length) = false ∨ (decide (N < l.length) = true ∧ decide ((N : Int) < 120) = false) := by
        rcases HNE.out with h | h
        · left; simp; omega
        · rcases Nat.lt_or_ge N l.length with h2 | h2
          · right; exact ⟨by simpa using h2, by simp; omega⟩
          · left; simp; omega
      rcases hout with hA | ⟨hA, hB⟩
      all_goals
        go_wp2_with fail
        rw [← HQ.out]
        exact ⟨rfl, HBW.out⟩
end Go.Proofs.Ytcaehjflfpnenaa.Hp
