import Derived.Test.YthmblgfcjbiomaaRg
import Derived.Test.YthmblgfcjbiomaaRf
import Derived.Test.YthmblgfcjbiomaaHi
import Derived.StillTailTactics
/- The search in memory: its box, its heap; come. -/
set_option linter.unusedVariables false
set_option linter.unusedSimpArgs false
namespace Go.Proofs.Ythmblgfcjbiomaa.Rt
open Go.RowKit Ly

def sC (ev bv : Value) (c : List Bool) (hb : Nat) : Array Value := (ev :: bv :: (c.map Value.bool ++ [.pointer (some ⟨hb, 0, none⟩)])).toArray
theorem sC_size (ev bv : Value) (c : List Bool) (hb : Nat) : (sC ev bv c hb).size = c.length + 3 := by simp [sC]
theorem sC_get {ev bv : Value} {c : List Bool} {hb i : Nat} (h : i < c.length) : (sC ev bv c hb)[2 + i]? = some (.bool (atb c i)) := by
  unfold atb sC
  rw [List.getD_eq_getElem?_getD, List.getElem?_eq_getElem h, List.getElem?_toArray, Nat.add_comm 2 i, List.getElem?_cons_succ, List.getElem?_cons_succ, List.getElem?_append_left (by simpa using h)]
  simp [h]
theorem sC_last {ev bv : Value} {c : List Bool} {hb : Nat} (h : c.length = 40) : (sC ev bv c hb)[42]? = some (.pointer (some ⟨hb, 0, none⟩)) := by
  unfold sC
  rw [List.getElem?_toArray, List.getElem?_cons_succ, List.getElem?_cons_succ, List.getElem?_append_right (by simp [h])]
  simp [h]
theorem sC_set (ev bv : Value) (c : List Bool) (hb i : Nat) (h : i < c.length) : (sC ev bv c hb).setIfInBounds (2 + i) (.bool true) = sC ev bv (c.set i true) hb := by
  unfold sC
  rw [List.setIfInBounds_toArray, Nat.add_comm 2 i, List.set_cons_succ, List.set_cons_succ, List.set_append_left _ _ (by simpa using h), List.map_set]

/-- The search's box. -/
structure SAt (w : World) (sb hb : Nat) (ev bv : Value) (c : List Bool) : Prop where
  cell : w.heap[sb]? = some (.cells (sC ev bv c hb) 64 (0, 0))
  len : c.length = 40
theorem SAt.lt {w : World} {sb hb : Nat} {ev bv : Value} {c : List Bool} (h : SAt w sb hb ev bv c) : sb < w.heap.size := (Array.getElem?_eq_some_iff.1 h.cell).1
theorem SAt.c0 {w : World} {sb hb : Nat} {ev bv : Value} {c : List Bool} (h : SAt w sb hb ev bv c) : w.cell? ⟨sb, 0, none⟩ = some ev := by rw [cell_of_row w sb 0 _ _ _ h.cell]; rfl
theorem SAt.c1 {w : World} {sb hb : Nat} {ev bv : Value} {c : List Bool} (h : SAt w sb hb ev bv c) : w.cell? ⟨sb, 1, none⟩ = some bv := by rw [cell_of_row w sb 1 _ _ _ h.cell]; rfl
theorem SAt.cb {w : World} {sb hb : Nat} {ev bv : Value} {c : List Bool} (h : SAt w sb hb ev bv c) {i : Nat} (hi : i < 40) : w.cell? ⟨sb, 2 + i, none⟩ = some (.bool (atb c i)) := by rw [cell_of_row w sb _ _ _ _ h.cell]; exact sC_get (by rw [h.len]; exact hi)
theorem SAt.ch {w : World} {sb hb : Nat} {ev bv : Value} {c : List Bool} (h : SAt w sb hb ev bv c) : w.cell? ⟨sb, 42, none⟩ = some (.pointer (some ⟨hb, 0, none⟩)) := by rw [cell_of_row w sb _ _ _ _ h.cell]; exact sC_last h.len
theorem SAt.thaw {w : World} {sb hb : Nat} {ev bv : Value} {c : List Bool} (h : SAt w sb hb ev bv c) (i : Nat) : w.frozen? ⟨sb, i, none⟩ = false := frozen_of_row w sb i _ _ h.cell
theorem SAt.keep {w w' : World} {sb hb : Nat} {ev bv : Value} {c : List Bool} (h : SAt w sb hb ev bv c) (hk : w'.heap[sb]? = w.heap[sb]?) : SAt w' sb hb ev bv c := ⟨hk.trans h.cell, h.len⟩
theorem SAt.set {w : World} {sb hb : Nat} {ev bv : Value} {c : List Bool} (h : SAt w sb hb ev bv c) {i : Nat} (hi : i < 40) : SAt (w.setCell ⟨sb, 2 + i, none⟩ (.bool true)) sb hb ev bv (c.set i true) := by
  refine ⟨?_, by simpa using h.len⟩
  have := heap_setCell_same w sb (2 + i) _ _ (.bool true) h.cell
  rw [this, sC_set _ _ _ _ _ (by rw [h.len]; exact hi)]

/-- The search: what it reads lies as it lay in W0; its box, its heap are its own. -/
structure SI (W0 : World) (base : Nat) (w : World) (sb hb : Nat) (hv ev bv : Value) (c : List Bool) (q : List Hp.Pr) : Prop where
  s : SAt w sb hb ev bv c
  h : Hp.HpIs base w hb hv q
  ge : base ≤ sb
  n1 : sb ≠ hb
  n2 : hv.ownBlock ≠ some sb
  bel : Below W0.heap.size W0 w
  le : W0.heap.size ≤ base
theorem SI.below {W0 w w' : World} {base sb hb : Nat} {hv ev bv : Value} {c : List Bool} {q : List Hp.Pr} (h : SI W0 base w sb hb hv ev bv c q) (k : Below w.heap.size w w') : SI W0 base w' sb hb hv ev bv c q :=
  ⟨h.s.keep (k.block _ h.s.lt), h.h.below k, h.ge, h.n1, h.n2, h.bel.trans (k.mono h.bel.size), h.le⟩
theorem SI.only {W0 w w' : World} {base sb hb : Nat} {hv hv' ev bv : Value} {c : List Bool} {q q' : List Hp.Pr} (h : SI W0 base w sb hb hv ev bv c q) (k : Hp.HpIs base w' hb hv' q') (o : Hp.Only hb hv.ownBlock hv'.ownBlock w w') : SI W0 base w' sb hb hv' ev bv c q' ∧ Below base w w' := by
  have ha := h.h.at
  have hlt := h.s.lt
  have hB : Below base w w' := ⟨o.os, o.tape, o.output, o.size, fun i hi => o.block i (by omega) (by omega) (fun e => by have := ha.2.2.2 i e.symm; omega)⟩
  refine ⟨⟨h.s.keep (o.block _ hlt h.n1 (fun e => h.n2 e.symm)), k, h.ge, h.n1, fun e => ?_, h.bel.trans (hB.mono h.le), h.le⟩, hB⟩
  rcases o.row sb e with e | e
  · exact h.n2 e
  · omega
theorem SI.set {W0 w : World} {base sb hb : Nat} {hv ev bv : Value} {c : List Bool} {q : List Hp.Pr} (h : SI W0 base w sb hb hv ev bv c q) {i : Nat} (hi : i < 40) : SI W0 base (w.setCell ⟨sb, 2 + i, none⟩ (.bool true)) sb hb hv ev bv (c.set i true) q :=
  ⟨h.s.set hi, h.h.keep (heap_setCell_other w ⟨sb, 2 + i, none⟩ hb _ (fun e => h.n1 e.symm)) (fun g hg => heap_setCell_other w ⟨sb, 2 + i, none⟩ g _ (fun e => h.n2 (by rw [hg]; exact congrArg some e))), h.ge, h.n1, h.n2, h.bel.setCell (p := ⟨sb, 2 + i, none⟩) (Nat.le_trans h.le h.ge) _, h.le⟩
theorem SI.turn {W0 w w' : World} {base sb hb : Nat} {hv ev bv : Value} {c : List Bool} {q : List Hp.Pr} {T : Nat → Prop} (h : SI W0 base w sb hb hv ev bv c q) (k : Kt T w w') (hT : ∀ i, T i → i < base ∧ W0.heap.size ≤ i) : SI W0 base w' sb hb hv ev bv c q := by
  have ha := h.h.at
  have keep : ∀ i, base ≤ i → i < w.heap.size → w'.heap[i]? = w.heap[i]? := fun i h1 h2 => k.block i h2 (fun e => by have := hT i e; omega)
  refine ⟨h.s.keep (keep _ h.ge h.s.lt), h.h.keep (keep _ ha.1 ha.2.1) (fun g hg => keep _ (ha.2.2.2 g hg).1 (ha.2.2.2 g hg).2), h.ge, h.n1, h.n2, ?_, h.le⟩
  exact ⟨k.os.trans h.bel.os, k.tape.trans h.bel.tape, k.output.trans h.bel.output, Nat.le_trans h.bel.size k.size, fun i hi => (k.block i (Nat.lt_of_lt_of_le hi h.bel.size) (fun e => by have := hT i e; omega)).trans (h.bel.block i hi)⟩
theorem push_si {W0 w : World} {base sb hb : Nat} {hv ev bv : Value} {c : List Bool} {q : List Hp.Pr} (h : SI W0 base w sb hb hv ev bv c q) (hq : q.length ≤ 999) (k t k' t' : Int) (hk : k = k') (ht : t = t') :
    Calls Try.prog 39 #[.pointer (some ⟨hb, 0, none⟩), .int .i64 k, .int .i64 t] w (fun e w' => e = .returned (.tuple #[]) ∧ ∃ hv', SI W0 base w' sb hb hv' ev bv c (Hp.insP (k', t') q) ∧ Below base w w') := by
  subst hk ht
  refine (Hp.push_any h.h hq k t).mono ?_
  rintro e w' ⟨rfl, hv', h1, h2⟩
  exact ⟨rfl, hv', h.only h1 h2⟩
def ComeRet (W0 : World) (base : Nat) (w : World) (sb hb : Nat) (ev bv : Value) (c : List Bool) (q : List Hp.Pr) (e : Ending) (w' : World) : Prop :=
  e = .returned (.tuple #[]) ∧ ∃ hv', SI W0 base w' sb hb hv' ev bv c q ∧ Below base w w'

set_option maxHeartbeats 4000000 in
set_option maxRecDepth 100000 in
theorem come_any {n : Int} {es : List Ed} {bl : List Int} {W0 w : World} {base sb hb : Nat} {hv ev bv : Value} {c : List Bool} {q : List Hp.Pr} (h : SI W0 base w sb hb hv ev bv c q) (he : EdgesAt W0 ev es) (hbl : IntsAt W0 bv bl) (hr : RightL n es)
    (u : Nat) (k : Int) (hu : u < 40) (hk0 : 0 ≤ k) (hk1 : k ≤ 100000) (hq : q.length ≤ 200) :
    Calls Try.prog 36 #[.pointer (some ⟨sb, 0, none⟩), .int .i64 u, .int .i64 k] w (ComeRet W0 base w sb hb ev bv (c.set u true) (comeB es bl u k q)) := by
  have HS := Lib.hid (h.set hu)
  have hf := h.s.thaw
  have hlt := h.s.lt
  have ho : w.cell? ⟨sb, 2 + u, none⟩ = some (.bool (atb c u)) := h.s.cb hu
  have HB : Hid (Below base w (w.setCell ⟨sb, 2 + u, none⟩ (.bool true))) := (Below.refl _ _).setCell (p := ⟨sb, 2 + u, none⟩) h.ge _
  obtain ⟨Q, HQ⟩ : ∃ Q, Hid (ComeRet W0 base w sb hb ev bv (c.set u true) (comeB es bl u k q) = Q) := ⟨_, rfl⟩
  rw [HQ.out]
  have HE := Lib.hid (he.below HS.out.bel (Nat.le_refl _))
  have HI := Lib.hid (hbl.below HS.out.bel (Nat.le_refl _))
  obtain ⟨t, ht⟩ : ∃ t, decide ((u : Int) ∈ bl) = t := ⟨_, rfl⟩
  have C := Lib.hid (contains_any bl u bv _ HI.out t ht)
  have HT := Lib.hid ht
  have d1 := HS.out.s.c1
  have d0 := HS.out.s.c0
  clear h hbl ht
  go_enter Try.func36, Try.ntmps36
  go_upto_region 1 with fail
  generalize w.setCell ⟨sb, 2 + u, none⟩ (.bool true) = w1 at *
  cases t with
  | true =>
    go_wp2_with (go_at_call 38; (with_reducible refine (C.out).mono ?_); rintro e w2 ⟨rfl, rfl⟩)
    go_end0
    rw [← HQ.out]
    refine ⟨rfl, hv, ?_, HB.out⟩
    rw [comeB_yes (by simpa using HT.out)]
    exact HS.out
  | false =>
    rw [comeB_no (by simpa using HT.out)] at HQ
    have h120 : es.length ≤ 120 := hr.2.2.1
    have HR : Hid (∀ j, j < es.length → 1 ≤ (ate es j).2.2 ∧ (ate es j).2.2 ≤ 1000) := fun j hj => (hr.at hj).2.2.2
    obtain ⟨ao, cap, rfl, hel, hec⟩ := he
    have HEC := Lib.hid hec
    clear hec hr HT
    go_upto_region 2 with (go_at_call 38; (with_reducible refine (C.out).mono ?_); rintro e w2 ⟨rfl, rfl⟩)
    clear ho hf hlt d0 d1
    have d0 := HS.out.s.c0
    go_wp2_with fail
    go_loopw [24] (fun i wr => ∃ (m : Nat) (hv' : Value), m ≤ es.length ∧ i = .int .i64 m ∧ Hid (SI W0 base wr sb hb hv' (.slice ao es.length cap) bv (c.set u true) (comeL es u k m q)) ∧ Hid (Below base w wr)) (fun i _ => es.length - (intOf i).toNat)
    case atStart => exact ⟨0, hv, Nat.zero_le _, rfl, HS, HB⟩
    case round =>
      obtain ⟨m, hv', hm, rfl, HM, HBW⟩ := hrel
      by_cases hlt : m < es.length
      · obtain ⟨b, o, rfl, lb, hcs⟩ := HEC.out (by omega)
        have g0 := (HM.out.bel.cell (p := ⟨b, o + m * 3, none⟩) lb).trans (hcs m hlt).1
        have g1 := (HM.out.bel.cell (p := ⟨b, o + m * 3 + 1, none⟩) lb).trans (hcs m hlt).2.1
        have g2 := (HM.out.bel.cell (p := ⟨b, o + m * 3 + 2, none⟩) lb).trans (hcs m hlt).2.2
        have hcost := HR.out m hlt
        have HMa := Lib.hid (HM.out.below ((Below.refl _ wr).alloc (Nat.le_refl _) (.cells #[.int .i64 (ate es m).1, .int .i64 (ate es m).2.1, .int .i64 (ate es m).2.2] 41)))
        have HBa : Hid (Below base w (wr.alloc (.cells #[.int .i64 (ate es m).1, .int .i64 (ate es m).2.1, .int .i64 (ate es m).2.2] 41))) := HBW.out.alloc (by have := HM.out.ge; have := HM.out.s.lt; omega) _
        have hlen := len_comeL es (u : Int) k q m
        have hcnt := cnt_le es (fun v => decide (v = (u : Int))) m
        have hql : (comeL es (u : Int) k m q).length ≤ 999 := by omega
        have HQL := Lib.hid hql
        clear hcs hlen hcnt hql
        by_cases h1 : (ate es m).2.1 = (u : Int)
        · have HL := Lib.hid (comeL_yes (es := es) (u := (u : Int)) (c := k) (q := q) h1)
          generalize (ate es m).2.2 = y at *
          generalize (ate es m).1 = f at *
          rw [h1] at g1 HMa HBa
          clear h1 d0
          have hw : IntKind.i64.wrap (k + y) = k + y := by rw [IntKind.wrap_i64]; omega
          have x0 := HMa.out.s.ch
          have x2 : (wr.alloc (.cells #[.int .i64 f, .int .i64 (u : Int), .int .i64 y] 41)).cell? ⟨wr.heap.size, 2, none⟩ = some (.int .i64 y) := by rw [cell_of_row _ _ 2 _ _ _ (heap_alloc_new wr _)]; rfl
          go_upto_region 6 with fail
          generalize wr.alloc (.cells #[.int .i64 f, .int .i64 (u : Int), .int .i64 y] 41) = w2 at *
          generalize wr.heap.size = e at *
          go_still_tail 9, (by kernel_rfl)
          change wpList _ _ _ _ _ w2.drew
          have HMd := Lib.hid (HMa.out.below (Below.refl _ _).drew)
          have HBd : Hid (Below base w w2.drew) := HBa.out.drew
          generalize w2.drew = wD at *
          go_wp2_with (go_at_call 39; (with_reducible refine (push_si HMd.out HQL.out _ _ _ _ rfl rfl).mono ?_); rintro e2 w3 ⟨rfl, hv3, h3, b3⟩)
          go_roundw
          case rel => exact ⟨m + 1, hv3, by omega, by go_num, by rw [HL.out]; exact h3, HBd.out.trans b3⟩
          case measure => simp [intOf]; omega
        · have HL := Lib.hid (comeL_no (es := es) (u := (u : Int)) (c := k) (q := q) h1)
          have d1 : ((ate es m).2.1 == (u : Int)) = false := by simpa using h1
          generalize (ate es m).2.2 = y at *
          generalize (ate es m).2.1 = g at *
          generalize (ate es m).1 = f at *
          go_wp2_with fail
          go_roundw
          case rel => exact ⟨m + 1, hv', by omega, by go_num, by rw [HL.out]; exact HMa, HBa⟩
          case measure => simp [intOf]; omega
      · obtain rfl : m = es.length := by omega
        go_wp2_with fail
        go_end0
        rw [← HQ.out]
        exact ⟨rfl, hv', HM.out, HBW.out⟩
end Go.Proofs.Ythmblgfcjbiomaa.Rt
