import Derived.Test.YthmblgfcjbiomaaYe
/- marked and comeTo: rows of bools by value. -/
set_option linter.unusedVariables false
set_option linter.unusedSimpArgs false
namespace Go.Proofs.Ythmblgfcjbiomaa.Ly
open Go.RowKit

def Marks (n : Int) (bl : List Int) (c : List Bool) : Prop := c.length = 40 ∧ ∀ i : Nat, i < 40 → (atb c i = true ↔ (i : Int) < n ∧ (i : Int) ∈ bl)
theorem Marks.zero (n : Int) : Marks n [] (List.replicate 40 false) := ⟨by simp, fun i _ => by rw [atb_rep]; simp⟩
theorem Marks.yes {n : Int} {bl : List Int} {k : Nat} {c : List Bool} (h : Marks n (bl.take k) c) (hk : k < bl.length) (hn : n ≤ 40) (hx : nodeB n (ati bl k) = true) : Marks n (bl.take (k + 1)) (c.set (ati bl k).toNat true) := by
  obtain ⟨h0, h1⟩ := nodeB_iff.1 hx
  refine ⟨by simpa using h.1, fun i hi => ?_⟩
  rw [atb_set (by rw [h.1]; omega), mem_take_at hk]
  by_cases e : i = (ati bl k).toNat
  · rw [if_pos e]
    exact ⟨fun _ => ⟨by omega, .inr (by omega)⟩, fun _ => rfl⟩
  · rw [if_neg e, h.2 i hi]
    constructor
    · rintro ⟨x, y⟩; exact ⟨x, .inl y⟩
    · rintro ⟨x, y | y⟩
      · exact ⟨x, y⟩
      · omega
theorem Marks.no {n : Int} {bl : List Int} {k : Nat} {c : List Bool} (h : Marks n (bl.take k) c) (hk : k < bl.length) (hx : nodeB n (ati bl k) = false) : Marks n (bl.take (k + 1)) c := by
  refine ⟨h.1, fun i hi => ?_⟩
  rw [mem_take_at hk, h.2 i hi]
  constructor
  · rintro ⟨x, y⟩; exact ⟨x, .inl y⟩
  · rintro ⟨x, y | y⟩
    · exact ⟨x, y⟩
    · have := nodeB_iff (n := n) (a := ati bl k)
      rw [hx] at this
      exact absurd (this.2 ⟨by omega, by omega⟩) (by simp)
theorem nodes_size : (Try.prog.info? 55).map (·.size) = some 40 := by kernel_rfl
theorem size_of {c : List Bool} (h : c.length = 40) : (Try.prog.info? 55).map (·.size) = some (boolC c).size := by rw [nodes_size, boolC_size, h]
theorem boolC_one (c : List Bool) : (boolC c).all (·.oneCell') = true := by
  rw [Array.all_eq_true_iff_forall_mem]
  intro v hv
  simp [boolC] at hv
  rcases hv with ⟨_, rfl⟩ | ⟨_, rfl⟩ <;> rfl
theorem zero40 : (#[.bool false, .bool false, .bool false, .bool false, .bool false, .bool false, .bool false, .bool false, .bool false, .bool false, .bool false, .bool false, .bool false, .bool false, .bool false, .bool false, .bool false, .bool false, .bool false, .bool false, .bool false, .bool false, .bool false, .bool false, .bool false, .bool false, .bool false, .bool false, .bool false, .bool false, .bool false, .bool false, .bool false, .bool false, .bool false, .bool false, .bool false, .bool false, .bool false, .bool false] : Array Value) = boolC (List.replicate 40 false) := rfl
theorem Below.setRow {B : Nat} {a w : World} (h : Below B a w) {g : Nat} (hg : B ≤ g) (cs : Array Value) : Below B a (w.setRow g cs) :=
  ⟨h.os, h.tape, h.output, by rw [setRow_size]; exact h.size, fun k hk => (setRow_other w g k cs (by omega)).trans (h.block k hk)⟩
/-- What a loop over a row of bools leaves: a layout's box, the result's block, the row. -/
structure MI (n : Int) (v : Value) (w wr : World) (bx rs ar : Nat) (c : List Bool) : Prop where
  below : Below w.heap.size w wr
  box : BoxAt n v wr bx
  res : ArrAt wr rs 55 (List.replicate 40 false)
  arr : ArrAt wr ar 55 c
  len : c.length = 40
  ge : w.heap.size ≤ ar
  ger : w.heap.size ≤ rs
  n1 : bx ≠ ar
  n2 : rs ≠ ar
theorem MI.grow {n : Int} {v : Value} {w wr wr' : World} {bx rs ar : Nat} {c : List Bool} (h : MI n v w wr bx rs ar c) (hb : Below wr.heap.size wr wr') : MI n v w wr' bx rs ar c :=
  ⟨h.below.trans (hb.mono h.below.size), h.box.below hb, h.res.below hb h.res.lt, h.arr.below hb h.arr.lt, h.len, h.ge, h.ger, h.n1, h.n2⟩
theorem MI.set {n : Int} {v : Value} {w wr : World} {bx rs ar : Nat} {c : List Bool} (h : MI n v w wr bx rs ar c) (i : Nat) : MI n v w (wr.setCell ⟨ar, i, none⟩ (.bool true)) bx rs ar (c.set i true) := by
  refine ⟨h.below.setCell h.ge _, ⟨?_, ?_, ?_⟩, h.res.other _ h.n2, h.arr.set i, by simpa using h.len, h.ge, h.ger, h.n1, h.n2⟩
  · rw [World.cell?_setCell_other _ _ _ _ (fun e => h.n1 (congrArg Addr.block e).symm)]; exact h.box.c0
  · rw [World.cell?_setCell_other _ _ _ _ (fun e => h.n1 (congrArg Addr.block e).symm)]; exact h.box.c1
  · have := h.box.lt
    simpa using this
/-- A row of bools that was made. -/
def RetMarks (n : Int) (bl : List Int) (w : World) (e : Ending) (w' : World) : Prop := ∃ c, e = .returned (.agg (boolC c)) ∧ Marks n bl c ∧ Below w.heap.size w w'
theorem MI.start (n : Int) (v : Value) (w : World) : MI n v w (((w.alloc (.cells #[.int .i64 n, v] 24)).alloc (.cells (boolC (List.replicate 40 false)) 55)).alloc (.cells (boolC (List.replicate 40 false)) 55)) w.heap.size (w.heap.size + 1) (w.heap.size + 1 + 1) (List.replicate 40 false) := by
  have hb : Below w.heap.size w (w.alloc (.cells #[.int .i64 n, v] 24)) := (Below.refl _ w).alloc (Nat.le_refl _) _
  have h2 := heap_alloc2_new (w.alloc (.cells #[.int .i64 n, v] 24)) (.cells (boolC (List.replicate 40 false)) 55) (.cells (boolC (List.replicate 40 false)) 55)
  have h1 := heap_alloc2_old (w.alloc (.cells #[.int .i64 n, v] 24)) (.cells (boolC (List.replicate 40 false)) 55) (.cells (boolC (List.replicate 40 false)) 55)
  have hs : (w.alloc (.cells #[.int .i64 n, v] 24)).heap.size = w.heap.size + 1 := by simp
  rw [hs] at h1 h2
  have hb2 := ((Below.refl (w.alloc (.cells #[.int .i64 n, v] 24)).heap.size (w.alloc (.cells #[.int .i64 n, v] 24))).alloc (Nat.le_refl _) (.cells (boolC (List.replicate 40 false)) 55)).alloc (by simp) (.cells (boolC (List.replicate 40 false)) 55)
  exact ⟨hb.trans (hb2.mono (by simp)), (BoxAt.new n v w).below hb2, h1, h2, by simp, by omega, by omega, by omega, by omega⟩
set_option maxRecDepth 100000 in
set_option maxHeartbeats 8000000 in
theorem marked_any {n : Int} {w : World} (v bv : Value) (bl : List Int) (hbl : IntsAt w bv bl) (hn : n ≤ 40) :
    Calls Try.prog 32 #[.agg #[.int .i64 n, v], bv] w (RetMarks n bl w) := by
  obtain ⟨ao, cap, rfl, hl, hc⟩ := hbl
  have HC := Lib.hid hc
  have HS := Lib.hid (MI.start n v w)
  clear hc
  obtain ⟨Q, HQ⟩ : ∃ Q, Hid (RetMarks n bl w = Q) := ⟨_, rfl⟩
  rw [HQ.out]
  have C := Lib.hid (fun a w t (h : nodeB n a = t) => isNode_any n a v w t h)
  have HZ := zero40
  obtain ⟨Z0, hZ0⟩ : ∃ Z, Hid (boolC (List.replicate 40 false) = Z) := ⟨_, rfl⟩
  rw [hZ0.out] at HZ HS
  go_enter Try.func32, Try.ntmps32
  go_upto_region 2 with fail
  clear HZ
  generalize ((w.alloc (.cells #[.int .i64 n, v] 24)).alloc (.cells Z0 55)).alloc (.cells Z0 55) = w1 at *
  go_wp2
  go_loopw [10] (fun i wr => ∃ (k : Nat) (c : List Bool), k ≤ bl.length ∧ i = .int .i64 k ∧ Hid (MI n v w wr w.heap.size (w.heap.size + 1) (w.heap.size + 1 + 1) c) ∧ Hid (Marks n (bl.take k) c)) (fun i _ => bl.length - (intOf i).toNat)
  case atStart => exact ⟨0, _, Nat.zero_le _, rfl, HS, by show Marks _ _ _; simpa using Marks.zero n⟩
  case round =>
    obtain ⟨k, c, hk, rfl, HM, HK⟩ := hrel
    by_cases hlt : k < bl.length
    · obtain ⟨b, o, rfl, lb, hcs⟩ := HC.out (by omega)
      have g0 := (HM.out.below.cell (p := ⟨b, o + k, none⟩) lb).trans (hcs k hlt)
      have c0 := HM.out.box.c0
      have c1 := HM.out.box.c1
      clear hcs
      cases hx : nodeB n (ati bl k) with
      | false =>
        have HN : Hid (Marks n (bl.take (k + 1)) c) := HK.out.no hlt hx
        have HX := Lib.hid hx
        clear hx
        generalize ati bl k = x at *
        go_wp2_with (go_at_call 30; (with_reducible refine (C.out _ _ _ HX.out).mono ?_); rintro e w2 ⟨rfl, hb2⟩; have HM2 := Lib.hid (HM.out.grow hb2); clear hb2)
        go_roundw
        case rel => exact ⟨k + 1, c, by omega, by go_num, HM2, HN⟩
        case measure => simp [intOf]; omega
      | true =>
        have HN : Hid (Marks n (bl.take (k + 1)) (c.set (ati bl k).toNat true)) := HK.out.yes hlt hn hx
        have HX := Lib.hid hx
        obtain ⟨h0, h1⟩ := nodeB_iff.1 hx
        have h40 : ati bl k < 40 := by omega
        clear hx
        generalize ati bl k = x at *
        go_wp2_with (go_at_call 30; (with_reducible refine (C.out _ _ _ HX.out).mono ?_); rintro e w2 ⟨rfl, hb2⟩; have HM2 := Lib.hid (HM.out.grow hb2); have hce := HM2.out.arr.cell (i := x.toNat) (by rw [HM2.out.len]; omega); have hfr := HM2.out.arr.thaw x.toNat; clear hb2)
        go_roundw
        case rel => exact ⟨k + 1, _, by omega, by go_num, HM2.out.set x.toNat, HN⟩
        case measure => simp [intOf]; omega
    · have HN : Hid (Marks n bl c) := by
        have := HK.out
        rwa [List.take_of_length_le (by omega)] at this
      have HA : Hid (wr.heap[w.heap.size + 1 + 1]? = some (.cells (boolC c) 55 (0, 0))) := HM.out.arr
      have HR : Hid (wr.heap[w.heap.size + 1]? = some (.cells (boolC (List.replicate 40 false)) 55 (0, 0))) := HM.out.res
      have HZ := Lib.hid (size_of HM.out.len)
      have HO := Lib.hid (boolC_one c)
      have HY : Hid ((boolC (List.replicate 40 false)).size = (boolC c).size) := by show _ = _; rw [boolC_size, boolC_size, HM.out.len]; simp
      have HBn : Hid (Below w.heap.size w (wr.setRow (w.heap.size + 1) (boolC c))) := Below.setRow HM.out.below (by omega) _
      have HRn := Lib.hid (setRow_heap wr (w.heap.size + 1) _ (boolC c) 55 (0, 0) HM.out.res)
      generalize hcc : boolC c = C' at *
      go_wp2_with (first
        | (refine wpList_load_row rfl 55 _ rfl (w.heap.size + 1 + 1) rfl 55 C' (0, 0) _ HA.out Try.underlying55 rfl HZ.out ?_)
        | (refine wpList_store_row rfl 55 _ _ rfl (w.heap.size + 1) C' rfl rfl 55 _ HR.out HZ.out HY.out HO.out ?_))
      refine bodyPost_ret (v := .agg C') (results_cell_row (p := 4) (ty := 55) rfl _ _ (w.heap.size + 1) 55 C' (0, 0) _ rfl HRn.out Try.underlying55 rfl HZ.out) rfl ?_
      rw [← HQ.out]
      exact ⟨c, by rw [hcc], HN.out, HBn.out⟩
end Go.Proofs.Ythmblgfcjbiomaa.Ly
