import Derived.Test.YthmblgfcjbiomaaRj
import Derived.Test.YthmblgfcjbiomaaRi
import Derived.Test.YthmblgfcjbiomaaGi
import Derived.Sort.CutIn
import Derived.Laws.MakeOwn
/- Far. -/
set_option linter.unusedVariables false
set_option linter.unusedSimpArgs false
namespace Go.Proofs.Ythmblgfcjbiomaa.Rt
open Go.RowKit Go.Shelf Ly
attribute [local go_sem] Oper.semAt_some

/-- A row of numbers in a block. -/
def IRow (w : World) (b : Nat) (T : TypeId) (o : List Int) : Prop := w.heap[b]? = some (.cells (intC o).toArray T (0, 0))
theorem IRow.lt {w : World} {b : Nat} {T : TypeId} {o : List Int} (h : IRow w b T o) : b < w.heap.size := (Array.getElem?_eq_some_iff.1 h).1
theorem IRow.cell {w : World} {b : Nat} {T : TypeId} {o : List Int} (h : IRow w b T o) {i : Nat} (hi : i < o.length) : w.cell? ⟨b, i, none⟩ = some (.int .i64 (ati o i)) := by
  rw [cell_of_row w b i _ _ _ h, List.getElem?_toArray]
  exact intC_get hi
theorem IRow.thaw {w : World} {b : Nat} {T : TypeId} {o : List Int} (h : IRow w b T o) (i : Nat) : w.frozen? ⟨b, i, none⟩ = false := frozen_of_row w b i _ _ h
theorem IRow.keep {w w' : World} {b : Nat} {T : TypeId} {o : List Int} (h : IRow w b T o) (hk : w'.heap[b]? = w.heap[b]?) : IRow w' b T o := hk.trans h
theorem IRow.set {w : World} {b : Nat} {T : TypeId} {o : List Int} (h : IRow w b T o) (i : Nat) (x : Int) : IRow (w.setCell ⟨b, i, none⟩ (.int .i64 x)) b T (o.set i x) := by
  have := heap_setCell_same w b i _ _ (.int .i64 x) h
  unfold IRow
  rw [this, List.setIfInBounds_toArray]
  simp [intC, List.map_set]
theorem IRow.ints {w : World} {b : Nat} {T : TypeId} {o : List Int} (h : IRow w b T o) {N c : Nat} (hn : o.length = N) (hl : N ≤ 1000000000000000000) : IntsAt w (.slice (some ⟨b, 0, none⟩) N c) o := by
  subst hn
  exact ⟨_, c, rfl, hl, fun _ => ⟨b, 0, rfl, h.lt, fun j hj => by rw [Nat.zero_add]; exact h.cell hj⟩⟩
theorem IRow.new (w : World) (T : TypeId) (o : List Int) : IRow (w.alloc (.cells (intC o).toArray T)) w.heap.size T o := heap_alloc_new w _
theorem int_info' : (Try.prog.info? 3).map (fun i => (i.zero, i.size, i.bytes)) = some (some (.int .i64 0), 1, 8) := by kernel_rfl
theorem made_ints (N : Nat) : madeCells (Value.int .i64 0).cells (N * 1) = (intC (List.replicate N 0)).toArray := by
  unfold madeCells intC
  apply Array.ext
  · simp
  · intro i h1 h2
    simp [Value.cells, Nat.mod_one]
theorem make_ints (N : Nat) (hN : N ≤ 40) (w : World) : (Instr.makeSlice 26 (.int .i64 (N : Int)) (.int .i64 (N : Int))).run Try.prog w = .ok (.slice (some ⟨w.heap.size, 0, none⟩) N N) (w.alloc (.cells (intC (List.replicate N 0)).toArray 3)) := by
  obtain ⟨i0, hi0, hz0, hz1, hz2⟩ := info_parts int_info'
  have := run_make (P := Try.prog) w 26 3 i0 _ Try.underlying26 hi0 hz0 .i64 .i64 (N : Int) (N : Int) (by omega) (by omega) (by rw [hz2]; omega) (by omega)
  rw [this, hz1, Int.toNat_natCast]
  exact congrArg (fun c => Result.ok _ (w.alloc (.cells c 3))) (made_ints N)

/-- The iterator's maker. -/
def CostsRet (n : Int) (v bv : Value) (b : Int) (w : World) (e : Ending) (w' : World) : Prop :=
  e = .returned (.func (.func 34) #[] #[.pointer (some ⟨w.heap.size, 0, none⟩), .pointer (some ⟨w.heap.size + 1, 0, none⟩), .pointer (some ⟨w.heap.size + 2, 0, none⟩)]) ∧
    Below w.heap.size w w' ∧ w'.heap.size = w.heap.size + 3 ∧ w'.cell? ⟨w.heap.size, 1, none⟩ = some v ∧ w'.cell? ⟨w.heap.size + 1, 0, none⟩ = some bv ∧ w'.cell? ⟨w.heap.size + 2, 0, none⟩ = some (.int .i64 b)
theorem costs_any (n : Int) (eo bo : Option Addr) (le ce lb cb : Nat) (b : Int) (w : World) :
    Calls Try.prog 27 #[.agg #[.int .i64 n, .slice eo le ce], .slice bo lb cb, .int .i64 b] w (CostsRet n (.slice eo le ce) (.slice bo lb cb) b w) := by
  obtain ⟨Q, HQ⟩ : ∃ Q, Hid (CostsRet n (.slice eo le ce) (.slice bo lb cb) b w = Q) := ⟨_, rfl⟩
  rw [HQ.out]
  go_enter Try.func27, Try.ntmps27
  go_wp2
  rw [← HQ.out]
  have hb1 : Below w.heap.size w (w.alloc (.cells #[.int .i64 n, .slice eo le ce] 24)) := (Below.refl _ w).alloc (Nat.le_refl _) _
  refine ⟨rfl, (hb1.alloc (by simp) _).alloc (by simp; omega) _, by simp, ?_, ?_, ?_⟩
  · have h1 := cell_of_row _ _ 1 _ _ _ (heap_alloc_new w (.cells #[.int .i64 n, .slice eo le ce] 24))
    have h2 : Below (w.heap.size + 1) (w.alloc (.cells #[.int .i64 n, .slice eo le ce] 24)) (((w.alloc (.cells #[.int .i64 n, .slice eo le ce] 24)).alloc (.cells #[.slice bo lb cb] 26)).alloc (.cells #[.int .i64 b] 3)) := ((Below.refl _ _).alloc (by simp) _).alloc (by simp) _
    exact (h2.cell (p := ⟨w.heap.size, 1, none⟩) (Nat.lt_succ_self _)).trans h1
  · have h1 := cell_of_row _ _ 0 _ _ _ (heap_alloc_new (w.alloc (.cells #[.int .i64 n, .slice eo le ce] 24)) (.cells #[.slice bo lb cb] 26))
    rw [World.size_alloc] at h1
    have h2 : Below (w.heap.size + 2) ((w.alloc (.cells #[.int .i64 n, .slice eo le ce] 24)).alloc (.cells #[.slice bo lb cb] 26)) (((w.alloc (.cells #[.int .i64 n, .slice eo le ce] 24)).alloc (.cells #[.slice bo lb cb] 26)).alloc (.cells #[.int .i64 b] 3)) := (Below.refl _ _).alloc (by simp) _
    exact (h2.cell (p := ⟨w.heap.size + 1, 0, none⟩) (Nat.lt_succ_self _)).trans h1
  · have h1 := cell_of_row _ _ 0 _ _ _ (heap_alloc_new ((w.alloc (.cells #[.int .i64 n, .slice eo le ce] 24)).alloc (.cells #[.slice bo lb cb] 26)) (.cells #[.int .i64 b] 3))
    simp only [World.size_alloc] at h1
    exact h1

theorem far_no {n : Int} {es : List Ed} {w : World} (v bv : Value) (hv : EdgesAt w v es) (bl : List Int) (b : Int) (h : (rightB n es && nodeB n b) = false) :
    Calls Try.prog 17 #[.agg #[.int .i64 n, v], bv, .int .i64 b] w (RetInts [] w) := by
  have HB0 : Hid (Below w.heap.size w (w.alloc (.cells #[.int .i64 n, v] 24))) := (Below.refl _ w).alloc (Nat.le_refl _) _
  have HX0 := Lib.hid (BoxAt.new n v w)
  have HV := Lib.hid (hv.below HB0.out (Nat.le_refl _))
  obtain ⟨Q, HQ⟩ : ∃ Q, Hid (RetInts [] w = Q) := ⟨_, rfl⟩
  rw [HQ.out]
  cases hr : rightB n es with
  | false =>
    have C := Lib.hid (fun u w' hu => right_any (n := n) (es := es) (w := w') u hu false hr)
    clear hr hv h
    go_enter Try.func17, Try.ntmps17
    go_wp2_with (go_at_call 25; (with_reducible refine (C.out _ _ HV.out).mono ?_); rintro e w1 ⟨rfl, hb1⟩; have HB1 := Lib.hid (HB0.out.trans (hb1.mono HB0.out.size)); clear hb1)
    rw [← HQ.out]
    exact ⟨_, rfl, IntsAt.nil _ _, HB1.out⟩
  | true =>
    rw [hr, Bool.true_and] at h
    have C := Lib.hid (fun u w' hu => right_any (n := n) (es := es) (w := w') u hu true hr)
    have C2 := Lib.hid (fun w' => node12_any n b v w' false h)
    clear hr hv h
    go_enter Try.func17, Try.ntmps17
    go_wp2_with (first
      | (go_at_call 25; (with_reducible refine (C.out _ _ HV.out).mono ?_); rintro e w1 ⟨rfl, hb1⟩; have HB1 := Lib.hid (HB0.out.trans (hb1.mono HB0.out.size)); have HX1 := Lib.hid (HX0.out.below hb1); have c0 := HX1.out.c0; have c1 := HX1.out.c1; clear hb1)
      | (go_at_call 26; (with_reducible refine (C2.out _).mono ?_); rintro e w2 ⟨rfl, hb2⟩; have HB2 := Lib.hid (HB1.out.trans (hb2.mono HB1.out.size)); clear hb2))
    rw [← HQ.out]
    exact ⟨_, rfl, IntsAt.nil _ _, HB2.out⟩
/-- Between Far's steps: the layout's box, the box that holds the row, the row. -/
structure FarI (n : Int) (v : Value) (w wr : World) (xb fb N : Nat) (o : List Int) : Prop where
  below : Below w.heap.size w wr
  box : BoxAt n v wr w.heap.size
  cell : wr.cell? ⟨xb, 0, none⟩ = some (.slice (some ⟨fb, 0, none⟩) N N)
  xlt : xb < wr.heap.size
  row : IRow wr fb 3 o
  len : o.length = N
  ge : w.heap.size < fb
  ne : xb ≠ fb
  xge : w.heap.size ≤ xb
theorem FarI.grow {n : Int} {v : Value} {w wr wr' : World} {xb fb N : Nat} {o : List Int} (h : FarI n v w wr xb fb N o) (hb : Below wr.heap.size wr wr') : FarI n v w wr' xb fb N o :=
  ⟨h.below.trans (hb.mono h.below.size), h.box.below hb, (hb.cell (p := ⟨xb, 0, none⟩) h.xlt).trans h.cell, Nat.lt_of_lt_of_le h.xlt hb.size, h.row.keep (hb.block _ h.row.lt), h.len, h.ge, h.ne, h.xge⟩
theorem FarI.set {n : Int} {v : Value} {w wr : World} {xb fb N : Nat} {o : List Int} (h : FarI n v w wr xb fb N o) (i : Nat) (x : Int) : FarI n v w (wr.setCell ⟨fb, i, none⟩ (.int .i64 x)) xb fb N (o.set i x) := by
  have hg := h.ge
  have hx := h.ne
  refine ⟨h.below.setCell (p := ⟨fb, i, none⟩) (Nat.le_of_lt hg) _, ⟨?_, ?_, ?_⟩, ?_, ?_, h.row.set i x, by simpa using h.len, hg, h.ne, h.xge⟩
  · rw [World.cell?_setCell_other _ _ _ _ (fun e => by have := congrArg Addr.block e; simp at this; omega)]; exact h.box.c0
  · rw [World.cell?_setCell_other _ _ _ _ (fun e => by have := congrArg Addr.block e; simp at this; omega)]; exact h.box.c1
  · have := h.box.lt; simpa using this
  · rw [World.cell?_setCell_other _ _ _ _ (fun e => by have := congrArg Addr.block e; simp at this; omega)]; exact h.cell
  · have := h.xlt; simpa using this

theorem FarI.abide {n : Int} {v : Value} {w X Y : World} {xb fb N B : Nat} {o : List Int} (h : FarI n v w X xb fb N o) (hb : Below B X Y) (h1 : w.heap.size < B) (h2 : xb < B) (h3 : fb < B) : FarI n v w Y xb fb N o :=
  ⟨h.below.trans (hb.mono (by omega)), h.box.belowB hb h1, (hb.cell (p := ⟨xb, 0, none⟩) h2).trans h.cell, Nat.lt_of_lt_of_le h.xlt hb.size, h.row.keep (hb.block _ h3), h.len, h.ge, h.ne, h.xge⟩
theorem FarI.start {n : Int} {v : Value} {w w2 : World} {N : Nat} (hb : Below w.heap.size w w2) (hx : BoxAt n v w2 w.heap.size) :
    FarI n v w ((w2.alloc (.cells (intC (List.replicate N 0)).toArray 3)).alloc (.cells #[.slice (some ⟨w2.heap.size, 0, none⟩) N N] 26)) (w2.heap.size + 1) w2.heap.size N (List.replicate N 0) := by
  have hlt := hx.lt
  have h1 : Below w2.heap.size w2 ((w2.alloc (.cells (intC (List.replicate N 0)).toArray 3)).alloc (.cells #[.slice (some ⟨w2.heap.size, 0, none⟩) N N] 26)) := ((Below.refl _ w2).alloc (Nat.le_refl _) _).alloc (by simp) _
  have h2 : Below (w2.heap.size + 1) (w2.alloc (.cells (intC (List.replicate N 0)).toArray 3)) ((w2.alloc (.cells (intC (List.replicate N 0)).toArray 3)).alloc (.cells #[.slice (some ⟨w2.heap.size, 0, none⟩) N N] 26)) := (Below.refl _ _).alloc (by simp) _
  refine ⟨hb.trans (h1.mono hb.size), hx.below h1, ?_, by simp, (IRow.new w2 _ _).keep (h2.block _ (by omega)), by simp, hlt, by omega, by omega⟩
  have h3 := cell_of_row _ _ 0 _ _ _ (heap_alloc_new (w2.alloc (.cells (intC (List.replicate N 0)).toArray 3)) (.cells #[.slice (some ⟨w2.heap.size, 0, none⟩) N N] 26))
  rw [World.size_alloc] at h3
  exact h3
theorem fill_set {N k : Nat} (h : k < N) : (List.replicate k (-1 : Int) ++ List.replicate (N - k) 0).set k (-1) = List.replicate (k + 1) (-1) ++ List.replicate (N - (k + 1)) 0 := by
  rw [List.set_append_right _ _ (by simp), List.length_replicate, Nat.sub_self, show N - k = (N - (k + 1)) + 1 by omega, List.replicate_succ, List.set_cons_zero, List.replicate_succ' (n := k), List.append_assoc]
  rfl
set_option maxHeartbeats 8000000 in
set_option maxRecDepth 100000 in
theorem far_yes {n : Int} {es : List Ed} {w : World} (v bv : Value) (hv : EdgesAt w v es) (bl : List Int) (hb : IntsAt w bv bl) (b : Int) (hr : RightL n es) (hn : nodeB n b = true) :
    Calls Try.prog 17 #[.agg #[.int .i64 n, v], bv, .int .i64 b] w (RetInts (farL n es bl b) w) := by
  have HB0 : Hid (Below w.heap.size w (w.alloc (.cells #[.int .i64 n, v] 24))) := (Below.refl _ w).alloc (Nat.le_refl _) _
  have HX0 := Lib.hid (BoxAt.new n v w)
  have HV := Lib.hid (hv.below HB0.out (Nat.le_refl _))
  obtain ⟨Q, HQ⟩ : ∃ Q, Hid (RetInts (farL n es bl b) w = Q) := ⟨_, rfl⟩
  rw [HQ.out]
  have C := Lib.hid (fun u w' hu => right_any (n := n) (es := es) (w := w') u hu true (rightB_true hr))
  have C2 := Lib.hid (fun w' => node12_any n b v w' true hn)
  obtain ⟨b0, b1⟩ := nodeB_iff.1 hn
  have HE := Lib.hid hv
  have HI := Lib.hid hb
  obtain ⟨eo, ce, rfl⟩ := slE hv
  obtain ⟨bo, cb, rfl⟩ := slI hb
  have n40 := hr.2.1
  have n1 := hr.1
  obtain ⟨N, hN⟩ : ∃ N : Nat, n = (N : Int) := ⟨n.toNat, by omega⟩
  subst hN
  have hN40 : N ≤ 40 := by omega
  have MK := make_ints N hN40
  clear hv hb hn
  refine (callsIn_wide (n := 6)).1 ?_
  refine callsIn_of_wp_marks Try.func17 rfl trivial ?_ rfl
  simp only [Try.ntmps17, List.size_toArray, List.length_cons, List.length_nil, Nat.reduceAdd, Nat.reduceSub, Array.replicate_succ, Array.replicate_zero, List.push_toArray, List.append_toArray, List.nil_append, List.cons_append]
  refine (wpIn_wide (n := 6)).2 ?_
  go_upto_region 3 with (first
      | (go_at_call 25; (with_reducible refine (C.out _ _ HV.out).mono ?_); rintro e w1 ⟨rfl, hb1⟩; have HB1 := Lib.hid (HB0.out.trans (hb1.mono HB0.out.size)); have HX1 := Lib.hid (HX0.out.below hb1); have c0 := HX1.out.c0; have c1 := HX1.out.c1; clear hb1)
      | (go_at_call 26; (with_reducible refine (C2.out _).mono ?_); rintro e w2 ⟨rfl, hb2⟩; have HB2 := Lib.hid (HB1.out.trans (hb2.mono HB1.out.size)); have HX2 := Lib.hid (HX1.out.below hb2); clear hb2))
  clear c0 c1
  have c0 := HX2.out.c0
  have hs2 := HX2.out.lt
  go_upto_region 4 with fail
  have HF0 := Lib.hid (FarI.start (N := N) HB2.out HX2.out)
  generalize w2.heap.size + 1 = xb at *
  generalize w2.heap.size = fb at *
  generalize (w2.alloc (.cells (intC (List.replicate N 0)).toArray 3)).alloc (.cells #[.slice (some ⟨fb, 0, none⟩) N N] 26) = w3 at *
  clear c0 hs2 MK
  have c0 := HF0.out.cell
  go_wp2_with fail
  go_loopw [25] (fun i wr => ∃ k : Nat, k ≤ N ∧ i = .int .i64 k ∧ Hid (FarI N (.slice eo es.length ce) w wr xb fb N (List.replicate k (-1) ++ List.replicate (N - k) 0))) (fun i _ => N - (intOf i).toNat)
  case atStart => exact ⟨0, Nat.zero_le _, rfl, by simpa using HF0⟩
  case round =>
    obtain ⟨k, hk, rfl, HK⟩ := hrel
    clear c0 HF0
    have c0 := HK.out.cell
    by_cases hlt : k < N
    · have c1 := HK.out.row.cell (i := k) (by rw [HK.out.len]; exact hlt)
      have c2 := HK.out.row.thaw k
      have HS : Hid (FarI N (.slice eo es.length ce) w (wr.setCell ⟨fb, k, none⟩ (.int .i64 (-1))) xb fb N (List.replicate (k + 1) (-1) ++ List.replicate (N - (k + 1)) 0)) := by
        have := HK.out.set k (-1)
        rw [fill_set hlt] at this
        exact this
      go_wp2_with fail
      go_roundw
      case rel => exact ⟨k + 1, hlt, by go_num, HS⟩
      case measure => simp [intOf]; omega
    · obtain rfl : k = N := by omega
      obtain ⟨bn, rfl⟩ : ∃ bn : Nat, b = (bn : Int) := ⟨b.toNat, by omega⟩
      have hbk : bn < k := by omega
      have c1 := HK.out.row.cell (i := bn) (by rw [HK.out.len]; exact hbk)
      have c2 := HK.out.row.thaw bn
      have HS : Hid (FarI k (.slice eo es.length ce) w (wr.setCell ⟨fb, bn, none⟩ (.int .i64 0)) xb fb k (startF k bn)) := by
        have := HK.out.set bn 0
        rw [Nat.sub_self, List.replicate_zero, List.append_nil] at this
        unfold startF
        rw [Int.toNat_natCast, Int.toNat_natCast]
        exact this
      go_upto_region 10 with fail
      generalize wr.setCell ⟨fb, bn, none⟩ (.int .i64 0) = w4 at *
      clear c0 c1 c2
      have c0 := HS.out.box.c0
      have c1 := HS.out.box.c1
      go_wp2_with (go_at_call 27; (with_reducible refine (costs_any _ _ _ _ _ _ _ _ _).mono ?_); rintro e w5 ⟨rfl, hb5, hs5, h51, h52, h53⟩)
      have HS5 := Lib.hid (HS.out.grow hb5)
      have hbl5 := HS5.out.box.lt
      have hxl := HS5.out.xlt
      have hfl := HS5.out.row.lt
      have HSP := farL_spec (bl := bl) hr b0 b1
      have HSEQ := Lib.hid (costs_seq (T := fun i => i = fb) 5 (by omega) hr HSP.2.1 (farL_le hr b0 b1) b0 b1 HE.out HI.out HS5.out.below h51 h52 h53 (by omega) (by omega) (by omega) (fun i hi => by subst hi; exact ⟨hfl, by have := HS5.out.ge; omega⟩))
      clear h51 h52 h53 c0 c1
      refine (wpIn_wide (n := 6)).1 ?_
      refine wpIn_rangeFunc_ownT (by rfl) (by omega) (gf := 34) rfl trivial (enters_of Try.func34 (by kernel_rfl) rfl) HSEQ.out (fun _ => rfl) (fun i hi => by subst hi; exact hfl)
        (fun pre W => Hid (FarI k (.slice eo es.length ce) w W xb fb k (accF es (startF k bn) pre))) (fun _ _ _ => False)
        (fun s X Y hb h => h.out.abide hb hbl5 hxl hfl) (fun _ _ _ _ _ h => h) HS5
        (fun x : Nat × Int => { tmps := #[Value.agg #[Value.int .i64 (k : Int), Value.slice eo es.length ce], Value.slice bo bl.length cb, Value.int .i64 (bn : Int), Value.pointer (some ⟨w.heap.size, 0, none⟩), undef, undef, Value.slice none 0 0, Value.pointer (some ⟨xb, 0, none⟩), u8, Value.int .i64 (x.1 : Int), Value.int .i64 x.2, Value.agg #[Value.int .i64 (k : Int), Value.slice eo es.length ce], Value.bool true, Value.bool false, Value.bool false, Value.agg #[Value.int .i64 (k : Int), Value.slice eo es.length ce], Value.int .i64 (bn : Int), Value.bool true, Value.bool false, Value.bool false, Value.pointer (some ⟨w.heap.size, 0, none⟩), Value.int .i64 (k : Int), Value.slice (some ⟨fb, 0, none⟩) k k, Value.slice (some ⟨fb, 0, none⟩) k k, Value.int .i64 (k : Int), Value.int .i64 (k : Int), Value.bool false, u27, u28, u29, u30, u31, Value.slice (some ⟨fb, 0, none⟩) k k, Value.int .i64 (bn : Int), Value.pointer (some ⟨fb, bn, none⟩), Value.agg #[Value.int .i64 (k : Int), Value.slice eo es.length ce], Value.slice bo bl.length cb, Value.int .i64 (bn : Int), Value.func (Fn.func 34) #[] #[Value.pointer (some ⟨w4.heap.size, 0, none⟩), Value.pointer (some ⟨w4.heap.size + 1, 0, none⟩), Value.pointer (some ⟨w4.heap.size + 2, 0, none⟩)], Value.int .i64 (x.1 : Int), Value.int .i64 x.2, undef, undef, undef, undef, undef, undef, undef, undef, undef, undef], defers := [] }) ?assign ?body ?done ?stop
      case assign =>
        intro l x W K hK
        gi_wp2
        exact hK
      case body =>
        rintro l pre ⟨j, c⟩ W hsz HIW hem
        obtain ⟨hj, hjb, _, hjc, _⟩ := hem.mem (j, c) (List.mem_append_right _ (List.mem_singleton_self _))
        dsimp only at hj hjb hjc
        obtain ⟨⟨f0, f1⟩, _⟩ := hr.at hj
        obtain ⟨u, hu⟩ : ∃ u : Nat, (ate es j).1 = (u : Int) := ⟨(ate es j).1.toNat, by omega⟩
        have huk : u < k := by omega
        obtain ⟨ao, ac, he1, he2, he3⟩ := HE.out
        cases he1
        obtain ⟨eb, eof, rfl, lb, hcs⟩ := he3 (by omega)
        have g0 := (hcs j hj).1
        rw [hu] at g0
        have G0 := Lib.hid g0
        have HU := Lib.hid hu
        clear g0 hu
        clear he2 he3 hcs hem hjb hjc HSEQ HSP
        gi_upto_region 13 with fail
        refine wpIn_region_grow mixed (fun zs => { tmps := List.toArray (Value.agg #[Value.int .i64 (k : Int), Value.slice (some ⟨eb, eof, none⟩) es.length ce] :: Value.slice bo bl.length cb :: Value.int .i64 (bn : Int) :: Value.pointer (some ⟨w.heap.size, 0, none⟩) :: undef :: undef :: Value.slice none 0 0 :: Value.pointer (some ⟨xb, 0, none⟩) :: u8 :: Value.int .i64 (j : Int) :: Value.int .i64 c :: Value.agg #[Value.int .i64 (k : Int), Value.slice (some ⟨eb, eof, none⟩) es.length ce] :: Value.bool true :: Value.bool false :: Value.bool false :: Value.agg #[Value.int .i64 (k : Int), Value.slice (some ⟨eb, eof, none⟩) es.length ce] :: Value.int .i64 (bn : Int) :: Value.bool true :: Value.bool false :: Value.bool false :: Value.pointer (some ⟨w.heap.size, 0, none⟩) :: Value.int .i64 (k : Int) :: Value.slice (some ⟨fb, 0, none⟩) k k :: Value.slice (some ⟨fb, 0, none⟩) k k :: Value.int .i64 (k : Int) :: Value.int .i64 (k : Int) :: Value.bool false :: u27 :: u28 :: u29 :: u30 :: u31 :: Value.slice (some ⟨fb, 0, none⟩) k k :: Value.int .i64 (bn : Int) :: Value.pointer (some ⟨fb, bn, none⟩) :: Value.agg #[Value.int .i64 (k : Int), Value.slice (some ⟨eb, eof, none⟩) es.length ce] :: Value.slice bo bl.length cb :: Value.int .i64 (bn : Int) :: Value.func (Fn.func 34) #[] #[Value.pointer (some ⟨w4.heap.size, 0, none⟩), Value.pointer (some ⟨w4.heap.size + 1, 0, none⟩), Value.pointer (some ⟨w4.heap.size + 2, 0, none⟩)] :: Value.int .i64 (j : Int) :: Value.int .i64 c :: zs.getD 0 undef :: zs.getD 1 undef :: zs.getD 2 undef :: zs.getD 3 undef :: zs.getD 4 undef :: zs.getD 5 undef :: zs.getD 6 undef :: zs.getD 7 undef :: zs.getD 8 undef :: undef :: []), defers := [] }) [(fun z _ => z = Value.slice (some ⟨fb, 0, none⟩) k k), (fun z _ => z = Value.pointer (some ⟨w.heap.size, 1, none⟩)), (fun z _ => z = Value.slice (some ⟨eb, eof, none⟩) es.length ce), (fun z _ => z = Value.int .i64 (j : Int)), (fun z _ => z = Value.pointer (some ⟨eb, eof + j * 3, none⟩)), (fun z _ => z = Value.pointer (some ⟨eb, eof + j * 3, none⟩)), (fun z _ => z = Value.int .i64 (u : Int)), (fun z _ => z = Value.int .i64 c), (fun z _ => z = Value.pointer (some ⟨fb, u, none⟩))] [undef, undef, undef, undef, undef, undef, undef, undef, undef] rfl rfl rfl ?_ (by kernel_rfl) (by kernel_rfl) ?_ ?_
        · intro p hp
          simp only [List.mem_cons, List.not_mem_nil, or_false] at hp
          rcases hp with rfl | rfl | rfl | rfl | rfl | rfl | rfl | rfl | rfl
          all_goals first | exact stable_eq _
        · intro i hi zs l wz o hz hF ho hpre
          have hi' : i < 9 := hi
          have HZ := Lib.hid (HIW.out.grow hF.bel)
          have x0 := HZ.out.cell
          have x1 := HZ.out.box.c1
          have g0 := (HZ.out.below.cell (p := ⟨eb, eof + j * 3, none⟩) lb).trans G0.out
          match zs, (show zs.length = 9 from hz) with
          | z0 :: z1 :: z2 :: z3 :: z4 :: z5 :: z6 :: z7 :: z8 :: [], _ =>
            clear hz hi
            change wpOpIn _ _ _ _ _ _ _ { tmps := List.toArray (Value.agg #[Value.int .i64 (k : Int), Value.slice (some ⟨eb, eof, none⟩) es.length ce] :: Value.slice bo bl.length cb :: Value.int .i64 (bn : Int) :: Value.pointer (some ⟨w.heap.size, 0, none⟩) :: undef :: undef :: Value.slice none 0 0 :: Value.pointer (some ⟨xb, 0, none⟩) :: u8 :: Value.int .i64 (j : Int) :: Value.int .i64 c :: Value.agg #[Value.int .i64 (k : Int), Value.slice (some ⟨eb, eof, none⟩) es.length ce] :: Value.bool true :: Value.bool false :: Value.bool false :: Value.agg #[Value.int .i64 (k : Int), Value.slice (some ⟨eb, eof, none⟩) es.length ce] :: Value.int .i64 (bn : Int) :: Value.bool true :: Value.bool false :: Value.bool false :: Value.pointer (some ⟨w.heap.size, 0, none⟩) :: Value.int .i64 (k : Int) :: Value.slice (some ⟨fb, 0, none⟩) k k :: Value.slice (some ⟨fb, 0, none⟩) k k :: Value.int .i64 (k : Int) :: Value.int .i64 (k : Int) :: Value.bool false :: u27 :: u28 :: u29 :: u30 :: u31 :: Value.slice (some ⟨fb, 0, none⟩) k k :: Value.int .i64 (bn : Int) :: Value.pointer (some ⟨fb, bn, none⟩) :: Value.agg #[Value.int .i64 (k : Int), Value.slice (some ⟨eb, eof, none⟩) es.length ce] :: Value.slice bo bl.length cb :: Value.int .i64 (bn : Int) :: Value.func (Fn.func 34) #[] #[Value.pointer (some ⟨w4.heap.size, 0, none⟩), Value.pointer (some ⟨w4.heap.size + 1, 0, none⟩), Value.pointer (some ⟨w4.heap.size + 2, 0, none⟩)] :: Value.int .i64 (j : Int) :: Value.int .i64 c :: z0 :: z1 :: z2 :: z3 :: z4 :: z5 :: z6 :: z7 :: z8 :: undef :: []), defers := [] } _
            have hc : i = 0 ∨ i = 1 ∨ i = 2 ∨ i = 3 ∨ i = 4 ∨ i = 5 ∨ i = 6 ∨ i = 7 ∨ i = 8 := by omega
            clear hi'
            rcases hc with rfl | rfl | rfl | rfl | rfl | rfl | rfl | rfl | rfl
            · clear ho hpre
              refine wpOpIn_here rfl (by intro c h; cases h) (fun K' hK => ?_)
              go_simp
              exact hK _ _ ⟨_, rfl, Below.refl _ _, fun p hp => by cases (show some (fun z _ => z = Value.slice (some ⟨fb, 0, none⟩) k k) = some p from hp); exact rfl⟩
            · clear ho hpre
              refine wpOpIn_here rfl (by intro c h; cases h) (fun K' hK => ?_)
              go_simp
              exact hK _ _ ⟨_, rfl, Below.refl _ _, fun p hp => by cases (show some (fun z _ => z = Value.pointer (some ⟨w.heap.size, 1, none⟩)) = some p from hp); exact rfl⟩
            · have p1 := hF.fact 1 _ _ rfl rfl (hpre ⟨1, .data⟩ (by cases ho; simp) rfl)
              subst p1
              clear ho hpre
              refine wpOpIn_here rfl (by intro c h; cases h) (fun K' hK => ?_)
              go_simp
              exact hK _ _ ⟨_, rfl, Below.refl _ _, fun p hp => by cases (show some (fun z _ => z = Value.slice (some ⟨eb, eof, none⟩) es.length ce) = some p from hp); exact rfl⟩
            · clear ho hpre
              refine wpOpIn_here rfl (by intro c h; cases h) (fun K' hK => ?_)
              go_simp
              exact hK _ _ ⟨_, rfl, Below.refl _ _, fun p hp => by cases (show some (fun z _ => z = Value.int .i64 (j : Int)) = some p from hp); exact rfl⟩
            · have p2 := hF.fact 2 _ _ rfl rfl (hpre ⟨2, .data⟩ (by cases ho; simp) rfl)
              subst p2
              have p3 := hF.fact 3 _ _ rfl rfl (hpre ⟨3, .data⟩ (by cases ho; simp) rfl)
              subst p3
              clear ho hpre
              refine wpOpIn_here rfl (by intro c h; cases h) (fun K' hK => ?_)
              go_simp
              exact hK _ _ ⟨_, rfl, Below.refl _ _, fun p hp => by cases (show some (fun z _ => z = Value.pointer (some ⟨eb, eof + j * 3, none⟩)) = some p from hp); exact rfl⟩
            · have p4 := hF.fact 4 _ _ rfl rfl (hpre ⟨4, .data⟩ (by cases ho; simp) rfl)
              subst p4
              clear ho hpre
              refine wpOpIn_here rfl (by intro c h; cases h) (fun K' hK => ?_)
              go_simp
              exact hK _ _ ⟨_, rfl, Below.refl _ _, fun p hp => by cases (show some (fun z _ => z = Value.pointer (some ⟨eb, eof + j * 3, none⟩)) = some p from hp); exact rfl⟩
            · have p5 := hF.fact 5 _ _ rfl rfl (hpre ⟨5, .data⟩ (by cases ho; simp) rfl)
              subst p5
              clear ho hpre
              refine wpOpIn_here rfl (by intro c h; cases h) (fun K' hK => ?_)
              go_simp
              exact hK _ _ ⟨_, rfl, Below.refl _ _, fun p hp => by cases (show some (fun z _ => z = Value.int .i64 (u : Int)) = some p from hp); exact rfl⟩
            · clear ho hpre
              refine wpOpIn_here rfl (by intro c h; cases h) (fun K' hK => ?_)
              go_simp
              exact hK _ _ ⟨_, rfl, Below.refl _ _, fun p hp => by cases (show some (fun z _ => z = Value.int .i64 c) = some p from hp); exact rfl⟩
            · have p0 := hF.fact 0 _ _ rfl rfl (hpre ⟨0, .data⟩ (by cases ho; simp) rfl)
              subst p0
              have p6 := hF.fact 6 _ _ rfl rfl (hpre ⟨6, .data⟩ (by cases ho; simp) rfl)
              subst p6
              clear ho hpre
              refine wpOpIn_here rfl (by intro c h; cases h) (fun K' hK => ?_)
              go_simp
              exact hK _ _ ⟨_, rfl, Below.refl _ _, fun p hp => by cases (show some (fun z _ => z = Value.pointer (some ⟨fb, u, none⟩)) = some p from hp); exact rfl⟩
        · intro zs wz hz hbel hev
          match zs, (show zs.length = 9 from hz) with
          | z0 :: z1 :: z2 :: z3 :: z4 :: z5 :: z6 :: z7 :: z8 :: [], _ =>
            have p0 := hev 0 _ _ rfl rfl
            have p1 := hev 1 _ _ rfl rfl
            have p2 := hev 2 _ _ rfl rfl
            have p3 := hev 3 _ _ rfl rfl
            have p4 := hev 4 _ _ rfl rfl
            have p5 := hev 5 _ _ rfl rfl
            have p6 := hev 6 _ _ rfl rfl
            have p7 := hev 7 _ _ rfl rfl
            have p8 := hev 8 _ _ rfl rfl
            subst p0 p1 p2 p3 p4 p5 p6 p7 p8
            clear hz hev
            have HZ := Lib.hid (HIW.out.grow hbel)
            have x2 := HZ.out.row.cell (i := u) (by rw [HZ.out.len]; exact huk)
            have x3 := HZ.out.row.thaw u
            have HS6 : Hid (FarI k (Value.slice (some ⟨eb, eof, none⟩) es.length ce) w (wz.setCell ⟨fb, u, none⟩ (.int .i64 c)) xb fb k (accF es (startF k bn) (pre ++ [(j, c)]))) := by
              show FarI _ _ _ _ _ _ _ _
              rw [accF_snoc, HU.out]
              exact HZ.out.set u c
            have HKT : Hid (Kt (fun i => i = fb) W (wz.setCell ⟨fb, u, none⟩ (.int .i64 c))) := (Kt.of_below hbel).trans (Kt.set wz ⟨fb, u, none⟩ _ rfl)
            clear HZ hbel
            change wpOpIn _ _ _ _ _ _ _ { tmps := List.toArray (Value.agg #[Value.int .i64 (k : Int), Value.slice (some ⟨eb, eof, none⟩) es.length ce] :: Value.slice bo bl.length cb :: Value.int .i64 (bn : Int) :: Value.pointer (some ⟨w.heap.size, 0, none⟩) :: undef :: undef :: Value.slice none 0 0 :: Value.pointer (some ⟨xb, 0, none⟩) :: u8 :: Value.int .i64 (j : Int) :: Value.int .i64 c :: Value.agg #[Value.int .i64 (k : Int), Value.slice (some ⟨eb, eof, none⟩) es.length ce] :: Value.bool true :: Value.bool false :: Value.bool false :: Value.agg #[Value.int .i64 (k : Int), Value.slice (some ⟨eb, eof, none⟩) es.length ce] :: Value.int .i64 (bn : Int) :: Value.bool true :: Value.bool false :: Value.bool false :: Value.pointer (some ⟨w.heap.size, 0, none⟩) :: Value.int .i64 (k : Int) :: Value.slice (some ⟨fb, 0, none⟩) k k :: Value.slice (some ⟨fb, 0, none⟩) k k :: Value.int .i64 (k : Int) :: Value.int .i64 (k : Int) :: Value.bool false :: u27 :: u28 :: u29 :: u30 :: u31 :: Value.slice (some ⟨fb, 0, none⟩) k k :: Value.int .i64 (bn : Int) :: Value.pointer (some ⟨fb, bn, none⟩) :: Value.agg #[Value.int .i64 (k : Int), Value.slice (some ⟨eb, eof, none⟩) es.length ce] :: Value.slice bo bl.length cb :: Value.int .i64 (bn : Int) :: Value.func (Fn.func 34) #[] #[Value.pointer (some ⟨w4.heap.size, 0, none⟩), Value.pointer (some ⟨w4.heap.size + 1, 0, none⟩), Value.pointer (some ⟨w4.heap.size + 2, 0, none⟩)] :: Value.int .i64 (j : Int) :: Value.int .i64 c :: Value.slice (some ⟨fb, 0, none⟩) k k :: Value.pointer (some ⟨w.heap.size, 1, none⟩) :: Value.slice (some ⟨eb, eof, none⟩) es.length ce :: Value.int .i64 (j : Int) :: Value.pointer (some ⟨eb, eof + j * 3, none⟩) :: Value.pointer (some ⟨eb, eof + j * 3, none⟩) :: Value.int .i64 (u : Int) :: Value.int .i64 c :: Value.pointer (some ⟨fb, u, none⟩) :: undef :: []), defers := [] } _
            refine wpOpIn_here rfl (by intro c h; cases h) (fun K' hK => ?_)
            go_simp
            refine hK _ _ ?_
            exact ⟨HKT.out, HS6⟩
      case done =>
        rintro D xs W hD ⟨hem, hall⟩ HIW hK
        have hF : accF es (startF k bn) xs = farL k es bl bn := accF_far hem hr b0 b1 hall
        rw [hF] at HIW
        have x0 := HIW.out.cell
        have HRET : Hid (Q (.returned (.slice (some ⟨fb, 0, none⟩) k k)) (W.putObj D (.deferred none))) := by
          show Q _ _
          rw [← HQ.out]
          have hbb := below_put (B := w5.heap.size) W (l := D) (.deferred none) hD
          have HP := HIW.out.abide hbb hbl5 hxl hfl
          exact ⟨_, rfl, HP.row.ints HP.len (by omega), HP.below⟩
        clear hem hall hF HSEQ HSP
        gi_wp2
        go_wp2
        refine ⟨by simp, .inl ⟨_, _, rfl, run_takeDeferred hK, ?_⟩⟩
        refine ⟨.slice (some ⟨fb, 0, none⟩) k k, ?_, HRET.out⟩
        simp [results, Try.f17, go_sem]
      case stop =>
        rintro D c pre W _ _ h _
        exact h.elim
theorem far_any {n : Int} {es : List Ed} {w : World} (v bv : Value) (hv : EdgesAt w v es) (bl : List Int) (hb : IntsAt w bv bl) (b : Int) :
    Calls Try.prog 17 #[.agg #[.int .i64 n, v], bv, .int .i64 b] w (RetInts (farS n es bl b) w) := by
  cases h : rightB n es && nodeB n b with
  | false => rw [farS_no h]; exact far_no v bv hv bl b h
  | true =>
    rw [Bool.and_eq_true] at h
    obtain ⟨b0, b1⟩ := nodeB_iff.1 h.2
    rw [farS_yes (rightB_iff.1 h.1) b0 b1]
    exact far_yes v bv hv bl hb b (rightB_iff.1 h.1) h.2
end Go.Proofs.Ythmblgfcjbiomaa.Rt
