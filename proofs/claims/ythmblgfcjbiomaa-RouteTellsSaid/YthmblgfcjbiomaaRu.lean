import Derived.Test.YthmblgfcjbiomaaRr
import Derived.Test.YthmblgfcjbiomaaYr
/- The document's may and Far. -/
set_option linter.unusedVariables false
set_option linter.unusedSimpArgs false
namespace Go.Proofs.Ythmblgfcjbiomaa.Rt
open Go.RowKit Go.Shelf Ly
attribute [local go_sem] Oper.semAt_some

theorem may_no {p : Prop} [Decidable p] {b : Bool} (h : decide p = !b) (hp : p) : false = b := by cases b <;> simp_all
theorem may_yes {p : Prop} [Decidable p] {b : Bool} (h : decide p = !b) (hp : ¬ p) : true = b := by cases b <;> simp_all
set_option maxHeartbeats 4000000 in
/-- may. -/
theorem rmay_any (f t c : Int) (l : List Int) (v : Value) (w : World) (h : IntsAt w v l) (b : Bool) (hb : decide (t ∈ l) = !b) :
    Calls Try.prog 28 #[.agg #[.int .i64 f, .int .i64 t, .int .i64 c], v] w (Ret (.bool b) w) := by
  obtain ⟨Q, HQ⟩ : ∃ Q, Hid (Ret (.bool b) w = Q) := ⟨_, rfl⟩
  rw [HQ.out]
  have HT := Lib.hid hb
  have HB0 := Lib.hid ((Below.refl w.heap.size w).alloc (Nat.le_refl _) (.cells #[.int .i64 f, .int .i64 t, .int .i64 c] 41))
  have HI := Lib.hid (h.below HB0.out (Nat.le_refl _))
  have hll : l.length ≤ 1000000000000000000 := by obtain ⟨_, _, _, x, _⟩ := h; exact x
  have ky : (w.alloc (.cells #[.int .i64 f, .int .i64 t, .int .i64 c] 41)).heap[w.heap.size]? = some (.cells #[.int .i64 f, .int .i64 t, .int .i64 c] 41 (0, 0)) := heap_alloc_new w _
  obtain ⟨ao, ac, rfl⟩ := slI h
  clear h hb
  go_enter Try.func28, Try.ntmps28
  go_upto_region 1 with fail
  generalize w.alloc (.cells #[.int .i64 f, .int .i64 t, .int .i64 c] 41) = w0 at *
  have KY := Lib.hid (cell_of_row _ _ 1 _ _ _ ky)
  have hel : w.heap.size < w0.heap.size := (Array.getElem?_eq_some_iff.1 ky).1
  clear ky
  go_wp2_with fail
  go_loopw [5] (fun i wr => ∃ k : Nat, k ≤ l.length ∧ i = .int .i64 k ∧ Hid (Below w0.heap.size w0 wr) ∧ Hid (¬ t ∈ l.take k)) (fun i _ => l.length - (intOf i).toNat)
  case atStart => exact ⟨0, Nat.zero_le _, rfl, Below.refl _ _, by show ¬ _; simp⟩
  case round =>
    obtain ⟨k, hk, rfl, HBW, hx⟩ := hrel
    by_cases hlt : k < l.length
    · obtain ⟨_, _, h1, h2, h3⟩ := HI.out
      cases h1
      obtain ⟨b1, o1, rfl, l1, c1⟩ := h3 (by omega)
      have g1 := (HBW.out.cell (p := ⟨b1, o1 + k, none⟩) l1).trans (c1 k hlt)
      have g2 := (HBW.out.cell (p := ⟨w.heap.size, 1, none⟩) hel).trans KY.out
      have HBn : Hid (∀ u, Below w0.heap.size w0 (wr.drewN u)) := fun u => HBW.out.trans ⟨rfl, rfl, rfl, Nat.le_refl _, fun _ _ => rfl⟩
      clear h2 h3 c1
      by_cases e : ati l k = t
      · have HE : Hid (t ∈ l) := e ▸ ati_mem hlt
        subst e
        go_upto_region 4 with fail
        go_quiet (fail)
        go_wp2_with fail
        rw [← HQ.out]
        exact ⟨ret_bool (may_no HT.out HE.out), HB0.out.trans ((HBn.out nq).mono HB0.out.size)⟩
      · have HE : Hid (¬ t ∈ l.take (k + 1)) := fun y => (mem_take_at hlt).1 y |>.elim hx.out e
        have e' : (ati l k == t) = false := by simpa using e
        clear e
        go_upto_region 4 with fail
        go_quiet (fail)
        go_wp2_with fail
        have HBq := Lib.hid (HBn.out nq)
        go_roundw
        case rel => exact ⟨k + 1, by omega, by go_num, ⟨HBq.out.os, HBq.out.tape, HBq.out.output, HBq.out.size, HBq.out.block⟩, HE⟩
        case measure => simp [intOf]; omega
    · have HE : Hid (¬ t ∈ l) := fun y => hx.out (by rwa [List.take_of_length_le (by omega)])
      have hkl : k = l.length := by omega
      subst hkl
      go_wp2_with fail
      rw [← HQ.out]
      exact ⟨ret_bool (may_yes HT.out HE.out), HB0.out.trans (HBW.out.mono HB0.out.size)⟩
theorem mayB_not {bl : List Int} {e : Ed} {m : Bool} (h : mayB bl e = m) : decide (e.2.1 ∈ bl) = !m := by
  rw [← h]
  simp [mayB]

/-- The row that the document's Far makes. -/
structure FarR (n : Int) (v : Value) (w wr : World) (fb N : Nat) (o : List Int) : Prop where
  below : Below w.heap.size w wr
  box : BoxAt n v wr w.heap.size
  row : IRow wr fb 3 o
  len : o.length = N
  ge : w.heap.size < fb
theorem FarR.grow {n : Int} {v : Value} {w wr wr' : World} {fb N : Nat} {o : List Int} (h : FarR n v w wr fb N o) (hb : Below wr.heap.size wr wr') : FarR n v w wr' fb N o :=
  ⟨h.below.trans (hb.mono h.below.size), h.box.below hb, h.row.keep (hb.block _ h.row.lt), h.len, h.ge⟩
theorem FarR.set {n : Int} {v : Value} {w wr : World} {fb N : Nat} {o : List Int} (h : FarR n v w wr fb N o) (i : Nat) (x : Int) : FarR n v w (wr.setCell ⟨fb, i, none⟩ (.int .i64 x)) fb N (o.set i x) := by
  have hg := h.ge
  refine ⟨h.below.setCell (p := ⟨fb, i, none⟩) (Nat.le_of_lt hg) _, ⟨?_, ?_, ?_⟩, h.row.set i x, by simpa using h.len, hg⟩
  · rw [World.cell?_setCell_other _ _ _ _ (fun e => by have := congrArg Addr.block e; simp at this; omega)]; exact h.box.c0
  · rw [World.cell?_setCell_other _ _ _ _ (fun e => by have := congrArg Addr.block e; simp at this; omega)]; exact h.box.c1
  · have := h.box.lt; simpa using this
theorem FarR.start {n : Int} {v : Value} {w w2 : World} {N : Nat} (hb : Below w.heap.size w w2) (hx : BoxAt n v w2 w.heap.size) :
    FarR n v w (w2.alloc (.cells (intC (List.replicate N 0)).toArray 3)) w2.heap.size N (List.replicate N 0) := by
  have hlt := hx.lt
  have h1 : Below w2.heap.size w2 (w2.alloc (.cells (intC (List.replicate N 0)).toArray 3)) := (Below.refl _ w2).alloc (Nat.le_refl _) _
  exact ⟨hb.trans (h1.mono hb.size), hx.below h1, IRow.new w2 _ _, by simp, hlt⟩
theorem FarR.at {n : Int} {v : Value} {w wr : World} {fb N : Nat} {o : List Int} (h : FarR n v w wr fb N o) (q : Nat) (hq : q < N) : wr.cell? ⟨fb, q, none⟩ = some (.int .i64 (gi o (q : Int))) := by
  have h1 := h.row.cell (i := q) (by rw [h.len]; exact hq)
  rwa [ati_gi (by rw [h.len]; exact hq)] at h1
/-- What a row holds. -/
def rowI (w : World) (b : Nat) : List Int := match w.heap[b]? with | some (.cells cs _ _) => cs.toList.map intOf | _ => []
theorem rowI_of {w : World} {b : Nat} {T : TypeId} {o : List Int} (h : IRow w b T o) : rowI w b = o := by
  unfold rowI
  rw [h]
  simp [intC, Function.comp_def, intOf]
/-- A pass over the edges. -/
structure Pass (n : Int) (es : List Ed) (bl : List Int) (b : Int) (o0 : List Int) (c : Bool) (k : Nat) (o : List Int) : Prop where
  bf : BF n es bl b o
  same : c = false → o = o0 ∧ ∀ j, j < k → lessB bl o0 (ate es j) = false
  less : c = true → left o < left o0
theorem Pass.start {n : Int} {es : List Ed} {bl : List Int} {b : Int} {o : List Int} (h : BF n es bl b o) : Pass n es bl b o false 0 o := ⟨h, fun _ => ⟨rfl, fun j hj => by omega⟩, fun e => by cases e⟩
theorem Pass.skip {n : Int} {es : List Ed} {bl : List Int} {b : Int} {o0 o : List Int} {c : Bool} {k : Nat} (h : Pass n es bl b o0 c k o) (hl : lessB bl o (ate es k) = false) : Pass n es bl b o0 c (k + 1) o :=
  ⟨h.bf, fun e => ⟨(h.same e).1, fun j hj => by
    by_cases e2 : j = k
    · subst e2; rw [← (h.same e).1]; exact hl
    · exact (h.same e).2 j (by omega)⟩, h.less⟩
theorem Pass.hit {n : Int} {es : List Ed} {bl : List Int} {b : Int} {o0 o : List Int} {c : Bool} {k : Nat} (h : Pass n es bl b o0 c k o) (hr : RightL n es) (hk : k < es.length) (hl : lessB bl o (ate es k) = true) :
    Pass n es bl b o0 true (k + 1) (o.set (ate es k).1.toNat (gi o (ate es k).2.1 + (ate es k).2.2)) := by
  have h1 := h.bf.less hr hk hl
  refine ⟨h1.1, fun e => (by cases e), fun _ => ?_⟩
  cases c with
  | false => have := (h.same rfl).1; subst this; exact h1.2
  | true => exact Nat.lt_trans h1.2 (h.less rfl)

theorem rfar_no {n : Int} {es : List Ed} {w : World} (v bv : Value) (hv : EdgesAt w v es) (bl : List Int) (b : Int) (h : (rightB n es && nodeB n b) = false) :
    Calls Try.prog 18 #[.agg #[.int .i64 n, v], bv, .int .i64 b] w (RetInts [] w) := by
  have HB0 : Hid (Below w.heap.size w (w.alloc (.cells #[.int .i64 n, v] 24))) := (Below.refl _ w).alloc (Nat.le_refl _) _
  have HX0 := Lib.hid (BoxAt.new n v w)
  have HV := Lib.hid (hv.below HB0.out (Nat.le_refl _))
  obtain ⟨Q, HQ⟩ : ∃ Q, Hid (RetInts [] w = Q) := ⟨_, rfl⟩
  rw [HQ.out]
  cases hr : rightB n es with
  | false =>
    have C := Lib.hid (fun u w' hu => rright_any (n := n) (es := es) (w := w') u hu false hr)
    clear hr hv h
    go_enter Try.func18, Try.ntmps18
    go_wp2_with (go_at_call 29; (with_reducible refine (C.out _ _ HV.out).mono ?_); rintro e w1 ⟨rfl, hb1⟩; have HB1 := Lib.hid (HB0.out.trans (hb1.mono HB0.out.size)); clear hb1)
    rw [← HQ.out]
    exact ⟨_, rfl, IntsAt.nil _ _, HB1.out⟩
  | true =>
    rw [hr, Bool.true_and] at h
    have C := Lib.hid (fun u w' hu => rright_any (n := n) (es := es) (w := w') u hu true hr)
    clear hr hv
    have hbn : b < 0 ∨ (0 ≤ b ∧ n ≤ b) := by
      simp only [nodeB, Bool.and_eq_false_iff, decide_eq_false_iff_not] at h
      omega
    clear h
    go_enter Try.func18, Try.ntmps18
    go_upto_region 2 with (go_at_call 29; (with_reducible refine (C.out _ _ HV.out).mono ?_); rintro e w1 ⟨rfl, hb1⟩; have HB1 := Lib.hid (HB0.out.trans (hb1.mono HB0.out.size)); have HX1 := Lib.hid (HX0.out.below hb1); clear hb1)
    have c0 := HX1.out.c0
    rcases hbn with d | ⟨d1, d2⟩
    · have d' : decide (b < 0) = true := by simpa using d
      clear d
      go_wp2_with fail
      rw [← HQ.out]
      exact ⟨_, rfl, IntsAt.nil _ _, HB1.out⟩
    · have d' : decide (b < 0) = false := by simpa using d1
      have d'' : decide (n ≤ b) = true := by simpa using d2
      clear d1 d2
      go_wp2_with fail
      rw [← HQ.out]
      exact ⟨_, rfl, IntsAt.nil _ _, HB1.out⟩
end Go.Proofs.Ythmblgfcjbiomaa.Rt
