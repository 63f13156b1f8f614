import Derived.Test.YtnpbkjmlmdpggaaYb
/- Right: an array of arrays of bools in memory, and what it tells of the edges. -/
set_option linter.unusedVariables false
set_option linter.unusedSimpArgs false
namespace Go.Proofs.Ytnpbkjmlmdpggaa.Ly
open Go.RowKit

theorem mixed : Try.prog.follows .mixedOrders = true := by kernel_rfl
def boolC (c : List Bool) : Array Value := (c.map Value.bool).toArray
theorem boolC_size (c : List Bool) : (boolC c).size = c.length := by simp [boolC]
theorem boolC_get {c : List Bool} {i : Nat} (h : i < c.length) : (boolC c)[i]? = some (.bool (atb c i)) := by
  unfold atb
  rw [List.getD_eq_getElem?_getD, List.getElem?_eq_getElem h]
  simp [boolC, h]
theorem boolC_set (c : List Bool) (i : Nat) : (boolC c).setIfInBounds i (.bool true) = boolC (c.set i true) := by
  simp [boolC]
/-- A row of bools lies in a block. -/
def ArrAt (w : World) (b : Nat) (T : TypeId) (c : List Bool) : Prop := w.heap[b]? = some (.cells (boolC c) T (0, 0))
theorem ArrAt.lt {w : World} {b : Nat} {T : TypeId} {c : List Bool} (h : ArrAt w b T c) : b < w.heap.size := (Array.getElem?_eq_some_iff.1 h).1
theorem ArrAt.cell {w : World} {b : Nat} {T : TypeId} {c : List Bool} (h : ArrAt w b T c) {i : Nat} (hi : i < c.length) : w.cell? ⟨b, i, none⟩ = some (.bool (atb c i)) := by
  rw [cell_of_row w b i _ _ _ h]
  exact boolC_get hi
theorem ArrAt.thaw {w : World} {b : Nat} {T : TypeId} {c : List Bool} (h : ArrAt w b T c) (i : Nat) : w.frozen? ⟨b, i, none⟩ = false := frozen_of_row w b i _ _ h
theorem ArrAt.below {w w' : World} {b : Nat} {T : TypeId} {c : List Bool} (h : ArrAt w b T c) {B : Nat} (hb : Below B w w') (hB : b < B) : ArrAt w' b T c := (hb.block b hB).trans h
theorem ArrAt.set {w : World} {b : Nat} {T : TypeId} {c : List Bool} (h : ArrAt w b T c) (i : Nat) : ArrAt (w.setCell ⟨b, i, none⟩ (.bool true)) b T (c.set i true) := by
  have := heap_setCell_same w b i _ _ (.bool true) h
  unfold ArrAt
  rw [this, boolC_set]
theorem ArrAt.other {w : World} {b : Nat} {T : TypeId} {c : List Bool} (h : ArrAt w b T c) {a : Addr} (u : Value) (ha : b ≠ a.block) : ArrAt (w.setCell a u) b T c := (heap_setCell_other w a b u ha).trans h
theorem ArrAt.new (w : World) (T : TypeId) (c : List Bool) : ArrAt (w.alloc (.cells (boolC c) T)) w.heap.size T c := heap_alloc_new w _

def idx (e : Ed) : Nat := e.1.toNat * 40 + e.2.1.toNat
theorem idx_lt {n : Int} {e : Ed} (h : EdgeOk n e) (hn : n ≤ 40) : idx e < 1600 := by
  obtain ⟨⟨h1, h2⟩, ⟨h3, h4⟩, _⟩ := h
  unfold idx
  omega
theorem idx_same {n : Int} {a b : Ed} (ha : EdgeOk n a) (hb : EdgeOk n b) (hn : n ≤ 40) : idx a = idx b ↔ Same a b := by
  obtain ⟨⟨h1, h2⟩, ⟨h3, h4⟩, _⟩ := ha
  obtain ⟨⟨g1, g2⟩, ⟨g3, g4⟩, _⟩ := hb
  unfold idx Same
  omega
/-- What the array tells when k edges are seen. -/
def Led (es : List Ed) (k : Nat) (c : List Bool) : Prop := c.length = 1600 ∧ ∀ p, p < 1600 → (atb c p = true ↔ ∃ j, j < k ∧ idx (ate es j) = p)
theorem Led.zero (es : List Ed) : Led es 0 (List.replicate 1600 false) := ⟨List.length_replicate, fun p _ => by rw [atb_rep]; simp⟩
theorem Led.succ {es : List Ed} {k : Nat} {c : List Bool} (h : Led es k c) (hl : idx (ate es k) < 1600) : Led es (k + 1) (c.set (idx (ate es k)) true) := by
  refine ⟨by simpa using h.1, fun p hp => ?_⟩
  rw [atb_set (by rw [h.1]; exact hl)]
  by_cases e : p = idx (ate es k)
  · rw [if_pos e]
    exact ⟨fun _ => ⟨k, by omega, e.symm⟩, fun _ => rfl⟩
  · rw [if_neg e, h.2 p hp]
    constructor
    · rintro ⟨j, hj, x⟩; exact ⟨j, by omega, x⟩
    · rintro ⟨j, hj, x⟩
      by_cases y : j = k
      · subst y; exact absurd x.symm e
      · exact ⟨j, by omega, x⟩
theorem Led.fresh {n : Int} {es : List Ed} {k : Nat} {c : List Bool} (h : Led es k c) (hr : RightTo n es k) (hn : n ≤ 40) (hk : EdgeOk n (ate es k)) : atb c (idx (ate es k)) = false ↔ ∀ j, j < k → ¬ Same (ate es j) (ate es k) := by
  rw [← Bool.not_eq_true, h.2 _ (idx_lt hk hn)]
  constructor
  · intro x j hj hs
    exact x ⟨j, hj, (idx_same (hr j hj).1 hk hn).2 hs⟩
  · rintro x ⟨j, hj, e⟩
    exact x j hj ((idx_same (hr j hj).1 hk hn).1 e)
theorem zeroLed : (∀ w : World, (zeroValue 82).run Try.prog w = .ok (.agg (boolC (List.replicate 1600 false))) w) := (zero_of_info (P := Try.prog) (t := 82) (v := .agg (boolC (List.replicate 1600 false))) (n := 1600) (by kernel_rfl)).1

/-- Between the rounds of Right's loop. -/
structure RI (n : Int) (v : Value) (es : List Ed) (w wr : World) (k : Nat) (c : List Bool) : Prop where
  below : Below w.heap.size w wr
  c0 : wr.cell? ⟨w.heap.size, 0, none⟩ = some (.int .i64 n)
  c1 : wr.cell? ⟨w.heap.size, 1, none⟩ = some v
  arr : ArrAt wr (w.heap.size + 1) 82 c
  led : Led es k c
theorem RI.grow {n : Int} {v : Value} {es : List Ed} {w wr wr' : World} {k : Nat} {c : List Bool} (h : RI n v es w wr k c) (hb : Below wr.heap.size wr wr') : RI n v es w wr' k c := by
  have hl := h.arr.lt
  exact ⟨h.below.trans (hb.mono h.below.size), (hb.cell (by show w.heap.size < _; omega)).trans h.c0, (hb.cell (by show w.heap.size < _; omega)).trans h.c1, h.arr.below hb hl, h.led⟩
theorem RI.set {n : Int} {v : Value} {es : List Ed} {w wr : World} {k : Nat} {c : List Bool} (h : RI n v es w wr k c) (hl : idx (ate es k) < 1600) : RI n v es w (wr.setCell ⟨w.heap.size + 1, idx (ate es k), none⟩ (.bool true)) (k + 1) (c.set (idx (ate es k)) true) := by
  have hlt := h.arr.lt
  refine ⟨h.below.setCell (by show w.heap.size ≤ w.heap.size + 1; omega) _, ?_, ?_, h.arr.set _, h.led.succ hl⟩
  · rw [World.cell?_setCell_other _ _ _ _ (fun e => by simp at e)]; exact h.c0
  · rw [World.cell?_setCell_other _ _ _ _ (fun e => by simp at e)]; exact h.c1
theorem RI.drewN {n : Int} {v : Value} {es : List Ed} {w wr : World} {k : Nat} {c : List Bool} (h : RI n v es w wr k c) (m : Nat) : RI n v es w (wr.drewN m) k c :=
  h.grow (below_drewN (Below.refl _ _) m)
theorem RI.drew {n : Int} {v : Value} {es : List Ed} {w wr : World} {k : Nat} {c : List Bool} (h : RI n v es w wr k c) : RI n v es w wr.drew k c := h.grow (Below.refl _ _).drew
theorem RI.start (n : Int) (v : Value) (es : List Ed) (w : World) : RI n v es w ((w.alloc (.cells #[.int .i64 n, v] 32)).alloc (.cells (boolC (List.replicate 1600 false)) 82)) 0 (List.replicate 1600 false) := by
  refine ⟨((Below.refl _ w).alloc (Nat.le_refl _) _).alloc (by simp) _, ?_, ?_, ?_, Led.zero es⟩
  · rw [cell_of_row _ _ 0 _ _ _ (heap_alloc2_old w _ _)]; rfl
  · rw [cell_of_row _ _ 1 _ _ _ (heap_alloc2_old w _ _)]; rfl
  · exact heap_alloc2_new w _ _
theorem right_short {n : Int} {es : List Ed} {w : World} (v : Value) (hv : EdgesAt w v es) (h : ¬ (1 ≤ n ∧ n ≤ 40 ∧ es.length ≤ 120)) :
    Calls Try.prog 38 #[.agg #[.int .i64 n, v]] w (Ret (.bool false) w) := by
  obtain ⟨ao, cap, rfl, hl, hc⟩ := hv
  clear hc
  have H0 : Hid (Below w.heap.size w (w.alloc (.cells #[.int .i64 n, .slice ao es.length cap] 32))) := (Below.refl _ w).alloc (Nat.le_refl _) _
  obtain ⟨Q, HQ⟩ : ∃ Q, Hid (Ret (.bool false) w = Q) := ⟨_, rfl⟩
  rw [HQ.out]
  by_cases h1 : n < 1
  · have d1 : decide (n < 1) = true := by simpa using h1
    go_enter Try.func38, Try.ntmps38
    go_wp2
    rw [← HQ.out]
    exact ⟨rfl, H0.out⟩
  · have d1 : decide (n < 1) = false := by simpa using h1
    by_cases h2 : 40 < n
    · have d2 : decide (40 < n) = true := by simpa using h2
      go_enter Try.func38, Try.ntmps38
      go_wp2
      rw [← HQ.out]
      exact ⟨rfl, H0.out⟩
    · have d2 : decide (40 < n) = false := by simpa using h2
      have d3 : decide (120 < (es.length : Int)) = true := by simp; omega
      go_enter Try.func38, Try.ntmps38
      go_wp2
      rw [← HQ.out]
      exact ⟨rfl, H0.out⟩
set_option maxHeartbeats 8000000 in
theorem right_any {n : Int} {es : List Ed} {w : World} (v : Value) (hv : EdgesAt w v es) (t : Bool) (ht : rightB n es = t) :
    Calls Try.prog 38 #[.agg #[.int .i64 n, v]] w (Ret (.bool t) w) := by
  by_cases hs : 1 ≤ n ∧ n ≤ 40 ∧ es.length ≤ 120
  · obtain ⟨n1, n2, n3⟩ := hs
    have HV := Lib.hid hv
    obtain ⟨ao, cap, rfl, hl, hc⟩ := hv
    have HC := Lib.hid hc
    have HT := Lib.hid ht
    have zl := zeroLed
    have HS := Lib.hid (RI.start n (.slice ao es.length cap) es w)
    clear hc ht
    obtain ⟨Q, HQ⟩ : ∃ Q, Hid (Ret (.bool t) w = Q) := ⟨_, rfl⟩
    rw [HQ.out]
    generalize hz : boolC (List.replicate 1600 false) = Z at *
    have d1 : decide (n < 1) = false := by simp; omega
    have d2 : decide (40 < n) = false := by simp; omega
    have d3 : decide (120 < (es.length : Int)) = false := by simp; omega
    clear hz
    go_enter Try.func38, Try.ntmps38
    go_wp2
    go_loopw [23] (fun i wr => ∃ (k : Nat) (c : List Bool), k ≤ es.length ∧ i = .int .i64 k ∧ Hid (RI n (.slice ao es.length cap) es w wr k c) ∧ Hid (RightTo n es k)) (fun i _ => es.length - (intOf i).toNat)
    case atStart => exact ⟨0, _, Nat.zero_le _, rfl, HS, RightTo.zero n es⟩
    case round =>
      obtain ⟨k, c, hk, rfl, HR, HTo⟩ := hrel
      by_cases hlt : k < es.length
      · obtain ⟨b, o, rfl, lb, hcs⟩ := HC.out (by omega)
        have hE := HR.out.below
        have g0 := (hE.cell (p := ⟨b, o + k * 3, none⟩) lb).trans (hcs k hlt).1
        have g1 := (hE.cell (p := ⟨b, o + k * 3 + 1, none⟩) lb).trans (hcs k hlt).2.1
        have g2 := (hE.cell (p := ⟨b, o + k * 3 + 2, none⟩) lb).trans (hcs k hlt).2.2
        clear hcs
        have hzr : w.heap.size + 1 < wr.heap.size := HR.out.arr.lt
        have c0 := HR.out.c0
        have c1 := HR.out.c1
        have HL : Hid (wr.heap.size = wr.heap.size) := rfl
        have HBa : Hid (Below wr.heap.size wr (wr.alloc (.cells #[.int .i64 (ate es k).1, .int .i64 (ate es k).2.1, .int .i64 (ate es k).2.2] 54))) := (Below.refl _ wr).alloc (Nat.le_refl _) _
        clear hE
        obtain ⟨e, he⟩ : ∃ e, ate es k = e := ⟨_, rfl⟩
        obtain ⟨f, g, cs⟩ := e
        rw [he] at g0 g1 g2 HBa
        have HE := Lib.hid he
        clear he
        dsimp only at g0 g1 g2 HBa
        go_upto_region 7 with fail
        have HRa := Lib.hid (HR.out.grow HBa.out)
        have k0 : (wr.alloc (.cells #[.int .i64 f, .int .i64 g, .int .i64 cs] 54)).cell? ⟨wr.heap.size, 0, none⟩ = some (.int .i64 f) := by rw [cell_of_row _ _ 0 _ _ _ (heap_alloc_new wr _)]; rfl
        have k1 : (wr.alloc (.cells #[.int .i64 f, .int .i64 g, .int .i64 cs] 54)).cell? ⟨wr.heap.size, 1, none⟩ = some (.int .i64 g) := by rw [cell_of_row _ _ 1 _ _ _ (heap_alloc_new wr _)]; rfl
        have k2 : (wr.alloc (.cells #[.int .i64 f, .int .i64 g, .int .i64 cs] 54)).cell? ⟨wr.heap.size, 2, none⟩ = some (.int .i64 cs) := by rw [cell_of_row _ _ 2 _ _ _ (heap_alloc_new wr _)]; rfl
        have HNA : Hid (wr.heap.size < (wr.alloc (.cells #[.int .i64 f, .int .i64 g, .int .i64 cs] 54)).heap.size) := by show _ < _; simp
        clear g0 g1 g2 c0 c1 HR HBa HS HC
        generalize wr.alloc (.cells #[.int .i64 f, .int .i64 g, .int .i64 cs] 54) = wa at *
        generalize wr.heap.size = be at *
        have c0 := HRa.out.c0
        have c1 := HRa.out.c1
        have x0 := cell_regrown c0
        have x1 := cell_regrown c1
        have y0 := cell_regrown k0
        have y1 := cell_regrown k1
        have y2 := cell_regrown k2
        clear c0 c1 k0 k1 k2
        have hEO := @edgeB_iff n (f, g, cs)
        cases hb : edgeB n (f, g, cs) with
        | false =>
          have HF : Hid (t = false) := by
            show _ = _
            rw [← HT.out]
            refine rightB_false (RightTo.not hlt (.inl fun h => ?_))
            rw [HE.out] at h
            have := hEO.2 h
            rw [hb] at this
            cases this
          have C1 := Lib.hid (fun (dd : Nat) (os : Array Obj) => Calls.regrown_of (w := wa) (d := dd) (os := os) (rightEdge_any n (.slice (some ⟨b, o, none⟩) es.length cap) (f, g, cs) _ false hb))
          clear hEO hb
          dsimp only at C1
          refine wp_region_quiet_below mixed (by kernel_rfl) ?_
          repeat (quiet_step (with_reducible exact C1.out _ _))
          refine wpQuiet_nil ?_
          intro _ hw'
          obtain ⟨⟨dq, osq⟩, hw''⟩ := hw'
          subst hw''
          have HBN := Lib.hid (HRa.out.below.trans ((below_regrown wa dq osq).mono HRa.out.below.size))
          go_wp2_with fail
          rw [← HQ.out]
          exact ⟨ret_bool HF.out.symm, HBN.out⟩
        | true =>
          have hok := hEO.1 hb
          have C1 := Lib.hid (fun (dd : Nat) (os : Array Obj) => Calls.regrown_of (w := wa) (d := dd) (os := os) (rightEdge_any n (.slice (some ⟨b, o, none⟩) es.length cap) (f, g, cs) _ true hb))
          dsimp only at C1
          have HOK := Lib.hid hok
          have hf0 : 0 ≤ f := hok.1.1
          have hf1 : f < 40 := by have := hok.1.2; simp at this; omega
          have hg0 : 0 ≤ g := hok.2.1.1
          have hg1 : g < 40 := by have := hok.2.1.2; simp at this; omega
          have hix : idx (ate es k) < 1600 := by rw [HE.out]; exact idx_lt hok n2
          have hl0 := HRa.out.arr.cell (i := idx (ate es k)) (by rw [HRa.out.led.1]; exact hix)
          have HFr : Hid (atb c (idx (ate es k)) = false ↔ ∀ j, j < k → ¬ Same (ate es j) (ate es k)) := HRa.out.led.fresh HTo.out n2 (by rw [HE.out]; exact hok)
          have HIX := Lib.hid hix
          have HI : Hid (idx (ate es k) = f.toNat * 40 + g.toNat) := by show _ = _; rw [HE.out]; rfl
          rw [HI.out] at hl0
          clear hEO hb hok hix
          obtain ⟨x, hx⟩ : ∃ x, atb c (idx (ate es k)) = x := ⟨_, rfl⟩
          rw [HI.out] at hx
          rw [hx] at hl0
          have HX := Lib.hid hx
          clear hx
          have z0 := cell_regrown hl0
          cases x with
          | true =>
            have HF : Hid (t = false) := by
              show _ = _
              rw [← HT.out]
              refine rightB_false (RightTo.not hlt (.inr ?_))
              apply Classical.byContradiction
              intro hcon
              have := HFr.out.2 fun j hj hs => hcon ⟨j, hj, hs⟩
              rw [HI.out, HX.out] at this
              cases this
            refine wp_region_quiet_below mixed (by kernel_rfl) ?_
            repeat (quiet_step (with_reducible exact C1.out _ _))
            refine wpQuiet_nil ?_
            intro _ hw'
            obtain ⟨⟨dq, osq⟩, hw''⟩ := hw'
            subst hw''
            have HBN := Lib.hid (HRa.out.below.trans ((below_regrown wa dq osq).mono HRa.out.below.size))
            go_wp2_with fail
            rw [← HQ.out]
            exact ⟨ret_bool HF.out.symm, HBN.out⟩
          | false =>
            have HF : Hid (RightTo n es (k + 1)) := HTo.out.succ (by rw [HE.out]; exact HOK.out) (HFr.out.1 (by rw [HI.out]; exact HX.out))
            clear HX
            refine wp_region_quiet_below mixed (by kernel_rfl) ?_
            repeat (quiet_step (with_reducible exact C1.out _ _))
            refine wpQuiet_nil ?_
            intro _ hw'
            obtain ⟨⟨dq, osq⟩, hw''⟩ := hw'
            subst hw''
            have HRb := Lib.hid (HRa.out.grow (below_regrown wa dq osq))
            have e0 := y0 dq osq
            have e1 := y1 dq osq
            have l0 := z0 dq osq
            have lf := HRb.out.arr.thaw (f.toNat * 40 + g.toNat)
            clear x0 x1 y0 y1 y2 z0 C1 HRa hl0
            generalize Sort.grow (redrawn wa dq) osq = wb at *
            go_upto_region 9 with fail
            go_region
            go_wp2_with fail
            go_roundw
            case rel =>
              have hS := HRb.out.set HIX.out
              rw [HI.out] at hS
              exact ⟨k + 1, _, by omega, by go_num, hS.drew, HF⟩
            case measure => simp [intOf]; omega
      · have HF : Hid (t = true) := by
          show _ = _
          rw [← HT.out]
          obtain rfl : k = es.length := by omega
          exact rightB_true ⟨n1, n2, n3, HTo.out⟩
        have HB := Lib.hid HR.out.below
        go_wp2_with fail
        rw [← HQ.out]
        exact ⟨ret_bool HF.out.symm, HB.out⟩
  · have : t = false := by
      rw [← ht]
      exact rightB_false fun h => hs ⟨h.1, h.2.1, h.2.2.1⟩
    subst this
    exact right_short v hv hs
end Go.Proofs.Ytnpbkjmlmdpggaa.Ly
