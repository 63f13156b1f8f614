import Derived.Test.YtcbfjkigmlmohaaYc
/- Out and Between. -/
set_option linter.unusedVariables false
set_option linter.unusedSimpArgs false
namespace Go.Proofs.Ytcbfjkigmlmohaa.Ly
open Go.RowKit

/-- A layout's box. -/
structure BoxAt (n : Int) (v : Value) (w : World) (b : Nat) : Prop where
  c0 : w.cell? ⟨b, 0, none⟩ = some (.int .i64 n)
  c1 : w.cell? ⟨b, 1, none⟩ = some v
  lt : b < w.heap.size
theorem BoxAt.below {n : Int} {v : Value} {w w' : World} {b : Nat} (h : BoxAt n v w b) (hb : Below w.heap.size w w') : BoxAt n v w' b :=
  ⟨(hb.cell h.lt).trans h.c0, (hb.cell h.lt).trans h.c1, Nat.lt_of_lt_of_le h.lt hb.size⟩
theorem BoxAt.belowB {n : Int} {v : Value} {w w' : World} {b B : Nat} (h : BoxAt n v w b) (hb : Below B w w') (hB : b < B) : BoxAt n v w' b :=
  ⟨(hb.cell hB).trans h.c0, (hb.cell hB).trans h.c1, Nat.lt_of_lt_of_le h.lt hb.size⟩
theorem BoxAt.new (n : Int) (v : Value) (w : World) : BoxAt n v (w.alloc (.cells #[.int .i64 n, v] 24)) w.heap.size :=
  ⟨by rw [cell_of_row _ _ 0 _ _ _ (heap_alloc_new w _)]; rfl, by rw [cell_of_row _ _ 1 _ _ _ (heap_alloc_new w _)]; rfl, by simp⟩
theorem hitB_true {es : List Ed} {f t : Int} {k : Nat} (h1 : (ate es k).1 = f) (h2 : (ate es k).2.1 = t) : hitB es f t k = true := by simp [hitB, h1, h2]
theorem hitB_false {es : List Ed} {f t : Int} {k : Nat} (h : ¬ ((ate es k).1 = f ∧ (ate es k).2.1 = t)) : hitB es f t k = false := by
  unfold hitB
  rw [← Bool.not_eq_true]
  simpa using fun h1 h2 => h ⟨h1, h2⟩
set_option maxHeartbeats 8000000 in
theorem between_any {n : Int} {es : List Ed} {w : World} (v : Value) (hv : EdgesAt w v es) (f t : Int) :
    Calls Try.prog 13 #[.agg #[.int .i64 n, v], .int .i64 f, .int .i64 t] w (Ret (.tuple #[.int .i64 (betL n es f t).1, .bool (betL n es f t).2]) w) := by
  have HB0 : Hid (Below w.heap.size w (w.alloc (.cells #[.int .i64 n, v] 24))) := (Below.refl _ w).alloc (Nat.le_refl _) _
  have HX0 := Lib.hid (BoxAt.new n v w)
  have HV := Lib.hid (hv.below HB0.out (Nat.le_refl _))
  have hv1 := HV.out
  obtain ⟨x, hx⟩ : ∃ x, betL n es f t = x := ⟨_, rfl⟩
  obtain ⟨x1, x2⟩ := x
  rw [hx]
  have HX := Lib.hid hx
  clear hx
  obtain ⟨Q, HQ⟩ : ∃ Q, Hid (Ret (.tuple #[.int .i64 (x1, x2).1, .bool (x1, x2).2]) w = Q) := ⟨_, rfl⟩
  rw [HQ.out]
  cases hr : rightB n es with
  | false =>
    have HE : Hid (x1 = 0 ∧ x2 = false) := by
      have := HX.out
      unfold betL at this
      rw [hr] at this
      simp at this
      exact ⟨this.1.symm, this.2⟩
    have C := Lib.hid (fun u w' hu => right_any (n := n) (es := es) (w := w') u hu false hr)
    clear hr hv hv1
    go_enter Try.func13, Try.ntmps13
    go_wp2_with (go_at_call 20; (with_reducible refine (C.out _ _ HV.out).mono ?_); rintro e w1 ⟨rfl, hb1⟩; have HB1 := Lib.hid (HB0.out.trans (hb1.mono HB0.out.size)); clear hb1)
    rw [← HQ.out]
    obtain ⟨rfl, rfl⟩ := HE.out
    exact ⟨rfl, HB1.out⟩
  | true =>
    have HE : Hid (betw es f t = (x1, x2)) := by
      have := HX.out
      unfold betL at this
      rwa [hr] at this
    have C := Lib.hid (fun u w' hu => right_any (n := n) (es := es) (w := w') u hu true hr)
    clear hr hv
    obtain ⟨ao, cap, rfl, hl, hc⟩ := hv1
    have HC := Lib.hid hc
    clear hc
    go_enter Try.func13, Try.ntmps13
    go_wp2_with (go_at_call 20; (with_reducible refine (C.out _ _ HV.out).mono ?_); rintro e w1 ⟨rfl, hb1⟩; have HB1 := Lib.hid (HB0.out.trans (hb1.mono HB0.out.size)); have HX1 := Lib.hid (HX0.out.below hb1); have c0 := HX1.out.c0; have c1 := HX1.out.c1; have HW1 := Lib.hid hb1; clear hb1)
    clear c0 c1
    go_loopw [16] (fun i wr => ∃ k : Nat, k ≤ es.length ∧ i = .int .i64 k ∧ Hid (Below w1.heap.size w1 wr) ∧ Hid (∀ j, j < k → hitB es f t j = false)) (fun i _ => es.length - (intOf i).toNat)
    case atStart => exact ⟨0, Nat.zero_le _, rfl, Below.refl _ _, fun j hj => absurd hj (by omega)⟩
    case round =>
      obtain ⟨k, hk, rfl, HR, HN⟩ := hrel
      by_cases hlt : k < es.length
      · obtain ⟨b, o, rfl, lb, hcs⟩ := HC.out (by omega)
        have hE := (HW1.out.trans (HR.out.mono HW1.out.size))
        have g0 := (hE.cell (p := ⟨b, o + k * 3, none⟩) lb).trans (hcs k hlt).1
        have g1 := (hE.cell (p := ⟨b, o + k * 3 + 1, none⟩) lb).trans (hcs k hlt).2.1
        have g2 := (hE.cell (p := ⟨b, o + k * 3 + 2, none⟩) lb).trans (hcs k hlt).2.2
        have HBa : Hid (Below w1.heap.size w1 (wr.alloc (.cells #[.int .i64 (ate es k).1, .int .i64 (ate es k).2.1, .int .i64 (ate es k).2.2] 40))) := HR.out.alloc HR.out.size _
        clear hE hcs
        by_cases hh : (ate es k).1 = f ∧ (ate es k).2.1 = t
        · obtain ⟨h1, h2⟩ := hh
          have HE2 : Hid (x1 = (k : Int) ∧ x2 = true) := by
            have := HE.out
            rw [betw_some hlt (hitB_true h1 h2) HN.out] at this
            simp at this
            exact ⟨this.1.symm, this.2⟩
          rw [h1] at g0 HBa
          rw [h2] at g1 HBa
          generalize (ate es k).2.2 = c at *
          clear h1 h2
          go_wp2_with fail
          rw [← HQ.out]
          obtain ⟨rfl, rfl⟩ := HE2.out
          exact ⟨rfl, HB1.out.trans (HBa.out.mono HB1.out.size)⟩
        · have HN2 : Hid (∀ j, j < k + 1 → hitB es f t j = false) := fun j hj => by
            by_cases e : j = k
            · subst e; exact hitB_false hh
            · exact HN.out j (by omega)
          by_cases h1 : (ate es k).1 = f
          · have h2 : ¬ (ate es k).2.1 = t := fun x => hh ⟨h1, x⟩
            have d2 : ((ate es k).2.1 == t) = false := by simpa using h2
            rw [h1] at g0 HBa
            generalize (ate es k).2.2 = c at *
            generalize (ate es k).2.1 = g at *
            clear h1 h2 hh
            go_wp2_with fail
            go_roundw
            case rel => exact ⟨k + 1, by omega, by go_num, HBa, HN2⟩
            case measure => simp [intOf]; omega
          · have d1 : ((ate es k).1 == f) = false := by simpa using h1
            generalize (ate es k).2.2 = c at *
            generalize (ate es k).2.1 = g at *
            generalize (ate es k).1 = f' at *
            clear h1 hh
            go_wp2_with fail
            go_roundw
            case rel => exact ⟨k + 1, by omega, by go_num, HBa, HN2⟩
            case measure => simp [intOf]; omega
      · have HE2 : Hid (x1 = 0 ∧ x2 = false) := by
          have := HE.out
          rw [betw_none fun j hj => HN.out j (by omega)] at this
          simp at this
          exact ⟨this.1.symm, this.2⟩
        go_wp2_with fail
        rw [← HQ.out]
        obtain ⟨rfl, rfl⟩ := HE2.out
        exact ⟨rfl, HB1.out.trans (HR.out.mono HB1.out.size)⟩
end Go.Proofs.Ytcbfjkigmlmohaa.Ly
