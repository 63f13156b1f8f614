import Derived.Test.YtnjcfnmdelpecaaTr
import Derived.BigRegion
/- Layer 7, the document's side: its Parse and Match. -/
set_option linter.unusedVariables false
set_option linter.unusedSimpArgs false
namespace Go.Proofs.Ytnjcfnmdelpecaa.Tp
open Go.RowKit Go.Proofs.Ytnjcfnmdelpecaa.Own

theorem rprint_some {m s k z : List UInt8} (h : printS m s k = some z) (w : World) (hm : m.length ≤ reachN) (hs : s.length ≤ reachN) (hk : k.length ≤ reachN) :
    Calls Try.prog 12 #[.agg #[.string ⟨m.toArray⟩, .string ⟨s.toArray⟩, .string ⟨k.toArray⟩]] w (Ret (.tuple #[.string ⟨z.toArray⟩, .int .i64 0]) w) := by
  have := rPrint_any m s k w hm hs hk
  rw [h] at this
  exact this
theorem rprint_none {m s k : List UInt8} (h : printS m s k = none) (w : World) (hm : m.length ≤ reachN) (hs : s.length ≤ reachN) (hk : k.length ≤ reachN) :
    Calls Try.prog 12 #[.agg #[.string ⟨m.toArray⟩, .string ⟨s.toArray⟩, .string ⟨k.toArray⟩]] w (Ret (.tuple #[.string ⟨#[]⟩, .int .i64 70]) w) := by
  have := rPrint_any m s k w hm hs hk
  rw [h] at this
  exact this
/-- The parts' slice, opened. -/
theorem PartsAt.form {w : World} {v : Value} {l : List UInt8} (h : PartsAt w v (partsL l)) :
    ∃ b cap, v = .slice (some ⟨b, 0, none⟩) (partsL l).length cap ∧ b < w.heap.size ∧ ∀ j (hj : j < (partsL l).length), w.cell? ⟨b, j, none⟩ = some (.string ⟨((partsL l)[j]).toArray⟩) := by
  obtain ⟨ao, cap, e, hb⟩ := OneAt.form h
  obtain ⟨b, rfl, h1, h2⟩ := hb (List.length_pos_iff.2 (partsL_ne l))
  exact ⟨b, cap, e, h1, h2⟩
theorem nth_at (l : List UInt8) (j : Nat) (h : j < (partsL l).length) : (partsL l)[j] = (partsL l).getD j [] := by
  rw [List.getD_eq_getElem?_getD, List.getElem?_eq_getElem h]; rfl
/-- Three cells, written. -/
def set3 (W : World) (b : Nat) (v0 v1 v2 : Value) : World := ((W.setCell ⟨b, 0, none⟩ v0).setCell ⟨b, 1, none⟩ v1).setCell ⟨b, 2, none⟩ v2
theorem set3_below {n : Nat} {W0 W : World} (h : Below n W0 W) {b : Nat} (hb : n ≤ b) (v0 v1 v2 : Value) : Below n W0 (set3 W b v0 v1 v2) :=
  ((h.setCell (p := ⟨b, 0, none⟩) hb _).setCell (p := ⟨b, 1, none⟩) hb _).setCell (p := ⟨b, 2, none⟩) hb _
theorem set3_cells {W : World} {b : Nat} (h : Empty3 W b) (v0 v1 v2 : Value) :
    HoldsA (set3 W b v0 v1 v2) b 0 v0 ∧ HoldsA (set3 W b v0 v1 v2) b 1 v1 ∧ HoldsA (set3 W b v0 v1 v2) b 2 v2 :=
  ⟨((h.1.set _).other (by omega) _).other (by omega) _, ((h.2.1.other (by omega) _).set _).other (by omega) _, ((h.2.2.1.other (by omega) _).other (by omega) _).set _⟩

theorem below_d {w w1 w2 : World} {o : Obj} (h1 : Below w.heap.size w w1) (h2 : Below (w1.alloc o).drew.heap.size (w1.alloc o).drew w2) : Below w.heap.size w w2 := below2 ((h1.alloc h1.size o).drew) h2
theorem Empty3.drew {W : World} {b : Nat} (h : Empty3 W b) : Empty3 W.drew b := h

set_option maxHeartbeats 4000000 in
set_option maxRecDepth 100000 in
theorem rParse_any (z : List UInt8) (w : World) (hz : z.length ≤ 2000000) :
    Calls Try.prog 18 #[.string ⟨z.toArray⟩] w (Ret (parseV (parseS z)) w) := by
  have C1 := Lib.hid (fun u => rparts_any z u hz)
  by_cases h5 : (partsL z).length = 5
  · have HV : Hid (parseS z = if printS ((partsL z).getD 2 []) ((partsL z).getD 3 []) ((partsL z).getD 4 []) = some z then some ((partsL z).getD 2 [], (partsL z).getD 3 [], (partsL z).getD 4 []) else none) := by
      show _ = _
      unfold parseS
      rw [if_pos h5]
    have n2 := nth_at z 2 (by omega)
    have n3 := nth_at z 3 (by omega)
    have n4 := nth_at z 4 (by omega)
    have hl2 : ((partsL z).getD 2 []).length ≤ reachN := Nat.le_trans (nth_len z 2) (by unfold reachN; omega)
    have hl3 : ((partsL z).getD 3 []).length ≤ reachN := Nat.le_trans (nth_len z 3) (by unfold reachN; omega)
    have hl4 : ((partsL z).getD 4 []).length ≤ reachN := Nat.le_trans (nth_len z 4) (by unfold reachN; omega)
    generalize (partsL z).getD 2 [] = m at *
    generalize (partsL z).getD 3 [] = s at *
    generalize (partsL z).getD 4 [] = k at *
    have HCS : Hid (∀ (b0 : Nat) (W : World), (∀ j (hj : j < (partsL z).length), W.cell? ⟨b0, j, none⟩ = some (.string ⟨((partsL z)[j]).toArray⟩)) →
        W.cell? ⟨b0, 2, none⟩ = some (.string ⟨m.toArray⟩) ∧ W.cell? ⟨b0, 3, none⟩ = some (.string ⟨s.toArray⟩) ∧ W.cell? ⟨b0, 4, none⟩ = some (.string ⟨k.toArray⟩)) := fun b0 W h => by
      rw [← n2, ← n3, ← n4]
      exact ⟨h 2 (by omega), h 3 (by omega), h 4 (by omega)⟩
    clear n2 n3 n4
    have H5 := Lib.hid h5
    clear h5
    cases hq : printS m s k with
    | none =>
      have C2 := Lib.hid (fun u => rprint_none hq u hl2 hl3 hl4)
      have HV' : Hid (parseV (parseS z) = .tuple #[.agg #[.string ⟨#[]⟩, .string ⟨#[]⟩, .string ⟨#[]⟩], .int .i64 70]) := by
        show _ = _
        rw [HV.out, hq, if_neg (by simp)]
        rfl
      rw [HV'.out]
      clear HV HV' hq hl2 hl3 hl4
      generalize (⟨m.toArray⟩ : ByteArray) = M at *
      generalize (⟨s.toArray⟩ : ByteArray) = S at *
      generalize (⟨k.toArray⟩ : ByteArray) = KK at *
      go_enter Try.func18, Try.ntmps18
      go_wp2_with (go_at_call 26; (with_reducible refine (C1.out _).mono ?_); rintro e w1 ⟨v, rfl, hpv, hb1⟩; obtain ⟨b0, cap, rfl, hlt, hcs⟩ := hpv.form; obtain ⟨c2, c3, c4⟩ := HCS.out _ _ hcs; rw [H5.out]; have E1 := Lib.hid ((Empty3.new w 23).below hb1); have B1 := Lib.hid (below_a (Below.refl _ w) hb1); clear hb1 hcs hpv)
      go_region
      go_wp2_with (go_at_call 12; (with_reducible refine (C2.out _).mono ?_); rintro e w2 ⟨rfl, hb2⟩; obtain ⟨⟨c5, f5⟩, ⟨c6, f6⟩, ⟨c7, f7⟩, hlt5⟩ := ((E1.out.alloc _).drew).below hb2; have E2 := Lib.hid (((E1.out.alloc _).drew).below hb2); obtain ⟨⟨g0, _⟩, ⟨g1, _⟩, ⟨g2, _⟩, hlt6⟩ := (show TAt (w1.alloc (.cells #[.string M, .string S, .string KK] 23)).drew w1.heap.size M S KK from TAt.new w1 _ _ _ _).below hb2; have B2 := Lib.hid (below_d B1.out hb2); clear hb2)
      have D := set3_cells E2.out (.string ⟨#[]⟩) (.string ⟨#[]⟩) (.string ⟨#[]⟩)
      rw [show ((w2.setCell ⟨w.heap.size, 0, none⟩ (.string ⟨#[]⟩)).setCell ⟨w.heap.size, 1, none⟩ (.string ⟨#[]⟩)).setCell ⟨w.heap.size, 2, none⟩ (.string ⟨#[]⟩) = set3 w2 w.heap.size (.string ⟨#[]⟩) (.string ⟨#[]⟩) (.string ⟨#[]⟩) from rfl]
      have B3 := Lib.hid (set3_below B2.out (Nat.le_refl _) (.string ⟨#[]⟩) (.string ⟨#[]⟩) (.string ⟨#[]⟩))
      obtain ⟨⟨d0, _⟩, ⟨d1, _⟩, ⟨d2, _⟩⟩ := D
      generalize set3 w2 w.heap.size (.string ⟨#[]⟩) (.string ⟨#[]⟩) (.string ⟨#[]⟩) = W9 at *
      refine bodyPost_ret (v := .tuple #[.agg #[.string ⟨#[]⟩, .string ⟨#[]⟩, .string ⟨#[]⟩], .int .i64 70]) ?_ rfl ⟨rfl, B3.out⟩
      simp [results, Try.results18, go_sem, d0, d1, d2]
    | some y =>
      have C2 := Lib.hid (fun u => rprint_some hq u hl2 hl3 hl4)
      by_cases hy : y = z
      · subst hy
        have HV' : Hid (parseV (parseS y) = .tuple #[.agg #[.string ⟨m.toArray⟩, .string ⟨s.toArray⟩, .string ⟨k.toArray⟩], .int .i64 0]) := by
          show _ = _
          rw [HV.out, hq, if_pos rfl]
          rfl
        rw [HV'.out]
        clear HV HV' hq hl2 hl3 hl4
        generalize (⟨m.toArray⟩ : ByteArray) = M at *
        generalize (⟨s.toArray⟩ : ByteArray) = S at *
        generalize (⟨k.toArray⟩ : ByteArray) = KK at *
        go_enter Try.func18, Try.ntmps18
        go_wp2_with (go_at_call 26; (with_reducible refine (C1.out _).mono ?_); rintro e w1 ⟨v, rfl, hpv, hb1⟩; obtain ⟨b0, cap, rfl, hlt, hcs⟩ := hpv.form; obtain ⟨c2, c3, c4⟩ := HCS.out _ _ hcs; rw [H5.out]; have E1 := Lib.hid ((Empty3.new w 23).below hb1); have B1 := Lib.hid (below_a (Below.refl _ w) hb1); clear hb1 hcs hpv)
        go_region
        go_wp2_with (go_at_call 12; (with_reducible refine (C2.out _).mono ?_); rintro e w2 ⟨rfl, hb2⟩; obtain ⟨⟨c5, f5⟩, ⟨c6, f6⟩, ⟨c7, f7⟩, hlt5⟩ := ((E1.out.alloc _).drew).below hb2; have E2 := Lib.hid (((E1.out.alloc _).drew).below hb2); obtain ⟨⟨g0, _⟩, ⟨g1, _⟩, ⟨g2, _⟩, hlt6⟩ := (show TAt (w1.alloc (.cells #[.string M, .string S, .string KK] 23)).drew w1.heap.size M S KK from TAt.new w1 _ _ _ _).below hb2; have B2 := Lib.hid (below_d B1.out hb2); clear hb2)
        have D := set3_cells E2.out (.string M) (.string S) (.string KK)
        rw [show ((w2.setCell ⟨w.heap.size, 0, none⟩ (.string M)).setCell ⟨w.heap.size, 1, none⟩ (.string S)).setCell ⟨w.heap.size, 2, none⟩ (.string KK) = set3 w2 w.heap.size (.string M) (.string S) (.string KK) from rfl]
        have B3 := Lib.hid (set3_below B2.out (Nat.le_refl _) (.string M) (.string S) (.string KK))
        obtain ⟨⟨d0, _⟩, ⟨d1, _⟩, ⟨d2, _⟩⟩ := D
        generalize set3 w2 w.heap.size (.string M) (.string S) (.string KK) = W9 at *
        refine bodyPost_ret (v := .tuple #[.agg #[.string M, .string S, .string KK], .int .i64 0]) ?_ rfl ⟨rfl, B3.out⟩
        simp [results, Try.results18, go_sem, d0, d1, d2]
      · have t1 := str_ne hy
        have t2 := kd_no z hy
        have HV' : Hid (parseV (parseS z) = .tuple #[.agg #[.string ⟨#[]⟩, .string ⟨#[]⟩, .string ⟨#[]⟩], .int .i64 70]) := by
          show _ = _
          rw [HV.out, hq, if_neg (by intro e; exact hy (Option.some.inj e))]
          rfl
        rw [HV'.out]
        clear HV HV' hq hl2 hl3 hl4 hy
        generalize (⟨y.toArray⟩ : ByteArray) = Y at *
        generalize (⟨m.toArray⟩ : ByteArray) = M at *
        generalize (⟨s.toArray⟩ : ByteArray) = S at *
        generalize (⟨k.toArray⟩ : ByteArray) = KK at *
        go_enter Try.func18, Try.ntmps18
        go_wp2_with (go_at_call 26; (with_reducible refine (C1.out _).mono ?_); rintro e w1 ⟨v, rfl, hpv, hb1⟩; obtain ⟨b0, cap, rfl, hlt, hcs⟩ := hpv.form; obtain ⟨c2, c3, c4⟩ := HCS.out _ _ hcs; rw [H5.out]; have E1 := Lib.hid ((Empty3.new w 23).below hb1); have B1 := Lib.hid (below_a (Below.refl _ w) hb1); clear hb1 hcs hpv)
        go_region
        go_wp2_with (go_at_call 12; (with_reducible refine (C2.out _).mono ?_); rintro e w2 ⟨rfl, hb2⟩; obtain ⟨⟨c5, f5⟩, ⟨c6, f6⟩, ⟨c7, f7⟩, hlt5⟩ := ((E1.out.alloc _).drew).below hb2; have E2 := Lib.hid (((E1.out.alloc _).drew).below hb2); obtain ⟨⟨g0, _⟩, ⟨g1, _⟩, ⟨g2, _⟩, hlt6⟩ := (show TAt (w1.alloc (.cells #[.string M, .string S, .string KK] 23)).drew w1.heap.size M S KK from TAt.new w1 _ _ _ _).below hb2; have B2 := Lib.hid (below_d B1.out hb2); clear hb2)
        have D := set3_cells E2.out (.string ⟨#[]⟩) (.string ⟨#[]⟩) (.string ⟨#[]⟩)
        rw [show ((w2.setCell ⟨w.heap.size, 0, none⟩ (.string ⟨#[]⟩)).setCell ⟨w.heap.size, 1, none⟩ (.string ⟨#[]⟩)).setCell ⟨w.heap.size, 2, none⟩ (.string ⟨#[]⟩) = set3 w2 w.heap.size (.string ⟨#[]⟩) (.string ⟨#[]⟩) (.string ⟨#[]⟩) from rfl]
        have B3 := Lib.hid (set3_below B2.out (Nat.le_refl _) (.string ⟨#[]⟩) (.string ⟨#[]⟩) (.string ⟨#[]⟩))
        obtain ⟨⟨d0, _⟩, ⟨d1, _⟩, ⟨d2, _⟩⟩ := D
        generalize set3 w2 w.heap.size (.string ⟨#[]⟩) (.string ⟨#[]⟩) (.string ⟨#[]⟩) = W9 at *
        refine bodyPost_ret (v := .tuple #[.agg #[.string ⟨#[]⟩, .string ⟨#[]⟩, .string ⟨#[]⟩], .int .i64 70]) ?_ rfl ⟨rfl, B3.out⟩
        simp [results, Try.results18, go_sem, d0, d1, d2]
  · have HV : Hid (parseV (parseS z) = .tuple #[.agg #[.string ⟨#[]⟩, .string ⟨#[]⟩, .string ⟨#[]⟩], .int .i64 70]) := by
      show _ = _
      unfold parseS
      rw [if_neg h5]
      rfl
    rw [HV.out]
    have hne : (((partsL z).length : Int) == 5) = false := by simp; omega
    have hne2 : (((partsL z).length : Int) != 5) = true := by simp; omega
    clear HV h5
    go_enter Try.func18, Try.ntmps18
    go_wp2_with (go_at_call 26; (with_reducible refine (C1.out _).mono ?_); rintro e w2 ⟨v, rfl, hpv, hb1⟩; obtain ⟨b0, cap, rfl, hlt, hcs⟩ := hpv.form; obtain ⟨⟨c5, f5⟩, ⟨c6, f6⟩, ⟨c7, f7⟩, hlt5⟩ := (Empty3.new w 23).below hb1; have E2 := Lib.hid ((Empty3.new w 23).below hb1); have B2 := Lib.hid (below_a (Below.refl _ w) hb1); clear hb1 hcs hpv)
    have D := set3_cells E2.out (.string ⟨#[]⟩) (.string ⟨#[]⟩) (.string ⟨#[]⟩)
    rw [show ((w2.setCell ⟨w.heap.size, 0, none⟩ (.string ⟨#[]⟩)).setCell ⟨w.heap.size, 1, none⟩ (.string ⟨#[]⟩)).setCell ⟨w.heap.size, 2, none⟩ (.string ⟨#[]⟩) = set3 w2 w.heap.size (.string ⟨#[]⟩) (.string ⟨#[]⟩) (.string ⟨#[]⟩) from rfl]
    have B3 := Lib.hid (set3_below B2.out (Nat.le_refl _) (.string ⟨#[]⟩) (.string ⟨#[]⟩) (.string ⟨#[]⟩))
    obtain ⟨⟨d0, _⟩, ⟨d1, _⟩, ⟨d2, _⟩⟩ := D
    generalize set3 w2 w.heap.size (.string ⟨#[]⟩) (.string ⟨#[]⟩) (.string ⟨#[]⟩) = W9 at *
    refine bodyPost_ret (v := .tuple #[.agg #[.string ⟨#[]⟩, .string ⟨#[]⟩, .string ⟨#[]⟩], .int .i64 70]) ?_ rfl ⟨rfl, B3.out⟩
    simp [results, Try.results18, go_sem, d0, d1, d2]
end Go.Proofs.Ytnjcfnmdelpecaa.Tp
