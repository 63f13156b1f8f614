import Derived.Test.YtnpbkjmlmdpggaaYF
import Derived.Test.YtnpbkjmlmdpggaaWu
/- What opens the arguments of stage 13's laws: raw orders. -/
set_option linter.unusedVariables false
set_option linter.unusedSimpArgs false
namespace Go.Proofs.Ytnpbkjmlmdpggaa
open Go.ChangeShapes Go.WideShapes Go.ChangeAt Go.RowKit Ly

theorem cellsRaw13 : Try.prog.cellsOf 44 = 7 := by kernel_rfl
theorem cellsInts : Try.prog.cellsOf 27 = 1 := by kernel_rfl
theorem bytesRaw13 : Try.prog.bytesOf 44 = 72 := by kernel_rfl
/-- Numbers that are read: how many there may be. -/
def IntsC (w : World) (v : Value) (l : List Int) : Prop := IntsAt w v l ∧ (∀ x ∈ l, Js.i64B x) ∧ l.length * 8 ≤ 140737488351232 ∧ ∃ ao n c, v = .slice ao n c ∧ n ≤ c
set_option maxRecDepth 100000 in
theorem ints_trod {H : Type} {enc : TypeId × Value → H} {W : World} {fuel : Nat} {v : Value} {x : DataW H × List MemPlace}
    (hf : DataW.trod enc Try.prog W 0 (fun _ => true) true fuel 27 [v] = some x) (hw : Wt 27 x.1) : ∃ l, IntsC W v l := by
  rcases Deep.open_slice Try.underlying27 hf with ⟨hcs, hx⟩ | ⟨a, len, cap, m, n, D, Pl, hcs, hb, hl, hmx, hm, hx, hel⟩
  · simp at hcs
    subst hcs
    exact ⟨[], IntsAt.nil _ _, by simp, by simp, none, 0, 0, rfl, Nat.le_refl _⟩
  · simp at hcs
    subst hcs
    simp only [if_true] at hm
    subst hm
    have hd : x.1 = .slice ((List.range len).map D) ((List.range (m - len)).map fun j => D (len + j)) := by rw [hx]
    rw [hd] at hw
    obtain ⟨hwl, hwe⟩ := wt_slice Try.underlying27 hw
    rw [bytesInt] at hwl
    simp at hwl
    by_cases hl0 : len = 0
    · subst hl0
      exact ⟨[], ⟨_, _, rfl, by simp, fun h => by simp at h⟩, by simp, by simp, _, _, _, rfl, Nat.zero_le _⟩
    · rw [cellsInt] at hel
      have one : ∀ i, i < len → ∃ x : Int, W.cell? (a.add i) = some (.int .i64 x) ∧ Js.i64B x := by
        intro i hi
        obtain ⟨cs, hc, ht⟩ := hel i (by omega)
        obtain ⟨_, hcl, hcc⟩ := World.cells?_some hc
        obtain ⟨c0, rfl⟩ : ∃ c, cs = [c] := by
          match cs, hcl with
          | [c], _ => exact ⟨c, rfl⟩
        obtain ⟨x, e0, -, wx⟩ := DataW.trod_int Try.underlying3 ht
        cases e0
        have k0 := hcc 0 (by omega)
        rw [Deep.add_add, Nat.mul_one] at k0
        exact ⟨x, k0, bounds_i64 wx⟩
      obtain ⟨f, hf⟩ := Deep.choose_lt one
      obtain ⟨b, off, spot⟩ := a
      have hspot : spot = none := by
        have := (hf 0 (by omega)).1
        simpa [Addr.add] using World.cell?_spot this
      subst hspot
      have hlen : ((List.range len).map f).length = len := by simp
      have hget : ∀ j, j < len → ati ((List.range len).map f) j = f j := fun j hj => by
        unfold ati
        rw [List.getD_eq_getElem?_getD, List.getElem?_map, List.getElem?_range hj]; rfl
      have hc0 := (hf 0 (by omega)).1
      rw [add_plain] at hc0
      refine ⟨(List.range len).map f, ⟨_, _, by rw [hlen], by rw [hlen]; omega, fun _ => ⟨b, off, rfl, cell_lt hc0, fun j hj => ?_⟩⟩, fun x hx => ?_, by rw [hlen]; exact hwl, _, _, _, rfl, by omega⟩
      · rw [hlen] at hj
        have := (hf j hj).1
        rw [add_plain] at this
        rw [hget j hj]
        exact this
      · obtain ⟨j, hj, rfl⟩ := List.mem_map.1 hx
        exact (hf j (List.mem_range.1 hj)).2
theorem trod_struct7 {H : Type} {enc : TypeId × Value → H} {P : Program} {w : World} {base : Nat} {spare : Nat → Bool} {held : Bool} {t : TypeId} {f0 f1 f2 f3 f4 f5 f6 : Field} {fuel : Nat} {cs : List Value} {x : DataW H × List MemPlace} (ht : P.underlying t = some (.struct #[f0, f1, f2, f3, f4, f5, f6])) (h : DataW.trod enc P w base spare held fuel t cs = some x) :
    ∃ y0 y1 y2 y3 y4 y5 y6 n, x.1 = .agg [y0.1, y1.1, y2.1, y3.1, y4.1, y5.1, y6.1] ∧ cs.length = P.cellsOf t ∧ DataW.trod enc P w base spare held n f0.type ((cs.drop f0.offset).take (P.cellsOf f0.type)) = some y0 ∧
      DataW.trod enc P w base spare held n f1.type ((cs.drop f1.offset).take (P.cellsOf f1.type)) = some y1 ∧ DataW.trod enc P w base spare held n f2.type ((cs.drop f2.offset).take (P.cellsOf f2.type)) = some y2 ∧
      DataW.trod enc P w base spare held n f3.type ((cs.drop f3.offset).take (P.cellsOf f3.type)) = some y3 ∧ DataW.trod enc P w base spare held n f4.type ((cs.drop f4.offset).take (P.cellsOf f4.type)) = some y4 ∧
      DataW.trod enc P w base spare held n f5.type ((cs.drop f5.offset).take (P.cellsOf f5.type)) = some y5 ∧ DataW.trod enc P w base spare held n f6.type ((cs.drop f6.offset).take (P.cellsOf f6.type)) = some y6 := by
  obtain ⟨xs, n, _, rfl, hl, hlen, hf⟩ := DataW.trod_struct ht h
  match xs, hlen with
  | [y0, y1, y2, y3, y4, y5, y6], _ => exact ⟨y0, y1, y2, y3, y4, y5, y6, n, by simp, hl, by simpa using hf 0 f0 rfl, by simpa using hf 1 f1 rfl, by simpa using hf 2 f2 rfl, by simpa using hf 3 f3 rfl, by simpa using hf 4 f4 rfl, by simpa using hf 5 f5 rfl, by simpa using hf 6 f6 rfl⟩
set_option maxRecDepth 100000 in
/-- A raw order's cells. -/
theorem raw_trod {H : Type} {enc : TypeId × Value → H} {W : World} {fuel : Nat} {cs : List Value} {x : DataW H × List MemPlace}
    (h : DataW.trod enc Try.prog W 0 (fun _ => true) true fuel 44 cs = some x) (hw : Wt 44 x.1) : ∃ (r : Wk.RawR) (tv : Value), cs = [.int .i64 r.h, .int .i64 r.o, .int .i64 r.u, .int .i64 r.q, .int .i64 r.f, .int .i64 r.r, tv] ∧ Wk.RawAt W (.agg #[.int .i64 r.h, .int .i64 r.o, .int .i64 r.u, .int .i64 r.q, .int .i64 r.f, .int .i64 r.r, tv]) r := by
  obtain ⟨y0, y1, y2, y3, y4, y5, y6, n', hx, hcl, t0, t1, t2, t3, t4, t5, t6⟩ := trod_struct7 Try.underlying44 h
  rw [cellsRaw13] at hcl
  simp only [cellsInt, cellsInts] at t0 t1 t2 t3 t4 t5 t6
  match cs, hcl with
  | [c0, c1, c2, c3, c4, c5, c6], _ =>
    have h0 : DataW.trod enc Try.prog W 0 (fun _ => true) true n' 3 [c0] = some y0 := t0
    have h1 : DataW.trod enc Try.prog W 0 (fun _ => true) true n' 3 [c1] = some y1 := t1
    have h2 : DataW.trod enc Try.prog W 0 (fun _ => true) true n' 3 [c2] = some y2 := t2
    have h3 : DataW.trod enc Try.prog W 0 (fun _ => true) true n' 3 [c3] = some y3 := t3
    have h4 : DataW.trod enc Try.prog W 0 (fun _ => true) true n' 3 [c4] = some y4 := t4
    have h5 : DataW.trod enc Try.prog W 0 (fun _ => true) true n' 3 [c5] = some y5 := t5
    have h6 : DataW.trod enc Try.prog W 0 (fun _ => true) true n' 27 [c6] = some y6 := t6
    obtain ⟨x0, e0, -, w0⟩ := DataW.trod_int Try.underlying3 h0
    obtain ⟨x1, e1, -, w1⟩ := DataW.trod_int Try.underlying3 h1
    obtain ⟨x2, e2, -, w2⟩ := DataW.trod_int Try.underlying3 h2
    obtain ⟨x3, e3, -, w3⟩ := DataW.trod_int Try.underlying3 h3
    obtain ⟨x4, e4, -, w4⟩ := DataW.trod_int Try.underlying3 h4
    obtain ⟨x5, e5, -, w5⟩ := DataW.trod_int Try.underlying3 h5
    cases e0
    cases e1
    cases e2
    cases e3
    cases e4
    cases e5
    rw [hx] at hw
    obtain ⟨l, hl, hb, -⟩ := ints_trod h6 (wt_part Try.underlying44 hw (j := 6) rfl rfl)
    exact ⟨⟨x0, x1, x2, x3, x4, x5, l⟩, c6, rfl, ⟨c6, rfl, hl⟩, bounds_i64 w0, bounds_i64 w1, bounds_i64 w2, bounds_i64 w3, bounds_i64 w4, bounds_i64 w5, hb⟩
set_option maxRecDepth 100000 in
/-- A raw order among the arguments. -/
theorem open_raw13_at {H : Type} {enc : TypeId × Value → H} {W : World} {base : Nat} {v : Value} {d : DataW H} {p : List MemPlace}
    (hval : Value.okWide Try.prog W .any base 44 v) (h : DataW.Trod enc Try.prog W 0 (fun _ => true) true 44 v d p) (hw : Wt 44 d) : ∃ z, Wk.RawAt W v z := by
  obtain ⟨cs, rfl, hsz⟩ := okWide_struct Try.underlying44 hval
  obtain ⟨fuel, hf⟩ := h
  obtain ⟨r, tv, e, hr⟩ := raw_trod hf hw
  have : cs = #[.int .i64 r.h, .int .i64 r.o, .int .i64 r.u, .int .i64 r.q, .int .i64 r.f, .int .i64 r.r, tv] := Array.ext' (by simpa [Value.cells] using e)
  subst this
  exact ⟨r, hr⟩
set_option maxRecDepth 100000 in
/-- Numbers among the arguments. -/
theorem open_intsC_at {H : Type} {enc : TypeId × Value → H} {W : World} {base : Nat} {v : Value} {d : DataW H} {p : List MemPlace}
    (hval : Value.okWide Try.prog W .any base 27 v) (h : DataW.Trod enc Try.prog W 0 (fun _ => true) true 27 v d p) (hw : Wt 27 d) : ∃ l, IntsC W v l := by
  obtain ⟨a0, len, cap, rfl⟩ := okWide_slice Try.underlying27 hval
  obtain ⟨fuel, hf⟩ := h
  exact ints_trod (x := (d, p)) hf hw
end Go.Proofs.Ytnpbkjmlmdpggaa
