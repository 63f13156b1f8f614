import Derived.Test.YtafmnoeljefpaaaFR
/- What opens slices of raw values and of names. -/
set_option linter.unusedVariables false
set_option linter.unusedSimpArgs false
namespace Go.Proofs.Ytafmnoeljefpaaa.Js
open Go.ChangeShapes Go.WideShapes Go.ChangeAt Go.RowKit Lex

/-- A slice that reads as a list of raw values. -/
def RsAt (w : World) (v : Value) (rs : List RT) : Prop :=
  ∃ ao cap, v = .slice ao rs.length cap ∧ rs.length ≤ cap ∧ rs.length ≤ 9223372036854775807 ∧
    (0 < rs.length → ∃ b off, ao = some ⟨b, off, none⟩ ∧ b < w.heap.size ∧ ∀ i, i < rs.length → ∃ u, LiesAt w b (off + i * 5) u ∧ ∀ n, RAt w n u (rs.getD i rt0))
set_option maxRecDepth 100000 in
theorem open_raws_at {H : Type} {enc : TypeId × Value → H} {W : World} {base : Nat} {v : Value} {d : DataW H} {p : List MemPlace}
    (hval : Value.okWide Try.prog W .any base 23 v) (h : DataW.Trod enc Try.prog W 0 (fun _ => true) true 23 v d p) (hw : Wt 23 d) : ∃ rs, RsAt W v rs := by
  obtain ⟨a0, len, cap, rfl⟩ := okWide_slice Try.underlying23 hval
  obtain ⟨fuel, hf⟩ := h
  rcases Deep.open_slice Try.underlying23 hf with ⟨hcs, hx⟩ | ⟨a, len', cap', m, n, D, Pl, hcs, hb, hl, hmx, hm, hx, hel⟩
  · simp [Value.cells] at hcs
    obtain ⟨rfl, rfl, rfl⟩ := hcs
    exact ⟨[], none, 0, rfl, by simp, by simp, fun h => by simp at h⟩
  · simp [Value.cells] at hcs
    obtain ⟨rfl, rfl, rfl⟩ := hcs
    simp only [if_true] at hm
    subst hm
    by_cases hl0 : len = 0
    · subst hl0
      exact ⟨[], _, _, rfl, by simp, by simp, fun h => by simp at h⟩
    · rw [cellsRaw] at hel
      have one : ∀ i, i < len → ∃ r : RT, ∃ u, (∀ q c, (aggC u)[q]? = some c → W.cell? (a.add (i * 5 + q)) = some c) ∧ (∃ c, W.cell? (a.add (i * 5)) = some c) ∧ ∀ n, RAt W n u r := by
        intro i hi
        obtain ⟨cs', hc, ht'⟩ := hel i (by omega)
        obtain ⟨_, hcl', hcc⟩ := World.cells?_some hc
        obtain ⟨r, d0, d1, d2, d3, d4, rfl, hr, _⟩ := raw_trod _ _ _ _ (Nat.le_refl _) ht'
        refine ⟨r, _, fun q c hq => ?_, ?_, hr⟩
        · have hq5 : q < 5 := by have := (List.getElem?_eq_some_iff.1 hq).1; simpa [aggC] using this
          have h0 := hcc q (by omega)
          rw [Deep.add_add] at h0
          rw [h0]
          have : [d0, d1, d2, d3, d4][q]? = some c := hq
          simpa using this
        · have h0 := hcc 0 (by omega)
          rw [Deep.add_add] at h0
          exact ⟨_, h0⟩
      haveI : Inhabited RT := ⟨rt0⟩
      obtain ⟨f, hf⟩ := Deep.choose_lt one
      have hlen : ((List.range len).map f).length = len := by simp
      have hget : ∀ j, j < len → ((List.range len).map f).getD j rt0 = f j := fun j hj => by
        rw [List.getD_eq_getElem?_getD, List.getElem?_map, List.getElem?_range hj]; rfl
      obtain ⟨b, off, spot⟩ := a
      obtain ⟨u0, _, ⟨c, hc0⟩, _⟩ := hf 0 (by omega)
      have hspot : spot = none := by simpa [Addr.add] using World.cell?_spot hc0
      subst hspot
      rw [add_plain] at hc0
      refine ⟨(List.range len).map f, _, _, by rw [hlen], by omega, by unfold maxLen at hmx; omega, fun _ => ⟨b, off, rfl, cell_lt hc0, fun j hj => ?_⟩⟩
      rw [hlen] at hj
      rw [hget j hj]
      obtain ⟨u, hu, _, hr⟩ := hf j hj
      refine ⟨u, fun q c hq => ?_, hr⟩
      have := hu q c hq
      rw [add_plain] at this
      rw [Nat.add_assoc]
      exact this
theorem RsAt.below {w w' : World} {v : Value} {rs : List RT} (h : RsAt w v rs) (hb : Below w.heap.size w w') : RsAt w' v rs := by
  obtain ⟨ao, cap, h1, h2, h3, h4⟩ := h
  refine ⟨ao, cap, h1, h2, h3, fun hp => ?_⟩
  obtain ⟨b, off, e1, e2, e3⟩ := h4 hp
  exact ⟨b, off, e1, Nat.lt_of_lt_of_le e2 hb.size, fun i hi => by obtain ⟨u, q1, q2⟩ := e3 i hi; exact ⟨u, q1.keep (hb.block b e2), fun n => (q2 n).below hb⟩⟩
set_option maxRecDepth 100000 in
/-- A slice of names reads as a list. -/
theorem open_strs_at {H : Type} {enc : TypeId × Value → H} {W : World} {base : Nat} {v : Value} {d : DataW H} {p : List MemPlace}
    (hval : Value.okWide Try.prog W .any base 28 v) (h : DataW.Trod enc Try.prog W 0 (fun _ => true) true 28 v d p) (hw : Wt 28 d) : ∃ ns, StrsAt Any W v ns := by
  obtain ⟨a0, len, cap, rfl⟩ := okWide_slice Try.underlying28 hval
  obtain ⟨fuel, hf⟩ := h
  rcases Deep.open_slice1 Try.underlying28 cellsStr hf with ⟨hcs, hx⟩ | ⟨a, len', cap', m, n, V, D, Pl, hcs, hb, hl, hmx, hm, hx, hel⟩
  · simp [Value.cells] at hcs
    obtain ⟨rfl, rfl, rfl⟩ := hcs
    exact ⟨[], none, 0, rfl, by simp, by simp, fun x hx => by simp at hx, fun h => by simp at h⟩
  · simp [Value.cells] at hcs
    obtain ⟨rfl, rfl, rfl⟩ := hcs
    simp only [if_true] at hm
    subst hm
    have hd : d = .slice ((List.range len).map D) ((List.range (m - len)).map fun j => D (len + j)) := congrArg Prod.fst hx
    rw [hd] at hw
    obtain ⟨hwl, hwe⟩ := wt_slice Try.underlying28 hw
    rw [bytesStr] at hwl
    simp at hwl
    by_cases hl0 : len = 0
    · subst hl0
      exact ⟨[], _, _, rfl, by simp, by simp, fun x hx => by simp at hx, fun h => by simp at h⟩
    · have one : ∀ i, i < len → ∃ t : List UInt8, W.cell? (a.add i) = some (strW t) ∧ txtB t := by
        intro i hi
        obtain ⟨hc, ht⟩ := hel i (by omega)
        obtain ⟨s, e0, hy0, hs⟩ := DataW.trod_string Try.underlying9 ht
        have hwi := hwe (D i) (List.mem_map.2 ⟨i, List.mem_range.2 hi, rfl⟩)
        have hDi : D i = .lit (.string s.data.toList) := congrArg Prod.fst hy0
        rw [hDi] at hwi
        have hsl := wt_string hwi
        simp at e0
        refine ⟨s.data.toList, by rw [hc, e0]; rfl, by unfold txtB; simp at hsl ⊢; omega⟩
      haveI : Inhabited (List UInt8) := ⟨[]⟩
      obtain ⟨f, hf⟩ := Deep.choose_lt one
      have hlen : ((List.range len).map f).length = len := by simp
      have hget : ∀ j, j < len → ((List.range len).map f).getD j [] = f j := fun j hj => by
        rw [List.getD_eq_getElem?_getD, List.getElem?_map, List.getElem?_range hj]; rfl
      obtain ⟨b, off, spot⟩ := a
      have hc0 := (hf 0 (by omega)).1
      have hspot : spot = none := by simpa [Addr.add] using World.cell?_spot hc0
      subst hspot
      rw [add_plain] at hc0
      refine ⟨(List.range len).map f, _, _, by rw [hlen], by omega, by omega, fun x hx => ?_, fun _ => ⟨b, off, rfl, trivial, cell_lt hc0, fun j hj => ?_⟩⟩
      · obtain ⟨j, hj, rfl⟩ := List.mem_map.1 hx
        exact (hf j (List.mem_range.1 hj)).2
      · rw [hlen] at hj
        rw [hget j hj, ← add_plain]
        exact (hf j hj).1
end Go.Proofs.Ytafmnoeljefpaaa.Js
