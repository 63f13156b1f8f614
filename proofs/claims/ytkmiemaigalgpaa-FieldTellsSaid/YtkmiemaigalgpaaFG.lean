import Derived.Test.YtkmiemaigalgpaaFF
import Derived.Test.YtkmiemaigalgpaaRl
/- What opens the arguments of FieldTells: values, items, names. -/
set_option linter.unusedVariables false
set_option linter.unusedSimpArgs false
namespace Go.Proofs.Ytkmiemaigalgpaa.Js
open Go.ChangeShapes Go.WideShapes Go.ChangeAt Go.RowKit Lex

theorem cellsJson : Try.prog.cellsOf 27 = 6 := by kernel_rfl
theorem cellsJsons : Try.prog.cellsOf 25 = 1 := by kernel_rfl
theorem cellsStrs : Try.prog.cellsOf 24 = 1 := by kernel_rfl
theorem cellsDec : Try.prog.cellsOf 23 = 2 := by kernel_rfl
theorem bytesJson : Try.prog.bytesOf 27 = 88 := by kernel_rfl
theorem trod_struct2 {H : Type} {enc : TypeId × Value → H} {P : Program} {w : World} {base : Nat} {spare : Nat → Bool} {held : Bool} {t : TypeId} {f0 f1 : Field} {fuel : Nat} {cs : List Value} {x : DataW H × List MemPlace} (ht : P.underlying t = some (.struct #[f0, f1])) (h : DataW.trod enc P w base spare held fuel t cs = some x) :
    ∃ y0 y1 n, x.1 = .agg [y0.1, y1.1] ∧ cs.length = P.cellsOf t ∧ DataW.trod enc P w base spare held n f0.type ((cs.drop f0.offset).take (P.cellsOf f0.type)) = some y0 ∧
      DataW.trod enc P w base spare held n f1.type ((cs.drop f1.offset).take (P.cellsOf f1.type)) = some y1 := by
  obtain ⟨xs, n, _, rfl, hl, hlen, hf⟩ := DataW.trod_struct ht h
  match xs, hlen with
  | [y0, y1], _ => exact ⟨y0, y1, n, by simp, hl, by simpa using hf 0 f0 rfl, by simpa using hf 1 f1 rfl⟩
theorem bulk_mapJ {H : Type} (D : Nat → DataW H) : ∀ (l : List Nat) (i : Nat), i ∈ l → Rows.uptoBulk (D i) ≤ Rows.uptoBulkAll (l.map D)
  | [], i, h => by simp at h
  | x :: l, i, h => by
    rw [List.map_cons, Rows.uptoBulkAll]
    rcases List.mem_cons.1 h with rfl | h
    · omega
    · have := bulk_mapJ D l i h; omega

set_option maxRecDepth 100000 in
theorem strs_trod {H : Type} {enc : TypeId × Value → H} {W : World} {base fuel : Nat} {c : Value} {x : DataW H × List MemPlace}
    (hf : DataW.trod enc Try.prog W base (fun _ => true) true fuel 24 [c] = some x) (hw : Wt 24 x.1) : ∃ ns, StrsAt Any W c ns := by
  rcases Deep.open_slice1 Try.underlying24 cellsStr hf with ⟨hcs, hx⟩ | ⟨a, len, m, mm, n, V, D, Pl, hcs, hb, hl, hmx, hm, hx, hel⟩
  · simp at hcs
    subst hcs
    exact ⟨[], none, 0, rfl, by simp, by simp, fun x hx => by simp at hx, fun h => by simp at h⟩
  · simp at hcs
    subst hcs
    simp only [if_true] at hm
    subst hm
    have hd : x.1 = .slice ((List.range len).map D) ((List.range (mm - len)).map fun j => D (len + j)) := congrArg Prod.fst hx
    rw [hd] at hw
    obtain ⟨hwl, hwe⟩ := wt_slice Try.underlying24 hw
    rw [bytesStr] at hwl
    simp at hwl
    by_cases hl0 : len = 0
    · subst hl0
      exact ⟨[], _, _, rfl, by simp, by simp, fun x hx => by simp at hx, fun h => by simp at h⟩
    · have one : ∀ i, i < len → ∃ t : List UInt8, W.cell? (a.add i) = some (strW t) ∧ txtB t := by
        intro i hi
        obtain ⟨hc, ht⟩ := hel i (by omega)
        obtain ⟨s, e0, hy0, hs⟩ := DataW.trod_string Try.underlying9 ht
        have hwi := hwe (D i) (List.mem_map.2 ⟨i, List.mem_range.2 hi, rfl⟩)
        have hDi : D i = .lit (.string s.data.toList) := congrArg Prod.fst hy0
        rw [hDi] at hwi
        have hsl := wt_string hwi
        simp at e0
        refine ⟨s.data.toList, by rw [hc, e0]; rfl, by unfold txtB; simp at hsl ⊢; omega⟩
      haveI : Inhabited (List UInt8) := ⟨[]⟩
      obtain ⟨f, hf⟩ := Deep.choose_lt one
      have hlen : ((List.range len).map f).length = len := by simp
      have hget : ∀ j, j < len → ((List.range len).map f).getD j [] = f j := fun j hj => by
        rw [List.getD_eq_getElem?_getD, List.getElem?_map, List.getElem?_range hj]; rfl
      obtain ⟨b, off, spot⟩ := a
      have hc0 := (hf 0 (by omega)).1
      have hspot : spot = none := by simpa [Addr.add] using World.cell?_spot hc0
      subst hspot
      rw [add_plain] at hc0
      refine ⟨(List.range len).map f, _, _, by rw [hlen], by omega, by omega, fun x hx => ?_, fun _ => ⟨b, off, rfl, trivial, cell_lt hc0, fun j hj => ?_⟩⟩
      · obtain ⟨j, hj, rfl⟩ := List.mem_map.1 hx
        exact (hf j (List.mem_range.1 hj)).2
      · rw [hlen] at hj
        rw [hget j hj, ← add_plain]
        exact (hf j hj).1
set_option maxRecDepth 100000 in
theorem open_strs_in {H : Type} {enc : TypeId × Value → H} {W : World} {base : Nat} {v : Value} {d : DataW H} {p : List MemPlace}
    (hval : Value.okWide Try.prog W .any base 24 v) (h : DataW.Trod enc Try.prog W 0 (fun _ => true) true 24 v d p) (hw : Wt 24 d) : ∃ ns, StrsAt Any W v ns := by
  obtain ⟨a0, len, cap, rfl⟩ := okWide_slice Try.underlying24 hval
  obtain ⟨fuel, hf⟩ := h
  exact strs_trod (x := (d, p)) hf hw

/-- Values one behind the other, each of which reads. -/
theorem items_trod {H : Type} {enc : TypeId × Value → H} {W : World} {base fuel N : Nat} {c : Value} {x : DataW H × List MemPlace}
    (ih : ∀ (fuel : Nat) (cs : List Value) (x : DataW H × List MemPlace), Rows.uptoBulk x.1 ≤ N → DataW.trod enc Try.prog W base (fun _ => true) true fuel 27 cs = some x → Wt 27 x.1 → ∃ j c0 c1 c2 c3 c4 c5, cs = [c0, c1, c2, c3, c4, c5] ∧ JAt Any W N (.agg #[c0, c1, c2, c3, c4, c5]) j)
    (hN : Rows.uptoBulk x.1 ≤ N) (hf : DataW.trod enc Try.prog W base (fun _ => true) true fuel 25 [c] = some x) (hw : Wt 25 x.1) :
    ∃ ai ci is, c = .slice ai (is : List J).length ci ∧ is.length ≤ ci ∧ is.length ≤ 1599289640354 ∧ ItemsAt Any W N ai is := by
  rcases Deep.open_slice Try.underlying25 hf with ⟨hcs, hx4⟩ | ⟨a, len, cap, mm, n2, D, Pl, hcs, hb, hl, hmx, hmm, hx4, hel⟩
  · simp at hcs
    subst hcs
    exact ⟨none, 0, [], rfl, by simp, by simp, fun h => by simp at h⟩
  · simp at hcs
    subst hcs
    simp only [if_true] at hmm
    subst hmm
    have hd : x.1 = .slice ((List.range len).map D) ((List.range (mm - len)).map fun j => D (len + j)) := congrArg Prod.fst hx4
    rw [hd] at hw hN
    obtain ⟨hwl, hwe⟩ := wt_slice Try.underlying25 hw
    rw [bytesJson] at hwl
    simp at hwl
    simp only [Rows.uptoBulk] at hN
    rw [cellsJson] at hel
    by_cases hl0 : len = 0
    · subst hl0
      exact ⟨some a, mm, [], rfl, by simp, by simp, fun h => by simp at h⟩
    · have one : ∀ i, i < len → ∃ j : J, ∃ u, (∀ q c, (aggC u)[q]? = some c → W.cell? (a.add (i * 6 + q)) = some c) ∧ (∃ c, W.cell? (a.add (i * 6)) = some c) ∧ JAt Any W N u j := by
        intro i hi
        obtain ⟨cs', hc, ht'⟩ := hel i (by omega)
        obtain ⟨_, hcl', hcc⟩ := World.cells?_some hc
        have hbi := bulk_mapJ D (List.range len) i (List.mem_range.2 hi)
        obtain ⟨j, d0, d1, d2, d3, d4, d5, rfl, hr⟩ := ih _ _ _ (show Rows.uptoBulk (D i, Pl i).1 ≤ N by show Rows.uptoBulk (D i) ≤ N; omega) ht' (hwe _ (List.mem_map.2 ⟨i, List.mem_range.2 hi, rfl⟩))
        refine ⟨j, _, fun q c hq => ?_, ?_, hr⟩
        · have hq5 : q < 6 := by have := (List.getElem?_eq_some_iff.1 hq).1; simpa [aggC] using this
          have h0 := hcc q (by omega)
          rw [Deep.add_add] at h0
          rw [h0]
          have : [d0, d1, d2, d3, d4, d5][q]? = some c := hq
          simpa using this
        · have h0 := hcc 0 (by omega)
          rw [Deep.add_add] at h0
          exact ⟨_, h0⟩
      haveI : Inhabited J := ⟨j0⟩
      obtain ⟨f, hf⟩ := Deep.choose_lt one
      have hlen : ((List.range len).map f).length = len := by simp
      have hget : ∀ j, j < len → ((List.range len).map f).getD j j0 = f j := fun j hj => by
        rw [List.getD_eq_getElem?_getD, List.getElem?_map, List.getElem?_range hj]; rfl
      obtain ⟨b, off, spot⟩ := a
      obtain ⟨u0, _, ⟨c, hc0⟩, _⟩ := hf 0 (by omega)
      have hspot : spot = none := by simpa [Addr.add] using World.cell?_spot hc0
      subst hspot
      rw [add_plain] at hc0
      refine ⟨_, _, (List.range len).map f, by rw [hlen], by omega, by omega, fun _ => ⟨b, off, rfl, trivial, cell_lt hc0, fun j hj => ?_⟩⟩
      rw [hlen] at hj
      rw [hget j hj]
      obtain ⟨u, hu, _, hr⟩ := hf j hj
      refine ⟨u, fun q c hq => ?_, hr⟩
      have := hu q c hq
      rw [add_plain] at this
      rw [Nat.add_assoc]
      exact this

set_option maxRecDepth 100000 in
set_option maxHeartbeats 1000000 in
theorem json_trod {H : Type} {enc : TypeId × Value → H} {W : World} {base : Nat} : ∀ (N fuel : Nat) (cs : List Value) (x : DataW H × List MemPlace), Rows.uptoBulk x.1 ≤ N → DataW.trod enc Try.prog W base (fun _ => true) true fuel 27 cs = some x → Wt 27 x.1 →
    ∃ j c0 c1 c2 c3 c4 c5, cs = [c0, c1, c2, c3, c4, c5] ∧ JAt Any W N (.agg #[c0, c1, c2, c3, c4, c5]) j := by
  intro N
  induction N with
  | zero =>
    intro fuel cs x hN h
    obtain ⟨y0, y1, y2, y3, y4, n', hx, _⟩ := trod_struct5' Try.underlying27 h
    rw [hx, Rows.uptoBulk] at hN
    omega
  | succ N ih =>
    intro fuel cs x hN h hw
    obtain ⟨y0, y1, y2, y3, y4, n', hx, hcl, t0, t1, t2, t3, t4⟩ := trod_struct5' Try.underlying27 h
    rw [cellsJson] at hcl
    simp only [cellsInt, cellsStr, cellsStrs, cellsJsons, cellsDec] at t0 t1 t2 t3 t4
    match cs, hcl with
    | [c0, c1, c2, c3, c4, c5], _ =>
      rw [hx] at hN hw
      simp only [Rows.uptoBulk, Rows.uptoBulkAll] at hN
      obtain ⟨k, e0, -, w0⟩ := DataW.trod_int Try.underlying3 t0
      obtain ⟨z0, z1, n2, hx1, -, u0, u1⟩ := trod_struct2 Try.underlying23 t1
      simp only [cellsInt] at u0 u1
      obtain ⟨m, e1, -, w1⟩ := DataW.trod_int Try.underlying3 u0
      obtain ⟨e, e2, -, w2⟩ := DataW.trod_int Try.underlying3 u1
      obtain ⟨s, e3, hy2, hs⟩ := DataW.trod_string Try.underlying9 t2
      simp at e0 e1 e2 e3 t3 t4
      subst e0 e1 e2 e3
      have hw2 := wt_part Try.underlying27 hw (j := 2) (tj := 9) rfl rfl
      rw [hy2] at hw2
      have hsl := wt_string hw2
      obtain ⟨ns, hns⟩ := strs_trod t3 (wt_part Try.underlying27 hw (j := 3) (tj := 24) rfl rfl)
      obtain ⟨ai, ci, is, rfl, q1, q2, q3⟩ := items_trod ih (by omega) t4 (wt_part Try.underlying27 hw (j := 4) (tj := 25) rfl rfl)
      exact ⟨.mk k m e s.data.toList ns is, _, _, _, _, _, _, rfl, _, _, _, rfl, i64B_of' w0, i64B_of' w1, i64B_of' w2, by unfold txtB; simp at hsl ⊢; omega, hns, q1, q2, q3⟩
set_option maxRecDepth 100000 in
/-- A value among the arguments. -/
theorem open_json_at {H : Type} {enc : TypeId × Value → H} {W : World} {base : Nat} {v : Value} {d : DataW H} {p : List MemPlace}
    (hval : Value.okWide Try.prog W .any base 27 v) (h : DataW.Trod enc Try.prog W 0 (fun _ => true) true 27 v d p) (hw : Wt 27 d) : ∃ n j, JAt Any W n v j := by
  obtain ⟨cs, rfl, hsz⟩ := okWide_struct Try.underlying27 hval
  obtain ⟨fuel, hf⟩ := h
  obtain ⟨j, c0, c1, c2, c3, c4, c5, hcs, hr⟩ := json_trod _ fuel _ _ (Nat.le_refl _) hf hw
  simp only [Value.cells] at hcs
  obtain rfl : cs = #[c0, c1, c2, c3, c4, c5] := Array.ext' hcs
  exact ⟨_, j, hr⟩
set_option maxRecDepth 100000 in
/-- Items among the arguments. -/
theorem open_items_at {H : Type} {enc : TypeId × Value → H} {W : World} {base : Nat} {v : Value} {d : DataW H} {p : List MemPlace}
    (hval : Value.okWide Try.prog W .any base 25 v) (h : DataW.Trod enc Try.prog W 0 (fun _ => true) true 25 v d p) (hw : Wt 25 d) :
    ∃ n ai ci is, v = .slice ai (is : List J).length ci ∧ is.length ≤ ci ∧ is.length ≤ 1599289640354 ∧ ItemsAt Any W n ai is := by
  obtain ⟨a0, len, cap, rfl⟩ := okWide_slice Try.underlying25 hval
  obtain ⟨fuel, hf⟩ := h
  exact ⟨_, items_trod (json_trod _) (Nat.le_refl _) (x := (d, p)) hf hw⟩
end Go.Proofs.Ytkmiemaigalgpaa.Js
