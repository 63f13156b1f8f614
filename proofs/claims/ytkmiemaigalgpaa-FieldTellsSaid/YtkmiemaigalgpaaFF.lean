import Derived.Test.YtkmiemaigalgpaaFn
import Derived.Test.YtkmiemaigalgpaaRows
import Derived.OpenShut
import Derived.JoinedCond
import Derived.JoinedOf
import Derived.SizedLaws
import Derived.Carry
import Derived.ChangeSlices
import Derived.ChangeSame
import Derived.Deep.DeepHandedRow
import Derived.Deep.Slices
import Derived.Lib.SmallJoins
/- What opens the arguments of stage 5's laws: fields, names. -/
set_option linter.unusedVariables false
set_option linter.unusedSimpArgs false
namespace Go.Proofs.Ytkmiemaigalgpaa.Js
open Go.ChangeShapes Go.WideShapes Go.ChangeAt Go.RowKit Lex

theorem own : ownKnob Try.prog.godebug = none := by kernel_rfl
theorem laidOut : laidOutB Try.prog = true := by kernel_rfl
theorem cellsInt : Try.prog.cellsOf 3 = 1 := by kernel_rfl
theorem cellsBool : Try.prog.cellsOf 4 = 1 := by kernel_rfl
theorem cellsStr : Try.prog.cellsOf 9 = 1 := by kernel_rfl
theorem cellsField : Try.prog.cellsOf 50 = 5 := by kernel_rfl
theorem bytesField : Try.prog.bytesOf 50 = 48 := by kernel_rfl
theorem bytesStr : Try.prog.bytesOf 9 = 16 := by kernel_rfl
theorem reach_eq : reachBytes = 140737488351232 := by decide +kernel
theorem cell_lt {w : World} {b o : Nat} {v : Value} (h : w.cell? ⟨b, o, none⟩ = some v) : b < w.heap.size := by
  rcases Nat.lt_or_ge b w.heap.size with h' | h'
  · exact h'
  · simp [World.cell?, Array.getElem?_eq_none h'] at h
theorem add_plain (b off j : Nat) : (⟨b, off, none⟩ : Addr).add j = ⟨b, off + j, none⟩ := by
  simp only [Addr.add]; split <;> simp_all
theorem i64B_of' {n : Int} (h : (Lit.int .i64 n).wf = true) : i64B n := bounds_i64 h

/-- All slices and strings within a reading are within reach. -/
def Wt {H : Type} (t : TypeId) (d : DataW H) : Prop := ∀ n ∈ d.weights Try.prog t, n ≤ 140737488351232
theorem wt_of {H : Type} {ts : List TypeId} {ds : List (DataW H)} (h : (DataW.weightsEach Try.prog ts ds).all (· ≤ reachBytes) = true) {j : Nat} {t : TypeId} {d : DataW H} (ht : ts[j]? = some t) (hd : ds[j]? = some d) : Wt t d := fun n hn => by
  have := List.all_eq_true.1 h n (DataW.weights_mem_each ht hd n hn)
  rw [← reach_eq]
  simpa using this
theorem weights_all_mem {H : Type} {P : Program} {e : TypeId} : ∀ {l : List (DataW H)} {d : DataW H}, d ∈ l → ∀ n ∈ d.weights P e, n ∈ DataW.weightsAll P e l
  | [], d, h, _, _ => by simp at h
  | x :: r, d, h, n, hn => by
    rw [DataW.weightsAll]
    rcases List.mem_cons.1 h with rfl | h
    · exact List.mem_append_left _ hn
    · exact List.mem_append_right _ (weights_all_mem h n hn)
theorem wt_slice {H : Type} {t e : TypeId} {elems spare : List (DataW H)} (hu : Try.prog.underlying t = some (.slice e)) (h : Wt t (.slice elems spare)) : elems.length * Try.prog.bytesOf e ≤ 140737488351232 ∧ ∀ d ∈ elems, Wt e d := by
  unfold Wt at h
  rw [DataW.weights, hu] at h
  refine ⟨?_, fun d hd n hn => h n (List.mem_cons_of_mem _ (List.mem_append_left _ (weights_all_mem hd n hn)))⟩
  have := h _ (List.mem_cons_self ..)
  have h2 : elems.length * Try.prog.bytesOf e ≤ (elems.length + spare.length) * Try.prog.bytesOf e := Nat.mul_le_mul_right _ (Nat.le_add_right _ _)
  omega
theorem wt_part {H : Type} {t : TypeId} {fs : Array Field} {parts : List (DataW H)} (hu : Try.prog.underlying t = some (.struct fs)) (h : Wt t (.agg parts)) {j : Nat} {tj : TypeId} {d : DataW H} (ht : (fs.toList.map (·.type))[j]? = some tj) (hd : parts[j]? = some d) : Wt tj d := fun n hn => by
  unfold Wt at h
  rw [DataW.weights, hu] at h
  exact h n (DataW.weights_mem_each ht hd n hn)
theorem wt_string {H : Type} {t : TypeId} {bytes : List UInt8} (h : Wt (H := H) t (.lit (.string bytes))) : bytes.length ≤ 140737488351232 := by
  unfold Wt at h
  rw [DataW.weights] at h
  exact h _ (List.mem_cons_self ..)

theorem trod_struct5' {H : Type} {enc : TypeId × Value → H} {P : Program} {w : World} {base : Nat} {spare : Nat → Bool} {held : Bool} {t : TypeId} {f0 f1 f2 f3 f4 : Field} {fuel : Nat} {cs : List Value} {x : DataW H × List MemPlace} (ht : P.underlying t = some (.struct #[f0, f1, f2, f3, f4])) (h : DataW.trod enc P w base spare held fuel t cs = some x) :
    ∃ y0 y1 y2 y3 y4 n, x.1 = .agg [y0.1, y1.1, y2.1, y3.1, y4.1] ∧ cs.length = P.cellsOf t ∧ DataW.trod enc P w base spare held n f0.type ((cs.drop f0.offset).take (P.cellsOf f0.type)) = some y0 ∧
      DataW.trod enc P w base spare held n f1.type ((cs.drop f1.offset).take (P.cellsOf f1.type)) = some y1 ∧ DataW.trod enc P w base spare held n f2.type ((cs.drop f2.offset).take (P.cellsOf f2.type)) = some y2 ∧
      DataW.trod enc P w base spare held n f3.type ((cs.drop f3.offset).take (P.cellsOf f3.type)) = some y3 ∧ DataW.trod enc P w base spare held n f4.type ((cs.drop f4.offset).take (P.cellsOf f4.type)) = some y4 := by
  obtain ⟨xs, n, _, rfl, hl, hlen, hf⟩ := DataW.trod_struct ht h
  match xs, hlen with
  | [y0, y1, y2, y3, y4], _ => exact ⟨y0, y1, y2, y3, y4, n, by simp, hl, by simpa using hf 0 f0 rfl, by simpa using hf 1 f1 rfl, by simpa using hf 2 f2 rfl, by simpa using hf 3 f3 rfl, by simpa using hf 4 f4 rfl⟩

set_option maxRecDepth 100000 in
/-- A field's cells. -/
theorem field_trod {H : Type} {enc : TypeId × Value → H} {W : World} {base fuel : Nat} {cs : List Value} {x : DataW H × List MemPlace} (h : DataW.trod enc Try.prog W base (fun _ => true) true fuel 50 cs = some x) (hw : Wt 50 x.1) : ∃ f : Fd, cs = fdL f ∧ f.good := by
  obtain ⟨y0, y1, y2, y3, y4, n', hx, hcl, t0, t1, t2, t3, t4⟩ := trod_struct5' Try.underlying50 h
  rw [cellsField] at hcl
  simp only [cellsInt, cellsBool, cellsStr] at t0 t1 t2 t3 t4
  match cs, hcl with
  | [c0, c1, c2, c3, c4], _ =>
    obtain ⟨s, e0, hy0, hs⟩ := DataW.trod_string Try.underlying9 t0
    obtain ⟨k, e1, -, w1⟩ := DataW.trod_int Try.underlying3 t1
    obtain ⟨lo, e2, -, w2⟩ := DataW.trod_int Try.underlying3 t2
    obtain ⟨hi, e3, -, w3⟩ := DataW.trod_int Try.underlying3 t3
    obtain ⟨fr, e4, -⟩ := DataW.trod_bool Try.underlying4 t4
    simp at e0 e1 e2 e3 e4
    subst e0 e1 e2 e3 e4
    rw [hx] at hw
    have hw0 := wt_part Try.underlying50 hw (j := 0) (tj := 9) rfl rfl
    rw [hy0] at hw0
    have hsl := wt_string hw0
    exact ⟨⟨s.data.toList, k, lo, hi, fr⟩, rfl, by unfold txtB; simp at hsl ⊢; omega, i64B_of' w1, i64B_of' w2, i64B_of' w3⟩
set_option maxRecDepth 100000 in
/-- A slice of fields reads as a list. -/
theorem open_fds_at {H : Type} {enc : TypeId × Value → H} {W : World} {base : Nat} {v : Value} {d : DataW H} {p : List MemPlace}
    (hval : Value.okWide Try.prog W .any base 28 v) (h : DataW.Trod enc Try.prog W 0 (fun _ => true) true 28 v d p) (hw : Wt 28 d) : ∃ fs, FdsAt W v fs := by
  obtain ⟨a0, len, cap, rfl⟩ := okWide_slice Try.underlying28 hval
  obtain ⟨fuel, hf⟩ := h
  rcases Deep.open_slice Try.underlying28 hf with ⟨hcs, hx⟩ | ⟨a, len', cap', m, n, D, Pl, hcs, hb, hl, hmx, hm, hx, hel⟩
  · simp [Value.cells] at hcs
    obtain ⟨rfl, rfl, rfl⟩ := hcs
    exact ⟨[], none, 0, rfl, by simp, by simp, fun f hf => by simp at hf, fun h => by simp at h⟩
  · simp [Value.cells] at hcs
    obtain ⟨rfl, rfl, rfl⟩ := hcs
    simp only [if_true] at hm
    subst hm
    have hd : d = .slice ((List.range len).map D) ((List.range (m - len)).map fun j => D (len + j)) := congrArg Prod.fst hx
    rw [hd] at hw
    obtain ⟨hwl, hwe⟩ := wt_slice Try.underlying28 hw
    rw [bytesField] at hwl
    simp at hwl
    by_cases hl0 : len = 0
    · subst hl0
      exact ⟨[], _, _, rfl, by simp, by simp, fun f hf => by simp at hf, fun h => by simp at h⟩
    · rw [cellsField] at hel
      have one : ∀ i, i < len → ∃ f : Fd, (∀ q c, (fdL f)[q]? = some c → W.cell? (a.add (i * 5 + q)) = some c) ∧ f.good := by
        intro i hi
        obtain ⟨cs, hc, ht⟩ := hel i (by omega)
        obtain ⟨_, hcl, hcc⟩ := World.cells?_some hc
        obtain ⟨f, rfl, hg⟩ := field_trod ht (hwe _ (List.mem_map.2 ⟨i, List.mem_range.2 hi, rfl⟩))
        refine ⟨f, fun q c hq => ?_, hg⟩
        have hq5 : q < 5 := by have := (List.getElem?_eq_some_iff.1 hq).1; simpa [fdL] using this
        have h0 := hcc q (by omega)
        rw [Deep.add_add] at h0
        rw [h0]
        exact hq
      haveI : Inhabited Fd := ⟨fd0⟩
      obtain ⟨f, hf⟩ := Deep.choose_lt one
      obtain ⟨b, off, spot⟩ := a
      have hspot : spot = none := by
        have := (hf 0 (by omega)).1 0 _ rfl
        simpa [Addr.add] using World.cell?_spot this
      subst hspot
      have hlen : ((List.range len).map f).length = len := by simp
      have hget : ∀ j, j < len → ((List.range len).map f).getD j fd0 = f j := fun j hj => by
        rw [List.getD_eq_getElem?_getD, List.getElem?_map, List.getElem?_range hj]; rfl
      have hc0 := (hf 0 (by omega)).1 0 _ rfl
      rw [add_plain] at hc0
      refine ⟨(List.range len).map f, _, _, by rw [hlen], by omega, by omega, fun x hx => ?_, fun _ => ⟨b, off, rfl, cell_lt hc0, fun j hj q c hq => ?_⟩⟩
      · obtain ⟨j, hj, rfl⟩ := List.mem_map.1 hx
        exact (hf j (List.mem_range.1 hj)).2
      · rw [hlen] at hj
        rw [hget j hj] at hq
        have := (hf j hj).1 q c (by simpa [aggC, fdV, fdL] using hq)
        rw [add_plain] at this
        rw [Nat.add_assoc]
        exact this
end Go.Proofs.Ytkmiemaigalgpaa.Js
