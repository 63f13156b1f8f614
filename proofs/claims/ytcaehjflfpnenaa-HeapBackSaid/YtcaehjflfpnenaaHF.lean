import Derived.Test.YtcaehjflfpnenaaHk
import Derived.Test.YtcaehjflfpnenaaRows
import Derived.OpenShut
import Derived.JoinedCond
import Derived.JoinedOf
import Derived.SizedLaws
import Derived.Carry
import Derived.ChangeSlices
import Derived.Deep.Slices
import Derived.Deep.Grids
import Derived.ChangeSame
import Derived.Deep.DeepHandedRow
import Derived.Lib.SmallJoins
/- What opens the arguments of stage 10's laws: slices of pairs, of bools, numbers. -/
set_option linter.unusedVariables false
set_option linter.unusedSimpArgs false
namespace Go.Proofs.Ytcaehjflfpnenaa
open Go.ChangeShapes Go.WideShapes Go.ChangeAt Go.RowKit Hp

theorem own : ownKnob Try.prog.godebug = none := by kernel_rfl
theorem laidOut : laidOutB Try.prog = true := by kernel_rfl
theorem reach_eq : reachBytes = 140737488351232 := by decide +kernel
/-- All slices and strings within a reading are within reach. -/
def Wt {H : Type} (t : TypeId) (d : DataW H) : Prop := ∀ n ∈ d.weights Try.prog t, n ≤ 140737488351232
theorem wt_of {H : Type} {ts : List TypeId} {ds : List (DataW H)} (h : (DataW.weightsEach Try.prog ts ds).all (· ≤ reachBytes) = true) {j : Nat} {t : TypeId} {d : DataW H} (ht : ts[j]? = some t) (hd : ds[j]? = some d) : Wt t d := fun n hn => by
  have := List.all_eq_true.1 h n (DataW.weights_mem_each ht hd n hn)
  rw [← reach_eq]
  simpa using this
theorem weights_all_mem {H : Type} {P : Program} {e : TypeId} : ∀ {l : List (DataW H)} {d : DataW H}, d ∈ l → ∀ n ∈ d.weights P e, n ∈ DataW.weightsAll P e l
  | [], d, h, _, _ => by simp at h
  | x :: r, d, h, n, hn => by
    rw [DataW.weightsAll]
    rcases List.mem_cons.1 h with rfl | h
    · exact List.mem_append_left _ hn
    · exact List.mem_append_right _ (weights_all_mem h n hn)
theorem wt_slice {H : Type} {t e : TypeId} {elems spare : List (DataW H)} (hu : Try.prog.underlying t = some (.slice e)) (h : Wt t (.slice elems spare)) : elems.length * Try.prog.bytesOf e ≤ 140737488351232 ∧ ∀ d ∈ elems, Wt e d := by
  unfold Wt at h
  rw [DataW.weights, hu] at h
  refine ⟨?_, fun d hd n hn => h n (List.mem_cons_of_mem _ (List.mem_append_left _ (weights_all_mem hd n hn)))⟩
  have := h _ (List.mem_cons_self ..)
  have h2 : elems.length * Try.prog.bytesOf e ≤ (elems.length + spare.length) * Try.prog.bytesOf e := Nat.mul_le_mul_right _ (Nat.le_add_right _ _)
  omega
theorem wt_part {H : Type} {t : TypeId} {fs : Array Field} {parts : List (DataW H)} (hu : Try.prog.underlying t = some (.struct fs)) (h : Wt t (.agg parts)) {j : Nat} {tj : TypeId} {d : DataW H} (ht : (fs.toList.map (·.type))[j]? = some tj) (hd : parts[j]? = some d) : Wt tj d := fun n hn => by
  unfold Wt at h
  rw [DataW.weights, hu] at h
  exact h n (DataW.weights_mem_each ht hd n hn)
theorem wt_string {H : Type} {t : TypeId} {bytes : List UInt8} (h : Wt (H := H) t (.lit (.string bytes))) : bytes.length ≤ 140737488351232 := by
  unfold Wt at h
  rw [DataW.weights] at h
  exact h _ (List.mem_cons_self ..)

theorem cellsPair : Try.prog.cellsOf 32 = 2 := by kernel_rfl
theorem cellsInt : Try.prog.cellsOf 3 = 1 := by kernel_rfl
theorem bytesPair : Try.prog.bytesOf 32 = 16 := by kernel_rfl
theorem add_plain (b o j : Nat) : (⟨b, o, none⟩ : Addr).add j = ⟨b, o + j, none⟩ := by unfold Addr.add; split <;> simp_all
theorem cell_lt {W : World} {b o : Nat} {v : Value} (h : W.cell? ⟨b, o, none⟩ = some v) : b < W.heap.size := World.block_lt_of_cell? W ⟨b, o, none⟩ h
theorem list2 {α : Type} {l : List α} (h : l.length = 2) : ∃ a b, l = [a, b] := by
  match l, h with
  | [a, b], _ => exact ⟨a, b, rfl⟩
set_option maxRecDepth 100000 in
/-- A slice of pairs among the arguments reads as a list. -/
theorem open_pairs_at {H : Type} {enc : TypeId × Value → H} {W : World} {base : Nat} {v : Value} {d : DataW H} {p : List MemPlace}
    (hval : Value.okWide Try.prog W .any base 22 v) (h : DataW.Trod enc Try.prog W 0 (fun _ => true) true 22 v d p) (hw : Wt 22 d) : ∃ l, PairsAt W v l ∧ ∀ x ∈ l, (-9223372036854775808 ≤ x.1 ∧ x.1 ≤ 9223372036854775807) ∧ (-9223372036854775808 ≤ x.2 ∧ x.2 ≤ 9223372036854775807) := by
  obtain ⟨a0, len, cap, rfl⟩ := okWide_slice Try.underlying22 hval
  obtain ⟨fuel, hf⟩ := h
  rcases Deep.open_slice Try.underlying22 hf with ⟨hcs, hx⟩ | ⟨a, len', cap', m, n, D, Pl, hcs, hb, hl, hmx, hm, hx, hel⟩
  · simp [Value.cells] at hcs
    obtain ⟨rfl, rfl, rfl⟩ := hcs
    exact ⟨[], ⟨none, 0, rfl, by simp, fun h => by simp at h⟩, fun x h => by simp at h⟩
  · simp [Value.cells] at hcs
    obtain ⟨rfl, rfl, rfl⟩ := hcs
    simp only [if_true] at hm
    subst hm
    have hd : d = .slice ((List.range len).map D) ((List.range (m - len)).map fun j => D (len + j)) := congrArg Prod.fst hx
    rw [hd] at hw
    obtain ⟨hwl, hwe⟩ := wt_slice Try.underlying22 hw
    rw [bytesPair] at hwl
    simp at hwl
    by_cases hl0 : len = 0
    · subst hl0
      exact ⟨[], ⟨_, _, rfl, by simp, fun h => by simp at h⟩, fun x h => by simp at h⟩
    · rw [cellsPair] at hel
      have one : ∀ i, i < len → ∃ x : Pr, (W.cell? (a.add (i * 2)) = some (.int .i64 x.1) ∧ W.cell? (a.add (i * 2 + 1)) = some (.int .i64 x.2)) ∧ (-9223372036854775808 ≤ x.1 ∧ x.1 ≤ 9223372036854775807) ∧ (-9223372036854775808 ≤ x.2 ∧ x.2 ≤ 9223372036854775807) := by
        intro i hi
        obtain ⟨cs, hc, ht⟩ := hel i (by omega)
        obtain ⟨_, hcl, hcc⟩ := World.cells?_some hc
        obtain ⟨c0, c1, rfl⟩ := list2 hcl
        obtain ⟨xs, m', _, hx', _, hl', hi'⟩ := DataW.trod_array Try.underlying32 ht
        have h0 := hi' 0 (by decide)
        have h1 := hi' 1 (by decide)
        rw [cellsInt] at h0 h1
        obtain ⟨y0, y1, rfl⟩ := list2 hl'
        have h0' : DataW.trod enc Try.prog W 0 (fun _ => true) true m' 3 [c0] = some y0 := h0
        have h1' : DataW.trod enc Try.prog W 0 (fun _ => true) true m' 3 [c1] = some y1 := h1
        obtain ⟨x, e0, -, wx⟩ := DataW.trod_int Try.underlying3 h0'
        obtain ⟨y, e1, -, wy⟩ := DataW.trod_int Try.underlying3 h1'
        cases e0
        cases e1
        have k0 := hcc 0 (by omega)
        have k1 := hcc 1 (by omega)
        rw [Deep.add_add] at k0 k1
        exact ⟨(x, y), ⟨k0, k1⟩, bounds_i64 wx, bounds_i64 wy⟩
      obtain ⟨f, hf⟩ := Deep.choose_lt one
      obtain ⟨b, off, spot⟩ := a
      have hspot : spot = none := by
        have := (hf 0 (by omega)).1.1
        simpa [Addr.add] using World.cell?_spot this
      subst hspot
      have hlen : ((List.range len).map f).length = len := by simp
      have hget : ∀ j, j < len → at' ((List.range len).map f) j = f j := fun j hj => by
        unfold at'
        rw [List.getD_eq_getElem?_getD, List.getElem?_map, List.getElem?_range hj]; rfl
      have hc0 := (hf 0 (by omega)).1.1
      rw [add_plain] at hc0
      refine ⟨(List.range len).map f, ⟨_, _, by rw [hlen], by rw [hlen]; omega, fun _ => ⟨b, off, rfl, cell_lt hc0, fun j hj => ?_⟩⟩, fun x hx => ?_⟩
      · rw [hlen] at hj
        have := (hf j hj).1
        rw [add_plain, add_plain] at this
        rw [hget j hj, Nat.add_assoc]
        exact this
      · obtain ⟨j, hj, rfl⟩ := List.mem_map.1 hx
        exact (hf j (List.mem_range.1 hj)).2
theorem cellsBool : Try.prog.cellsOf 4 = 1 := by kernel_rfl
end Go.Proofs.Ytcaehjflfpnenaa
