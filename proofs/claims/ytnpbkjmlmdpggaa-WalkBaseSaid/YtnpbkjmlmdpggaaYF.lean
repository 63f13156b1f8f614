import Derived.Test.YtnpbkjmlmdpggaaYl
import Derived.Test.YtnpbkjmlmdpggaaRows
import Derived.OpenShut
import Derived.JoinedCond
import Derived.JoinedOf
import Derived.SizedLaws
import Derived.Carry
import Derived.ChangeSlices
import Derived.Deep.Slices
import Derived.Deep.Strs
import Derived.ChangeSame
import Derived.Deep.DeepHandedRow
import Derived.Lib.SmallJoins
/- What opens the arguments of stage 11's laws: slices of three numbers, of numbers, layouts. -/
set_option linter.unusedVariables false
set_option linter.unusedSimpArgs false
namespace Go.Proofs.Ytnpbkjmlmdpggaa
open Go.ChangeShapes Go.WideShapes Go.ChangeAt Go.RowKit Ly

theorem own : ownKnob Try.prog.godebug = none := by kernel_rfl
theorem laidOut : laidOutB Try.prog = true := by kernel_rfl
theorem reach_eq : reachBytes = 140737488351232 := by decide +kernel
/-- All slices and strings within a reading are within reach. -/
def Wt {H : Type} (t : TypeId) (d : DataW H) : Prop := ∀ n ∈ d.weights Try.prog t, n ≤ 140737488351232
theorem wt_of {H : Type} {ts : List TypeId} {ds : List (DataW H)} (h : (DataW.weightsEach Try.prog ts ds).all (· ≤ reachBytes) = true) {j : Nat} {t : TypeId} {d : DataW H} (ht : ts[j]? = some t) (hd : ds[j]? = some d) : Wt t d := fun n hn => by
  have := List.all_eq_true.1 h n (DataW.weights_mem_each ht hd n hn)
  rw [← reach_eq]
  simpa using this
theorem weights_all_mem {H : Type} {P : Program} {e : TypeId} : ∀ {l : List (DataW H)} {d : DataW H}, d ∈ l → ∀ n ∈ d.weights P e, n ∈ DataW.weightsAll P e l
  | [], d, h, _, _ => by simp at h
  | x :: r, d, h, n, hn => by
    rw [DataW.weightsAll]
    rcases List.mem_cons.1 h with rfl | h
    · exact List.mem_append_left _ hn
    · exact List.mem_append_right _ (weights_all_mem h n hn)
theorem wt_slice {H : Type} {t e : TypeId} {elems spare : List (DataW H)} (hu : Try.prog.underlying t = some (.slice e)) (h : Wt t (.slice elems spare)) : elems.length * Try.prog.bytesOf e ≤ 140737488351232 ∧ ∀ d ∈ elems, Wt e d := by
  unfold Wt at h
  rw [DataW.weights, hu] at h
  refine ⟨?_, fun d hd n hn => h n (List.mem_cons_of_mem _ (List.mem_append_left _ (weights_all_mem hd n hn)))⟩
  have := h _ (List.mem_cons_self ..)
  have h2 : elems.length * Try.prog.bytesOf e ≤ (elems.length + spare.length) * Try.prog.bytesOf e := Nat.mul_le_mul_right _ (Nat.le_add_right _ _)
  omega
theorem wt_part {H : Type} {t : TypeId} {fs : Array Field} {parts : List (DataW H)} (hu : Try.prog.underlying t = some (.struct fs)) (h : Wt t (.agg parts)) {j : Nat} {tj : TypeId} {d : DataW H} (ht : (fs.toList.map (·.type))[j]? = some tj) (hd : parts[j]? = some d) : Wt tj d := fun n hn => by
  unfold Wt at h
  rw [DataW.weights, hu] at h
  exact h n (DataW.weights_mem_each ht hd n hn)
theorem wt_string {H : Type} {t : TypeId} {bytes : List UInt8} (h : Wt (H := H) t (.lit (.string bytes))) : bytes.length ≤ 140737488351232 := by
  unfold Wt at h
  rw [DataW.weights] at h
  exact h _ (List.mem_cons_self ..)

theorem cellsRaw : Try.prog.cellsOf 61 = 3 := by kernel_rfl
theorem cellsEdge : Try.prog.cellsOf 54 = 3 := by kernel_rfl
theorem cellsInt : Try.prog.cellsOf 3 = 1 := by kernel_rfl
theorem cellsEdges : Try.prog.cellsOf 30 = 1 := by kernel_rfl
theorem cellsLayout : Try.prog.cellsOf 32 = 2 := by kernel_rfl
theorem bytesRaw : Try.prog.bytesOf 61 = 24 := by kernel_rfl
theorem bytesEdge : Try.prog.bytesOf 54 = 24 := by kernel_rfl
theorem bytesInt : Try.prog.bytesOf 3 = 8 := by kernel_rfl
theorem add_plain (b o j : Nat) : (⟨b, o, none⟩ : Addr).add j = ⟨b, o + j, none⟩ := by unfold Addr.add; split <;> simp_all
theorem cell_lt {W : World} {b o : Nat} {v : Value} (h : W.cell? ⟨b, o, none⟩ = some v) : b < W.heap.size := World.block_lt_of_cell? W ⟨b, o, none⟩ h
theorem list3 {α : Type} {l : List α} (h : l.length = 3) : ∃ a b c, l = [a, b, c] := by
  match l, h with
  | [a, b, c], _ => exact ⟨a, b, c, rfl⟩
def RawsAt (w : World) (v : Value) (l : List Ed) : Prop := EdgesAt w v l ∧ RawB l
def IntsB (w : World) (v : Value) (l : List Int) : Prop := IntsAt w v l ∧ l.length * 8 ≤ 140737488351232
def LayAt (w : World) (v : Value) (z : Int × List Ed) : Prop := ∃ s, v = .agg #[.int .i64 z.1, s] ∧ EdgesAt w s z.2 ∧ i64B z.1
/-- A row of three cells each. -/
theorem three_at {W : World} {a : Addr} {len cap : Nat} (hl : len * 24 ≤ 140737488351232)
    (one : ∀ i, i < len → ∃ x : Ed, (W.cell? (a.add (i * 3)) = some (.int .i64 x.1) ∧ W.cell? (a.add (i * 3 + 1)) = some (.int .i64 x.2.1) ∧ W.cell? (a.add (i * 3 + 2)) = some (.int .i64 x.2.2)) ∧ i64B x.1 ∧ i64B x.2.1 ∧ i64B x.2.2) :
    ∃ l, RawsAt W (.slice (some a) len cap) l := by
  by_cases hl0 : len = 0
  · subst hl0
    exact ⟨[], ⟨_, _, rfl, by simp, fun h => by simp at h⟩, fun i h => by simp at h⟩
  · obtain ⟨f, hf⟩ := Deep.choose_lt one
    obtain ⟨b, off, spot⟩ := a
    have hspot : spot = none := by
      have := (hf 0 (by omega)).1.1
      simpa [Addr.add] using World.cell?_spot this
    subst hspot
    have hlen : ((List.range len).map f).length = len := by simp
    have hget : ∀ j, j < len → ate ((List.range len).map f) j = f j := fun j hj => by
      unfold ate
      rw [List.getD_eq_getElem?_getD, List.getElem?_map, List.getElem?_range hj]; rfl
    have hc0 := (hf 0 (by omega)).1.1
    rw [add_plain] at hc0
    refine ⟨(List.range len).map f, ⟨_, _, by rw [hlen], by rw [hlen]; omega, fun _ => ⟨b, off, rfl, cell_lt hc0, fun j hj => ?_⟩⟩, fun i hi => ?_⟩
    · rw [hlen] at hj
      have := (hf j hj).1
      rw [add_plain, add_plain, add_plain] at this
      rw [hget j hj, Nat.add_assoc, Nat.add_assoc]
      exact this
    · rw [hlen] at hi
      rw [hget i hi]
      exact (hf i hi).2
set_option maxRecDepth 100000 in
/-- A slice of threes among the arguments. -/
theorem open_raws_at {H : Type} {enc : TypeId × Value → H} {W : World} {base : Nat} {v : Value} {d : DataW H} {p : List MemPlace}
    (hval : Value.okWide Try.prog W .any base 26 v) (h : DataW.Trod enc Try.prog W 0 (fun _ => true) true 26 v d p) (hw : Wt 26 d) : ∃ l, RawsAt W v l := by
  obtain ⟨a0, len, cap, rfl⟩ := okWide_slice Try.underlying26 hval
  obtain ⟨fuel, hf⟩ := h
  rcases Deep.open_slice Try.underlying26 hf with ⟨hcs, hx⟩ | ⟨a, len', cap', m, n, D, Pl, hcs, hb, hl, hmx, hm, hx, hel⟩
  · simp [Value.cells] at hcs
    obtain ⟨rfl, rfl, rfl⟩ := hcs
    exact ⟨[], ⟨none, 0, rfl, by simp, fun h => by simp at h⟩, fun i h => by simp at h⟩
  · simp [Value.cells] at hcs
    obtain ⟨rfl, rfl, rfl⟩ := hcs
    simp only [if_true] at hm
    subst hm
    have hd : d = .slice ((List.range len).map D) ((List.range (m - len)).map fun j => D (len + j)) := congrArg Prod.fst hx
    rw [hd] at hw
    obtain ⟨hwl, hwe⟩ := wt_slice Try.underlying26 hw
    rw [bytesRaw] at hwl
    simp at hwl
    rw [cellsRaw] at hel
    refine three_at hwl fun i hi => ?_
    obtain ⟨cs, hc, ht⟩ := hel i (by omega)
    obtain ⟨_, hcl, hcc⟩ := World.cells?_some hc
    obtain ⟨c0, c1, c2, rfl⟩ := list3 hcl
    obtain ⟨xs, m', _, hx', _, hl', hi'⟩ := DataW.trod_array Try.underlying61 ht
    have h0 := hi' 0 (by decide)
    have h1 := hi' 1 (by decide)
    have h2 := hi' 2 (by decide)
    rw [cellsInt] at h0 h1 h2
    obtain ⟨y0, y1, y2, rfl⟩ := list3 hl'
    have h0' : DataW.trod enc Try.prog W 0 (fun _ => true) true m' 3 [c0] = some y0 := h0
    have h1' : DataW.trod enc Try.prog W 0 (fun _ => true) true m' 3 [c1] = some y1 := h1
    have h2' : DataW.trod enc Try.prog W 0 (fun _ => true) true m' 3 [c2] = some y2 := h2
    obtain ⟨x, e0, -, wx⟩ := DataW.trod_int Try.underlying3 h0'
    obtain ⟨y, e1, -, wy⟩ := DataW.trod_int Try.underlying3 h1'
    obtain ⟨z, e2, -, wz⟩ := DataW.trod_int Try.underlying3 h2'
    cases e0
    cases e1
    cases e2
    have k0 := hcc 0 (by omega)
    have k1 := hcc 1 (by omega)
    have k2 := hcc 2 (by omega)
    rw [Deep.add_add] at k0 k1 k2
    exact ⟨(x, y, z), ⟨k0, k1, k2⟩, bounds_i64 wx, bounds_i64 wy, bounds_i64 wz⟩
set_option maxRecDepth 100000 in
/-- A slice of edges that is read. -/
theorem edges_trod {H : Type} {enc : TypeId × Value → H} {W : World} {fuel : Nat} {v : Value} {x : DataW H × List MemPlace}
    (hf : DataW.trod enc Try.prog W 0 (fun _ => true) true fuel 30 [v] = some x) (hw : Wt 30 x.1) : ∃ l, EdgesAt W v l := by
  rcases Deep.open_slice Try.underlying30 hf with ⟨hcs, hx⟩ | ⟨a, len, cap, m, n, D, Pl, hcs, hb, hl, hmx, hm, hx, hel⟩
  · simp at hcs
    subst hcs
    exact ⟨[], ⟨none, 0, rfl, by simp, fun h => by simp at h⟩⟩
  · simp only [if_true] at hm
    subst hm
    have hd : x.1 = .slice ((List.range len).map D) ((List.range (m - len)).map fun j => D (len + j)) := by rw [hx]
    rw [hd] at hw
    obtain ⟨hwl, hwe⟩ := wt_slice Try.underlying30 hw
    rw [bytesEdge] at hwl
    simp at hwl
    rw [cellsEdge] at hel
    have key : ∃ l, RawsAt W v l := by
      simp at hcs
      subst hcs
      refine three_at hwl fun i hi => ?_
      obtain ⟨cs, hc, ht⟩ := hel i (by omega)
      obtain ⟨_, hcl, hcc⟩ := World.cells?_some hc
      obtain ⟨c0, c1, c2, rfl⟩ := list3 hcl
      obtain ⟨y0, y1, y2, n', _, _, t0, t1, t2⟩ := Deep.trod_struct3 Try.underlying54 ht
      simp only [cellsInt] at t0 t1 t2
      have h0' : DataW.trod enc Try.prog W 0 (fun _ => true) true n' 3 [c0] = some y0 := t0
      have h1' : DataW.trod enc Try.prog W 0 (fun _ => true) true n' 3 [c1] = some y1 := t1
      have h2' : DataW.trod enc Try.prog W 0 (fun _ => true) true n' 3 [c2] = some y2 := t2
      obtain ⟨x, e0, -, wx⟩ := DataW.trod_int Try.underlying3 h0'
      obtain ⟨y, e1, -, wy⟩ := DataW.trod_int Try.underlying3 h1'
      obtain ⟨z, e2, -, wz⟩ := DataW.trod_int Try.underlying3 h2'
      cases e0
      cases e1
      cases e2
      have k0 := hcc 0 (by omega)
      have k1 := hcc 1 (by omega)
      have k2 := hcc 2 (by omega)
      rw [Deep.add_add] at k0 k1 k2
      exact ⟨(x, y, z), ⟨k0, k1, k2⟩, bounds_i64 wx, bounds_i64 wy, bounds_i64 wz⟩
    obtain ⟨l, hl, _⟩ := key
    exact ⟨l, hl⟩
set_option maxRecDepth 100000 in
/-- A slice of numbers among the arguments. -/
theorem open_ints_at {H : Type} {enc : TypeId × Value → H} {W : World} {base : Nat} {v : Value} {d : DataW H} {p : List MemPlace}
    (hval : Value.okWide Try.prog W .any base 27 v) (h : DataW.Trod enc Try.prog W 0 (fun _ => true) true 27 v d p) (hw : Wt 27 d) : ∃ l, IntsB W v l := by
  obtain ⟨a0, len, cap, rfl⟩ := okWide_slice Try.underlying27 hval
  obtain ⟨fuel, hf⟩ := h
  rcases Deep.open_slice Try.underlying27 hf with ⟨hcs, hx⟩ | ⟨a, len', cap', m, n, D, Pl, hcs, hb, hl, hmx, hm, hx, hel⟩
  · simp [Value.cells] at hcs
    obtain ⟨rfl, rfl, rfl⟩ := hcs
    exact ⟨[], IntsAt.nil _ _, by simp⟩
  · simp [Value.cells] at hcs
    obtain ⟨rfl, rfl, rfl⟩ := hcs
    simp only [if_true] at hm
    subst hm
    have hd : d = .slice ((List.range len).map D) ((List.range (m - len)).map fun j => D (len + j)) := congrArg Prod.fst hx
    rw [hd] at hw
    obtain ⟨hwl, hwe⟩ := wt_slice Try.underlying27 hw
    rw [bytesInt] at hwl
    simp at hwl
    by_cases hl0 : len = 0
    · subst hl0
      exact ⟨[], ⟨_, _, rfl, by simp, fun h => by simp at h⟩, by simp⟩
    · rw [cellsInt] at hel
      have one : ∀ i, i < len → ∃ x : Int, W.cell? (a.add i) = some (.int .i64 x) := by
        intro i hi
        obtain ⟨cs, hc, ht⟩ := hel i (by omega)
        obtain ⟨_, hcl, hcc⟩ := World.cells?_some hc
        obtain ⟨c0, rfl⟩ : ∃ c, cs = [c] := by
          match cs, hcl with
          | [c], _ => exact ⟨c, rfl⟩
        obtain ⟨x, e0, -, wx⟩ := DataW.trod_int Try.underlying3 ht
        cases e0
        have k0 := hcc 0 (by omega)
        rw [Deep.add_add, Nat.mul_one] at k0
        exact ⟨x, k0⟩
      obtain ⟨f, hf⟩ := Deep.choose_lt one
      obtain ⟨b, off, spot⟩ := a
      have hspot : spot = none := by
        have := hf 0 (by omega)
        simpa [Addr.add] using World.cell?_spot this
      subst hspot
      have hlen : ((List.range len).map f).length = len := by simp
      have hget : ∀ j, j < len → ati ((List.range len).map f) j = f j := fun j hj => by
        unfold ati
        rw [List.getD_eq_getElem?_getD, List.getElem?_map, List.getElem?_range hj]; rfl
      have hc0 := hf 0 (by omega)
      rw [add_plain] at hc0
      refine ⟨(List.range len).map f, ⟨_, _, by rw [hlen], by rw [hlen]; omega, fun _ => ⟨b, off, rfl, cell_lt hc0, fun j hj => ?_⟩⟩, by rw [hlen]; exact hwl⟩
      rw [hlen] at hj
      have := hf j hj
      rw [add_plain] at this
      rw [hget j hj]
      exact this
set_option maxRecDepth 100000 in
/-- A layout among the arguments. -/
theorem open_layout_at {H : Type} {enc : TypeId × Value → H} {W : World} {base : Nat} {v : Value} {d : DataW H} {p : List MemPlace}
    (hval : Value.okWide Try.prog W .any base 32 v) (h : DataW.Trod enc Try.prog W 0 (fun _ => true) true 32 v d p) (hw : Wt 32 d) : ∃ z, LayAt W v z := by
  obtain ⟨v0, v1, y0, y1, n, rfl, hd, -, t0, t1⟩ := Joins.open_agg2 Try.underlying32 (by kernel_rfl) cellsLayout hval h
  rw [hd] at hw
  have hw1 : Wt 30 y1.1 := wt_part Try.underlying32 hw (j := 1) rfl rfl
  obtain ⟨x, e0, -, wx⟩ := DataW.trod_int Try.underlying3 t0
  obtain ⟨l, hl⟩ := edges_trod t1 hw1
  cases e0
  exact ⟨(x, l), v1, rfl, hl, bounds_i64 wx⟩
end Go.Proofs.Ytnpbkjmlmdpggaa
