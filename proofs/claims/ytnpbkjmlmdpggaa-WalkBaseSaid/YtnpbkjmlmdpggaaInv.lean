import Derived.Orders
import Derived.Tactics
/- A region that draws its order, by an invariant over which of its operations have run: each operation is run once, in whatever state its forerunners left. -/
set_option linter.unusedSimpArgs false
set_option linter.unusedVariables false
namespace Go.Proofs.Ytnpbkjmlmdpggaa.Ly
open Go

/-- How many have not run. -/
def unrun (l : Array Bool) : Nat := l.toList.countP (fun b => !b)
theorem unrun_set {l : Array Bool} {i : Nat} (h : l.getD i true = false) : unrun (l.setIfInBounds i true) < unrun l := by
  obtain ⟨L⟩ := l
  have hi : i < L.length := by
    rcases Nat.lt_or_ge i L.length with h' | h'
    · exact h'
    · rw [Array.getD_eq_getD_getElem?, Array.getElem?_eq_none (by simpa using h')] at h
      cases h
  have hv : L[i] = false := by simpa [Array.getD, hi] using h
  unfold unrun
  simp only [List.setIfInBounds_toArray]
  have e : L = L.take i ++ L[i] :: L.drop (i + 1) := by rw [← List.drop_eq_getElem_cons hi, List.take_append_drop]
  rw [List.set_eq_take_append_cons_drop, if_pos hi]
  conv => rhs; rw [e]
  rw [List.countP_append, List.countP_append, hv]
  simp
theorem ready_mem {md : Region.Mode} {ops : Array Oper} {l : Array Bool} {i : Nat} (h : i ∈ Region.ready md ops l) : l.getD i true = false ∧ ∃ o, ops[i]? = some o ∧ ∀ e ∈ o.after.toList, Region.binds md e = true → l.getD e.on false = true := by
  unfold Region.ready at h
  rw [List.mem_filter] at h
  obtain ⟨_, h⟩ := h
  rw [Bool.and_eq_true] at h
  obtain ⟨h1, h2⟩ := h
  refine ⟨by simpa using h1, ?_⟩
  cases ho : ops[i]? with
  | none => rw [ho] at h2; simp at h2
  | some o =>
    rw [ho] at h2
    refine ⟨o, rfl, fun e he hb => ?_⟩
    simp only [Option.map_some, Option.getD_some] at h2
    rw [← Array.all_toList] at h2
    have := List.all_eq_true.1 h2 e he
    rw [hb] at this
    simpa using this

theorem wpAny_inv {P : Program} {md : Region.Mode} {ops : Array Oper} {Q : Exit → Act → World → Prop} (Inv : Array Bool → Act → World → Prop)
    (hstep : ∀ l a w i, l.size = ops.size → i ∈ Region.ready md ops l → Inv l a w → wpOp P ops Q i (Inv (l.setIfInBounds i true)) a w)
    (hend : ∀ l a w, l.size = ops.size → Region.ready md ops l = [] → Inv l a w → Q .normal a w) :
    ∀ (fuel : Nat) (l : Array Bool) (a : Act) (w : World), l.size = ops.size → unrun l ≤ fuel → Inv l a w → wpAny P md ops Q fuel l a w
  | 0, l, a, w, hl, hf, hI => by
    have hr : Region.ready md ops l = [] := by
      cases hr : Region.ready md ops l with
      | nil => rfl
      | cons i r =>
        exfalso
        have h1 := (ready_mem (md := md) (ops := ops) (l := l) (i := i) (by rw [hr]; simp)).1
        have := unrun_set h1
        omega
    exact ⟨hr, hend l a w hl hr hI⟩
  | fuel + 1, l, a, w, hl, hf, hI => by
    refine ⟨fun hr => hend l a w hl hr hI, fun i hi => ?_⟩
    have h1 := (ready_mem hi).1
    have h2 := unrun_set h1
    exact wpOp_mono (fun a' w' hI' => wpAny_inv Inv hstep hend fuel _ a' w' (by simpa using hl) (by omega) hI') (hstep l a w i hl hi hI)

theorem wp_region_inv {P : Program} {id : Nat} {ops : Array Oper} {Q : Exit → Act → World → Prop} {a : Act} {w : World} (hm : P.follows .mixedOrders = true) (Inv : Array Bool → Act → World → Prop)
    (h0 : Inv (Array.replicate ops.size false) a w.drew)
    (hstep : ∀ l a w i, l.size = ops.size → i ∈ Region.ready .any ops l → Inv l a w → wpOp P ops Q i (Inv (l.setIfInBounds i true)) a w)
    (hend : ∀ l a w, l.size = ops.size → Region.ready .any ops l = [] → Inv l a w → Q .normal a w) : (Code.region id ops true).wp P Q a w := by
  refine wp_region_any hm (wpAny_inv Inv hstep hend _ _ _ _ (by simp) ?_ h0)
  unfold unrun
  refine Nat.le_trans List.countP_le_length ?_
  simp
end Go.Proofs.Ytnpbkjmlmdpggaa.Ly
