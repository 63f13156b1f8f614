import Derived.Test.YtnpbkjmlmdpggaaInv
import Derived.Below
/- A region that draws its order, whose operations only make memory, but for a last one behind all: each operation is run once, with what the ones ahead of it left. -/
set_option linter.unusedVariables false
set_option linter.unusedSimpArgs false
namespace Go.Proofs.Ytnpbkjmlmdpggaa.Ly
open Go.RowKit

/-- All have run. -/
theorem all_run {ops : Array Oper} {l : Array Bool} {md : Region.Mode} (hac : ∀ (i : Nat) (o : Oper), ops[i]? = some o → ∀ e ∈ o.after.toList, e.on < i) (hs : l.size = ops.size) (hr : Region.ready md ops l = []) : ∀ i, i < ops.size → l.getD i false = true := by
  intro i
  induction i using Nat.strongRecOn with
  | ind i ih =>
    intro hi
    cases h : l.getD i false with
    | true => rfl
    | false =>
      exfalso
      have hm : i ∈ Region.ready md ops l := by
        unfold Region.ready
        rw [List.mem_filter]
        refine ⟨List.mem_range.2 hi, ?_⟩
        have h1 : l.getD i true = false := by
          rw [Array.getD_eq_getD_getElem?, Array.getElem?_eq_getElem (by omega)] at h ⊢
          exact h
        rw [h1, Array.getElem?_eq_getElem hi]
        simp only [Bool.not_false, Bool.true_and, Option.map_some, Option.getD_some]
        rw [Array.all_eq_true']
        intro e he
        have h2 := ih e.on (hac i _ (Array.getElem?_eq_getElem hi) e (by simpa using he)) (by
          have := hac i _ (Array.getElem?_eq_getElem hi) e (by simpa using he)
          omega)
        rw [h2, Bool.or_true]
      rw [hr] at hm
      cases hm
/-- Each operation waits for earlier ones alone; the last one waits for all. -/
def acB (ops : Array Oper) : Bool := (List.range ops.size).all fun i => match ops[i]? with | some o => o.after.toList.all (fun e => decide (e.on < i)) | none => true
def lastB (ops : Array Oper) (N : Nat) : Bool := match ops[N]? with | some o => (List.range N).all (fun j => o.after.toList.any fun e => Region.binds .any e && e.on == j) | none => true
theorem acB_of {ops : Array Oper} (h : acB ops = true) : ∀ (i : Nat) (o : Oper), ops[i]? = some o → ∀ e ∈ o.after.toList, e.on < i := fun i o ho e he => by
  have hi : i < ops.size := (Array.getElem?_eq_some_iff.1 ho).1
  have h1 := List.all_eq_true.1 h i (List.mem_range.2 hi)
  rw [ho] at h1
  have h2 := List.all_eq_true.1 h1 e he
  simpa using h2
theorem lastB_of {ops : Array Oper} {N : Nat} (h : lastB ops N = true) : ∀ o, ops[N]? = some o → ∀ j, j < N → ∃ e ∈ o.after.toList, Region.binds .any e = true ∧ e.on = j := fun o ho j hj => by
  unfold lastB at h
  rw [ho] at h
  have h1 := List.all_eq_true.1 h j (List.mem_range.2 hj)
  obtain ⟨e, he, h2⟩ := List.any_eq_true.1 h1
  rw [Bool.and_eq_true, beq_iff_eq] at h2
  exact ⟨e, he, h2.1, h2.2⟩
theorem wpOp_here {P : Program} {ops : Array Oper} {Q : Exit → Act → World → Prop} {i : Nat} {K : Act → World → Prop} {a : Act} {w : World} {o : Oper} (ho : ops[i]? = some o)
    (h : ∀ K' : Act → World → Prop, (∀ a w, K a w → K' a w) → if Region.wanted o (yielded ops a.tmps) = true then Oper.wp P o a w K' Q else K' (a.put o.dst undef) w) : wpOp P ops Q i K a w := by
  have := h K (fun _ _ h => h)
  unfold wpOp
  rw [ho]
  by_cases hw : Region.wanted o (yielded ops a.tmps) = true
  · rw [if_pos hw] at this
    simp only [hw, if_true]
    exact .inl this
  · rw [if_neg hw] at this
    simp only [hw]
    exact this
/-- What stays, whatever memory is made. -/
def Stable (p : Value → World → Prop) : Prop := ∀ z w w', p z w → Below w.heap.size w w' → p z w'
theorem stable_eq (v : Value) : Stable (fun z _ => z = v) := fun _ _ _ h _ => h
/-- What is known of the values of the operations that have run. -/
structure FF (w0 : World) (PS : List (Value → World → Prop)) (zs : List Value) (l : Array Bool) (w : World) : Prop where
  bel : Below w0.heap.size w0 w
  fact : ∀ j p z, PS[j]? = some p → zs[j]? = some z → l.getD j false = true → p z w
theorem FF.step {w0 w w' : World} {PS : List (Value → World → Prop)} {zs : List Value} {l : Array Bool} (h : FF w0 PS zs l w) (hs : ∀ p ∈ PS, Stable p) {i : Nat} (hi : i < zs.length) {v : Value} (hb : Below w.heap.size w w') (hv : ∀ p, PS[i]? = some p → p v w') :
    FF w0 PS (zs.set i v) (l.setIfInBounds i true) w' := by
  refine ⟨h.bel.trans (hb.mono h.bel.size), fun j q z hj hz hL => ?_⟩
  by_cases e : i = j
  · subst e
    rw [List.getElem?_set_self hi] at hz
    cases hz
    exact hv q hj
  · rw [List.getElem?_set_ne e] at hz
    have hL' : l.getD j false = true := by
      rw [Array.getD_eq_getD_getElem?, Array.getElem?_setIfInBounds_ne e] at hL
      rw [Array.getD_eq_getD_getElem?]; exact hL
    exact hs q (List.mem_of_getElem? hj) z w w' (h.fact j q z hj hz hL') hb
/-- What a step of such a region must show. -/
def StepOk (P : Program) (ops : Array Oper) (Q : Exit → Act → World → Prop) (mk : List Value → Act) (w0 : World) (PS : List (Value → World → Prop)) (i : Nat) : Prop :=
  ∀ zs l wz o, zs.length = PS.length → FF w0 PS zs l wz → ops[i]? = some o → (∀ e ∈ o.after.toList, Region.binds .any e = true → l.getD e.on false = true) →
    wpOp P ops Q i (fun a' w' => ∃ v, a' = mk (zs.set i v) ∧ Below wz.heap.size wz w' ∧ ∀ p, PS[i]? = some p → p v w') (mk zs) wz
theorem wp_region_grow {P : Program} {id : Nat} {ops : Array Oper} {Q : Exit → Act → World → Prop} {a : Act} {w : World} (hm : P.follows .mixedOrders = true) (mk : List Value → Act) (PS : List (Value → World → Prop)) (zs0 : List Value)
    (hN : ops.size = PS.length + 1) (hz0 : zs0.length = PS.length) (ha : a = mk zs0) (hst : ∀ p ∈ PS, Stable p)
    (hac' : acB ops = true) (hall' : lastB ops PS.length = true)
    (hstep : ∀ i, i < PS.length → StepOk P ops Q mk w PS i)
    (hfin : ∀ zs wz, zs.length = PS.length → Below w.heap.size w wz → (∀ (j : Nat) (p : Value → World → Prop) (z : Value), PS[j]? = some p → zs[j]? = some z → p z wz) → wpOp P ops Q PS.length (fun a' w' => Q .normal a' w') (mk zs) wz) :
    (Code.region id ops true).wp P Q a w := by
  have hac := acB_of hac'
  have hall := lastB_of hall'
  refine wp_region_inv hm (fun l a wz => if l.getD PS.length false = true then (∀ j, j < ops.size → l.getD j false = true) ∧ Q .normal a wz else ∃ zs, zs.length = PS.length ∧ a = mk zs ∧ FF w PS zs l wz) ?_ ?_ ?_
  · have hz : (Array.replicate ops.size false).getD PS.length false = false := by
      rw [Array.getD_eq_getD_getElem?, Array.getElem?_replicate]; split <;> rfl
    rw [hz, if_neg (by decide)]
    refine ⟨zs0, hz0, ha, (Below.refl _ _).drew, fun j p z _ _ hL => ?_⟩
    rw [Array.getD_eq_getD_getElem?, Array.getElem?_replicate] at hL
    split at hL <;> cases hL
  · intro l a wz i hl hi hI
    obtain ⟨hli, o, ho, hpre⟩ := ready_mem hi
    have hi' : i < ops.size := (Array.getElem?_eq_some_iff.1 ho).1
    by_cases hlast : l.getD PS.length false = true
    · exfalso
      rw [if_pos hlast] at hI
      have h1 := hI.1 i hi'
      rw [Array.getD_eq_getD_getElem?, Array.getElem?_eq_getElem (by omega)] at h1 hli
      simp only [Option.getD_some] at h1 hli
      rw [h1] at hli
      cases hli
    · rw [if_neg hlast] at hI
      obtain ⟨zs, hzl, rfl, hF⟩ := hI
      by_cases e : i = PS.length
      · subst e
        have hev : ∀ (j : Nat) (p : Value → World → Prop) (z : Value), PS[j]? = some p → zs[j]? = some z → p z wz := fun j p z hj hz => by
          have hjl : j < PS.length := (List.getElem?_eq_some_iff.1 hj).1
          obtain ⟨e, he, hb, hej⟩ := hall o ho j hjl
          subst hej
          exact hF.fact _ p z hj hz (hpre e he hb)
        refine wpOp_mono (fun a' w' h => ?_) (hfin zs wz hzl hF.bel hev)
        rw [if_pos]
        · refine ⟨fun j hj => ?_, h⟩
          by_cases hjN : PS.length = j
          · subst hjN
            rw [Array.getD_eq_getD_getElem?, Array.getElem?_setIfInBounds_self_of_lt (by omega)]; rfl
          · rw [Array.getD_eq_getD_getElem?, Array.getElem?_setIfInBounds_ne hjN, ← Array.getD_eq_getD_getElem?]
            obtain ⟨e, he, hb, hej⟩ := hall o ho j (by omega)
            subst hej
            exact hpre e he hb
        · rw [Array.getD_eq_getD_getElem?, Array.getElem?_setIfInBounds_self_of_lt (by omega)]; rfl
      · refine wpOp_mono (fun a' w' h => ?_) (hstep i (by omega) zs l wz o hzl hF ho hpre)
        obtain ⟨v, rfl, hb, hv⟩ := h
        have hne : (l.setIfInBounds i true).getD PS.length false = l.getD PS.length false := by
          rw [Array.getD_eq_getD_getElem?, Array.getElem?_setIfInBounds_ne e, Array.getD_eq_getD_getElem?]
        rw [hne, if_neg hlast]
        exact ⟨zs.set i v, by simpa using hzl, rfl, hF.step hst (by omega) hb hv⟩
  · intro l a wz hl hr hI
    have := all_run hac hl hr PS.length (by omega)
    rw [if_pos this] at hI
    exact hI.2
end Go.Proofs.Ytnpbkjmlmdpggaa.Ly
