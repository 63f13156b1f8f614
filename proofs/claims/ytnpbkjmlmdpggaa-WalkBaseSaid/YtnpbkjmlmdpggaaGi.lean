import Derived.Test.YtnpbkjmlmdpggaaGr
import Derived.OrdersIn
import Derived.TacticsIn
import Derived.ControlIn
import Derived.RangeFuncCalls
/- Drawn regions whose operations only make memory, in a round's frame. -/
set_option linter.unusedVariables false
set_option linter.unusedSimpArgs false
namespace Go.Proofs.Ytnpbkjmlmdpggaa.Ly
open Go.RowKit

theorem wpOpIn_here {l n : Nat} {P : Program} {ops : Array Oper} {Q : Exit → Act → World → Prop} {i : Nat} {K : Act → World → Prop} {a : Act} {w : World} {o : Oper} (ho : ops[i]? = some o) (hd : ∀ c, o.op ≠ .defer c)
    (h : ∀ K' : Act → World → Prop, (∀ a w, K a w → K' a w) → if Region.wanted o (yielded ops a.tmps) = true then Oper.wp P o a w K' Q else K' (a.put o.dst undef) w) : wpOpIn (Fence.wide.inRound l) n P ops Q i K a w := by
  have := h K (fun _ _ h => h)
  unfold wpOpIn
  rw [ho]
  by_cases hw : Region.wanted o (yielded ops a.tmps) = true
  · rw [if_pos hw] at this
    simp only [hw, if_true]
    refine ⟨fun f _ => trivial, ?_⟩
    rw [Oper.semAt_eq _ _ _ hd]
    unfold Oper.wp at this
    generalize (execOp a.eval o).run P w = r at *
    cases r with
    | ok x w' =>
      cases x <;> simp only [Oper.upon, Oper.uponIn] at this ⊢ <;>
        first
          | exact this
          | exact this.elim
          | exact ⟨(fun h => by simp [Fence.wide] at h), CallsIn.inRound l ((callsIn_wide (n := n - 1)).2 this)⟩
          | exact ⟨(fun h => by simp [Fence.wide] at h), fun c cs _ => let ⟨v, w', r, s⟩ := this c cs; ⟨v, w', r, stepsIn_wide.2 s⟩⟩
    | halt x w' => cases x <;> simp only [Oper.upon, Oper.uponIn] at this ⊢ <;> exact this
  · rw [if_neg hw] at this
    simp only [hw]
    exact ⟨fun f _ => trivial, this⟩
theorem wpAny_inv_in {F : Fence} {n : Nat} {P : Program} {md : Region.Mode} {ops : Array Oper} {Q : Exit → Act → World → Prop} (Inv : Array Bool → Act → World → Prop)
    (hstep : ∀ l a w i, l.size = ops.size → i ∈ Region.ready md ops l → Inv l a w → wpOpIn F n P ops Q i (Inv (l.setIfInBounds i true)) a w)
    (hend : ∀ l a w, l.size = ops.size → Region.ready md ops l = [] → Inv l a w → Q .normal a w) :
    ∀ (fuel : Nat) (l : Array Bool) (a : Act) (w : World), l.size = ops.size → unrun l ≤ fuel → Inv l a w → wpAnyIn F n P md ops Q fuel l a w
  | 0, l, a, w, hl, hf, hI => by
    have hr : Region.ready md ops l = [] := by
      cases hr : Region.ready md ops l with
      | nil => rfl
      | cons i r =>
        exfalso
        have h1 := (ready_mem (md := md) (ops := ops) (l := l) (i := i) (by rw [hr]; simp)).1
        have := unrun_set h1
        omega
    exact ⟨hr, hend l a w hl hr hI⟩
  | fuel + 1, l, a, w, hl, hf, hI => by
    refine ⟨fun hr => hend l a w hl hr hI, fun i hi => ?_⟩
    have h1 := (ready_mem hi).1
    have h2 := unrun_set h1
    exact wpOpIn_mono (fun a' w' hI' => wpAny_inv_in Inv hstep hend fuel _ a' w' (by simpa using hl) (by omega) hI') (hstep l a w i hl hi hI)

theorem wpIn_region_inv {F : Fence} {n : Nat} {P : Program} {id : Nat} {ops : Array Oper} {Q : Exit → Act → World → Prop} {a : Act} {w : World} (hm : P.follows .mixedOrders = true) (Inv : Array Bool → Act → World → Prop)
    (h0 : Inv (Array.replicate ops.size false) a w.drew)
    (hstep : ∀ l a w i, l.size = ops.size → i ∈ Region.ready .any ops l → Inv l a w → wpOpIn F n P ops Q i (Inv (l.setIfInBounds i true)) a w)
    (hend : ∀ l a w, l.size = ops.size → Region.ready .any ops l = [] → Inv l a w → Q .normal a w) : (Code.region id ops true).wpIn F n P Q a w := by
  refine wpIn_region_any hm (wpAny_inv_in Inv hstep hend _ _ _ _ (by simp) ?_ h0)
  unfold unrun
  refine Nat.le_trans List.countP_le_length ?_
  simp
/-- What a step of such a region must show. -/
def StepOkIn (F : Fence) (n : Nat) (P : Program) (ops : Array Oper) (Q : Exit → Act → World → Prop) (mk : List Value → Act) (w0 : World) (PS : List (Value → World → Prop)) (i : Nat) : Prop :=
  ∀ zs l wz o, zs.length = PS.length → FF w0 PS zs l wz → ops[i]? = some o → (∀ e ∈ o.after.toList, Region.binds .any e = true → l.getD e.on false = true) →
    wpOpIn F n P ops Q i (fun a' w' => ∃ v, a' = mk (zs.set i v) ∧ Below wz.heap.size wz w' ∧ ∀ p, PS[i]? = some p → p v w') (mk zs) wz
theorem wpIn_region_grow {F : Fence} {n : Nat} {P : Program} {id : Nat} {ops : Array Oper} {Q : Exit → Act → World → Prop} {a : Act} {w : World} (hm : P.follows .mixedOrders = true) (mk : List Value → Act) (PS : List (Value → World → Prop)) (zs0 : List Value)
    (hN : ops.size = PS.length + 1) (hz0 : zs0.length = PS.length) (ha : a = mk zs0) (hst : ∀ p ∈ PS, Stable p)
    (hac' : acB ops = true) (hall' : lastB ops PS.length = true)
    (hstep : ∀ i, i < PS.length → StepOkIn F n P ops Q mk w PS i)
    (hfin : ∀ zs wz, zs.length = PS.length → Below w.heap.size w wz → (∀ (j : Nat) (p : Value → World → Prop) (z : Value), PS[j]? = some p → zs[j]? = some z → p z wz) → wpOpIn F n P ops Q PS.length (fun a' w' => Q .normal a' w') (mk zs) wz) :
    (Code.region id ops true).wpIn F n P Q a w := by
  have hac := acB_of hac'
  have hall := lastB_of hall'
  refine wpIn_region_inv hm (fun l a wz => if l.getD PS.length false = true then (∀ j, j < ops.size → l.getD j false = true) ∧ Q .normal a wz else ∃ zs, zs.length = PS.length ∧ a = mk zs ∧ FF w PS zs l wz) ?_ ?_ ?_
  · have hz : (Array.replicate ops.size false).getD PS.length false = false := by
      rw [Array.getD_eq_getD_getElem?, Array.getElem?_replicate]; split <;> rfl
    rw [hz, if_neg (by decide)]
    refine ⟨zs0, hz0, ha, (Below.refl _ _).drew, fun j p z _ _ hL => ?_⟩
    rw [Array.getD_eq_getD_getElem?, Array.getElem?_replicate] at hL
    split at hL <;> cases hL
  · intro l a wz i hl hi hI
    obtain ⟨hli, o, ho, hpre⟩ := ready_mem hi
    have hi' : i < ops.size := (Array.getElem?_eq_some_iff.1 ho).1
    by_cases hlast : l.getD PS.length false = true
    · exfalso
      rw [if_pos hlast] at hI
      have h1 := hI.1 i hi'
      rw [Array.getD_eq_getD_getElem?, Array.getElem?_eq_getElem (by omega)] at h1 hli
      simp only [Option.getD_some] at h1 hli
      rw [h1] at hli
      cases hli
    · rw [if_neg hlast] at hI
      obtain ⟨zs, hzl, rfl, hF⟩ := hI
      by_cases e : i = PS.length
      · subst e
        have hev : ∀ (j : Nat) (p : Value → World → Prop) (z : Value), PS[j]? = some p → zs[j]? = some z → p z wz := fun j p z hj hz => by
          have hjl : j < PS.length := (List.getElem?_eq_some_iff.1 hj).1
          obtain ⟨e, he, hb, hej⟩ := hall o ho j hjl
          subst hej
          exact hF.fact _ p z hj hz (hpre e he hb)
        refine wpOpIn_mono (fun a' w' h => ?_) (hfin zs wz hzl hF.bel hev)
        rw [if_pos]
        · refine ⟨fun j hj => ?_, h⟩
          by_cases hjN : PS.length = j
          · subst hjN
            rw [Array.getD_eq_getD_getElem?, Array.getElem?_setIfInBounds_self_of_lt (by omega)]; rfl
          · rw [Array.getD_eq_getD_getElem?, Array.getElem?_setIfInBounds_ne hjN, ← Array.getD_eq_getD_getElem?]
            obtain ⟨e, he, hb, hej⟩ := hall o ho j (by omega)
            subst hej
            exact hpre e he hb
        · rw [Array.getD_eq_getD_getElem?, Array.getElem?_setIfInBounds_self_of_lt (by omega)]; rfl
      · refine wpOpIn_mono (fun a' w' h => ?_) (hstep i (by omega) zs l wz o hzl hF ho hpre)
        obtain ⟨v, rfl, hb, hv⟩ := h
        have hne : (l.setIfInBounds i true).getD PS.length false = l.getD PS.length false := by
          rw [Array.getD_eq_getD_getElem?, Array.getElem?_setIfInBounds_ne e, Array.getD_eq_getD_getElem?]
        rw [hne, if_neg hlast]
        exact ⟨zs.set i v, by simpa using hzl, rfl, hF.step hst (by omega) hb hv⟩
  · intro l a wz hl hr hI
    have := all_run hac hl hr PS.length (by omega)
    rw [if_pos this] at hI
    exact hI.2
end Go.Proofs.Ytnpbkjmlmdpggaa.Ly
