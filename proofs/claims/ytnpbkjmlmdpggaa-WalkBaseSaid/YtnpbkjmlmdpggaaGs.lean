import Derived.Test.YtnpbkjmlmdpggaaGr
/- A region that draws its order, whose operations only make memory. -/
set_option linter.unusedVariables false
set_option linter.unusedSimpArgs false
namespace Go.Proofs.Ytnpbkjmlmdpggaa.Ly
open Go.RowKit

theorem wp_region_grow_all {P : Program} {id : Nat} {ops : Array Oper} {Q : Exit → Act → World → Prop} {a : Act} {w : World} (hm : P.follows .mixedOrders = true) (mk : List Value → Act) (PS : List (Value → World → Prop)) (zs0 : List Value)
    (hN : ops.size = PS.length) (hz0 : zs0.length = PS.length) (ha : a = mk zs0) (hst : ∀ p ∈ PS, Stable p)
    (hac' : acB ops = true)
    (hstep : ∀ i, i < PS.length → StepOk P ops Q mk w PS i)
    (hfin : ∀ zs wz, zs.length = PS.length → Below w.heap.size w wz → (∀ (j : Nat) (p : Value → World → Prop) (z : Value), PS[j]? = some p → zs[j]? = some z → p z wz) → Q .normal (mk zs) wz) :
    (Code.region id ops true).wp P Q a w := by
  have hac := acB_of hac'
  refine wp_region_inv hm (fun l a wz => ∃ zs, zs.length = PS.length ∧ a = mk zs ∧ FF w PS zs l wz) ?_ ?_ ?_
  · refine ⟨zs0, hz0, ha, (Below.refl _ _).drew, fun j p z _ _ hL => ?_⟩
    rw [Array.getD_eq_getD_getElem?, Array.getElem?_replicate] at hL
    split at hL <;> cases hL
  · intro l a wz i hl hi hI
    obtain ⟨hli, o, ho, hpre⟩ := ready_mem hi
    have hi' : i < ops.size := (Array.getElem?_eq_some_iff.1 ho).1
    obtain ⟨zs, hzl, rfl, hF⟩ := hI
    refine wpOp_mono (fun a' w' h => ?_) (hstep i (by omega) zs l wz o hzl hF ho hpre)
    obtain ⟨v, rfl, hb, hv⟩ := h
    exact ⟨zs.set i v, by simpa using hzl, rfl, hF.step hst (by omega) hb hv⟩
  · intro l a wz hl hr hI
    obtain ⟨zs, hzl, rfl, hF⟩ := hI
    have := all_run hac hl hr
    refine hfin zs wz hzl hF.bel (fun j p z hj hz => hF.fact j p z hj hz (this j ?_))
    have := (List.getElem?_eq_some_iff.1 hj).1
    omega
end Go.Proofs.Ytnpbkjmlmdpggaa.Ly
