import Derived.Test.YtnpbkjmlmdpggaaWl
/- A drawn region that only makes memory until one operation behind all, and two behind that one. -/
set_option linter.unusedVariables false
set_option linter.unusedSimpArgs false
namespace Go.Proofs.Ytnpbkjmlmdpggaa.Ly
open Go.RowKit

theorem wp_region_grow3 {P : Program} {id : Nat} {ops : Array Oper} {Q : Exit → Act → World → Prop} {a : Act} {w : World} (hm : P.follows .mixedOrders = true) (mk : List Value → Act) (PS : List (Value → World → Prop)) (zs0 : List Value) (R R2 : Act → World → Prop)
    (hN : ops.size = PS.length + 3) (hz0 : zs0.length = PS.length) (ha : a = mk zs0) (hst : ∀ p ∈ PS, Stable p)
    (hac' : acB ops = true) (hcov : coverB ops PS.length = true) (hw1 : waitsB ops (PS.length + 1) PS.length = true) (hw2 : waitsB ops (PS.length + 2) (PS.length + 1) = true)
    (hstep : ∀ i, i < PS.length → StepOk P ops Q mk w PS i)
    (happ : ∀ zs wz, zs.length = PS.length → Below w.heap.size w wz → (∀ (j : Nat) (p : Value → World → Prop) (z : Value), PS[j]? = some p → zs[j]? = some z → p z wz) → wpOp P ops Q PS.length R (mk zs) wz)
    (hfin1 : ∀ a wz, R a wz → wpOp P ops Q (PS.length + 1) R2 a wz)
    (hfin2 : ∀ a wz, R2 a wz → wpOp P ops Q (PS.length + 2) (fun a' w' => Q .normal a' w') a wz) :
    (Code.region id ops true).wp P Q a w := by
  have hac := acB_of hac'
  refine wp_region_inv hm (fun l a wz => Shut ops l ∧ if l.getD (PS.length + 2) false = true then (∀ j, j < ops.size → l.getD j false = true) ∧ Q .normal a wz else if l.getD (PS.length + 1) false = true then (∀ j, j < PS.length + 2 → l.getD j false = true) ∧ R2 a wz else if l.getD PS.length false = true then (∀ j, j < PS.length + 1 → l.getD j false = true) ∧ R a wz else ∃ zs, zs.length = PS.length ∧ a = mk zs ∧ FF w PS zs l wz) ?_ ?_ ?_
  · have hz : ∀ k, (Array.replicate ops.size false).getD k false = false := fun k => by
      rw [Array.getD_eq_getD_getElem?, Array.getElem?_replicate]; split <;> rfl
    refine ⟨fun i o _ hl => (by rw [hz] at hl; cases hl), ?_⟩
    rw [hz, if_neg (by decide), hz, if_neg (by decide), hz, if_neg (by decide)]
    refine ⟨zs0, hz0, ha, (Below.refl _ _).drew, fun j p z _ _ hL => ?_⟩
    rw [hz] at hL
    cases hL
  · intro l a wz i hl hi hI
    obtain ⟨hli, o, ho, hpre⟩ := ready_mem hi
    have hi' : i < ops.size := (Array.getElem?_eq_some_iff.1 ho).1
    have hfree : l.getD i false = false := by
      rw [Array.getD_eq_getD_getElem?, Array.getElem?_eq_getElem (by omega)] at hli ⊢
      exact hli
    obtain ⟨hS, hI⟩ := hI
    have hS' := hS.step ho hpre
    by_cases hlast : l.getD (PS.length + 2) false = true
    · exfalso
      rw [if_pos hlast] at hI
      rw [hI.1 i hi'] at hfree
      cases hfree
    · rw [if_neg hlast] at hI
      by_cases hmid2 : l.getD (PS.length + 1) false = true
      · rw [if_pos hmid2] at hI
        have e : i = PS.length + 2 := by
          rcases Nat.lt_or_ge i (PS.length + 2) with h | h
          · rw [hI.1 i h] at hfree; cases hfree
          · omega
        subst e
        refine wpOp_mono (fun a' w' h => ?_) (hfin2 a wz hI.2)
        refine ⟨hS', ?_⟩
        rw [if_pos (getD_set_eq (by omega))]
        refine ⟨fun j hj => ?_, h⟩
        by_cases hjN : PS.length + 2 = j
        · subst hjN; exact getD_set_eq (by omega)
        · rw [getD_set_ne hjN]; exact hI.1 j (by omega)
      · rw [if_neg hmid2] at hI
        by_cases hmid : l.getD PS.length false = true
        · rw [if_pos hmid] at hI
          have e : i = PS.length + 1 := by
            rcases Nat.lt_or_ge i (PS.length + 1) with h | h
            · rw [hI.1 i h] at hfree; cases hfree
            · by_cases e2 : i = PS.length + 2
              · subst e2
                obtain ⟨e3, he3, hb3, hej⟩ := waitsB_of hw2 ho
                have := hpre e3 he3 hb3
                rw [hej] at this
                exact absurd this hmid2
              · omega
          subst e
          refine wpOp_mono (fun a' w' h => ?_) (hfin1 a wz hI.2)
          refine ⟨hS', ?_⟩
          rw [getD_set_ne (by omega), if_neg hlast, if_pos (getD_set_eq (by omega))]
          refine ⟨fun j hj => ?_, h⟩
          by_cases hjN : PS.length + 1 = j
          · subst hjN; exact getD_set_eq (by omega)
          · rw [getD_set_ne hjN]; exact hI.1 j (by omega)
        · rw [if_neg hmid] at hI
          obtain ⟨zs, hzl, rfl, hF⟩ := hI
          rcases Nat.lt_or_ge i PS.length with hlt | hge
          · refine wpOp_mono (fun a' w' h => ?_) (hstep i hlt zs l wz o hzl hF ho hpre)
            obtain ⟨v, rfl, hb, hv⟩ := h
            refine ⟨hS', ?_⟩
            rw [getD_set_ne (by omega), if_neg hlast, getD_set_ne (by omega), if_neg hmid2, getD_set_ne (by omega), if_neg hmid]
            exact ⟨zs.set i v, by simpa using hzl, rfl, hF.step hst (by omega) hb hv⟩
          · by_cases e : i = PS.length
            · subst e
              have hev := shut_all hcov hS ho hpre
              refine wpOp_mono (fun a' w' h => ?_) (happ zs wz hzl hF.bel (fun j p z hj hz => hF.fact j p z hj hz (hev j (List.getElem?_eq_some_iff.1 hj).1)))
              refine ⟨hS', ?_⟩
              rw [getD_set_ne (by omega), if_neg hlast, getD_set_ne (by omega), if_neg hmid2, if_pos (getD_set_eq (by omega))]
              refine ⟨fun j hj => ?_, h⟩
              by_cases hjN : PS.length = j
              · subst hjN; exact getD_set_eq (by omega)
              · rw [getD_set_ne hjN]; exact hev j (by omega)
            · exfalso
              rcases (show i = PS.length + 1 ∨ i = PS.length + 2 by omega) with e2 | e2
              · subst e2
                obtain ⟨e3, he3, hb3, hej⟩ := waitsB_of hw1 ho
                have := hpre e3 he3 hb3
                rw [hej] at this
                exact hmid this
              · subst e2
                obtain ⟨e3, he3, hb3, hej⟩ := waitsB_of hw2 ho
                have := hpre e3 he3 hb3
                rw [hej] at this
                exact hmid2 this
  · intro l a wz hl hr hI
    have := all_run hac hl hr (PS.length + 2) (by omega)
    obtain ⟨hS, hI⟩ := hI
    rw [if_pos this] at hI
    exact hI.2
end Go.Proofs.Ytnpbkjmlmdpggaa.Ly
