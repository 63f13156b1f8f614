import Derived.Test.YtnpbkjmlmdpggaaGi
/- A drawn region that reads until one operation behind all that it needs, which may do anything, and two behind that one. -/
set_option linter.unusedVariables false
set_option linter.unusedSimpArgs false
namespace Go.Proofs.Ytnpbkjmlmdpggaa.Ly
open Go.RowKit

/-- Each operation ahead of the one at N is waited for by a later one, up to it. -/
def coverB (ops : Array Oper) (N : Nat) : Bool := (List.range N).all fun j => (List.range (N + 1)).any fun i => decide (j < i) && (match ops[i]? with | some o => o.after.toList.any (fun e => Region.binds .any e && e.on == j) | none => false)
theorem coverB_of {ops : Array Oper} {N : Nat} (h : coverB ops N = true) : ∀ j, j < N → ∃ i o, j < i ∧ i ≤ N ∧ ops[i]? = some o ∧ ∃ e ∈ o.after.toList, Region.binds .any e = true ∧ e.on = j := fun j hj => by
  have h1 := List.all_eq_true.1 h j (List.mem_range.2 hj)
  obtain ⟨i, hi, h2⟩ := List.any_eq_true.1 h1
  rw [Bool.and_eq_true, decide_eq_true_eq] at h2
  have hi := List.mem_range.1 hi
  cases ho : ops[i]? with
  | none => rw [ho] at h2; cases h2.2
  | some o =>
    rw [ho] at h2
    obtain ⟨e, he, h3⟩ := List.any_eq_true.1 h2.2
    rw [Bool.and_eq_true, beq_iff_eq] at h3
    exact ⟨i, o, h2.1, by omega, ho, e, he, h3.1, h3.2⟩
/-- What has run, with all that it waited for. -/
def Shut (ops : Array Oper) (l : Array Bool) : Prop := ∀ (i : Nat) (o : Oper), ops[i]? = some o → l.getD i false = true → ∀ e ∈ o.after.toList, Region.binds .any e = true → l.getD e.on false = true
theorem shut_all {ops : Array Oper} {l : Array Bool} {N : Nat} (hc : coverB ops N = true) (hs : Shut ops l) {o : Oper} (ho : ops[N]? = some o) (hpre : ∀ e ∈ o.after.toList, Region.binds .any e = true → l.getD e.on false = true) : ∀ j, j < N → l.getD j false = true := by
  have key : ∀ (d j : Nat), N - j = d → j < N → l.getD j false = true := by
    intro d
    induction d using Nat.strongRecOn with
    | ind d ih =>
      intro j hd hj
      obtain ⟨i, o', hji, hiN, hoi, e, he, hb, hej⟩ := coverB_of hc j hj
      subst hej
      by_cases hi : i = N
      · subst hi
        rw [ho] at hoi
        cases hoi
        exact hpre e he hb
      · exact hs i o' hoi (ih (N - i) (by omega) i rfl (by omega)) e he hb
  exact fun j hj => key _ j rfl hj
theorem getD_set_ne {l : Array Bool} {i j : Nat} (h : i ≠ j) : (l.setIfInBounds i true).getD j false = l.getD j false := by
  rw [Array.getD_eq_getD_getElem?, Array.getElem?_setIfInBounds_ne h, Array.getD_eq_getD_getElem?]
theorem getD_set_eq {l : Array Bool} {i : Nat} (h : i < l.size) : (l.setIfInBounds i true).getD i false = true := by
  rw [Array.getD_eq_getD_getElem?, Array.getElem?_setIfInBounds_self_of_lt h]; rfl
theorem Shut.step {ops : Array Oper} {l : Array Bool} (h : Shut ops l) {i : Nat} {o : Oper} (ho : ops[i]? = some o) (hpre : ∀ e ∈ o.after.toList, Region.binds .any e = true → l.getD e.on false = true) : Shut ops (l.setIfInBounds i true) := fun k o' hk hl e he hb => by
  have mono : ∀ j, l.getD j false = true → (l.setIfInBounds i true).getD j false = true := fun j hj => by
    by_cases e : i = j
    · subst e
      have : i < l.size := by
        rcases Nat.lt_or_ge i l.size with h | h
        · exact h
        · rw [Array.getD_eq_getD_getElem?, Array.getElem?_eq_none h] at hj; cases hj
      exact getD_set_eq this
    · rw [getD_set_ne e]; exact hj
  by_cases hik : i = k
  · subst hik
    rw [ho] at hk
    cases hk
    exact mono _ (hpre e he hb)
  · rw [getD_set_ne hik] at hl
    exact mono _ (h k o' hk hl e he hb)
/-- One operation waits for another one. -/
def waitsB (ops : Array Oper) (i j : Nat) : Bool := match ops[i]? with | some o => o.after.toList.any (fun e => Region.binds .any e && e.on == j) | none => true
theorem waitsB_of {ops : Array Oper} {i j : Nat} (h : waitsB ops i j = true) {o : Oper} (ho : ops[i]? = some o) : ∃ e ∈ o.after.toList, Region.binds .any e = true ∧ e.on = j := by
  unfold waitsB at h
  rw [ho] at h
  obtain ⟨e, he, h2⟩ := List.any_eq_true.1 h
  rw [Bool.and_eq_true, beq_iff_eq] at h2
  exact ⟨e, he, h2.1, h2.2⟩
theorem wpIn_region_grow3 {F : Fence} {n : Nat} {P : Program} {id : Nat} {ops : Array Oper} {Q : Exit → Act → World → Prop} {a : Act} {w : World} (hm : P.follows .mixedOrders = true) (mk : List Value → Act) (PS : List (Value → World → Prop)) (zs0 : List Value) (R R2 : Act → World → Prop)
    (hN : ops.size = PS.length + 3) (hz0 : zs0.length = PS.length) (ha : a = mk zs0) (hst : ∀ p ∈ PS, Stable p)
    (hac' : acB ops = true) (hcov : coverB ops PS.length = true) (hw1 : waitsB ops (PS.length + 1) PS.length = true) (hw2 : waitsB ops (PS.length + 2) (PS.length + 1) = true)
    (hstep : ∀ i, i < PS.length → StepOkIn F n P ops Q mk w PS i)
    (happ : ∀ zs wz, zs.length = PS.length → Below w.heap.size w wz → (∀ (j : Nat) (p : Value → World → Prop) (z : Value), PS[j]? = some p → zs[j]? = some z → p z wz) → wpOpIn F n P ops Q PS.length R (mk zs) wz)
    (hfin1 : ∀ a wz, R a wz → wpOpIn F n P ops Q (PS.length + 1) R2 a wz)
    (hfin2 : ∀ a wz, R2 a wz → wpOpIn F n P ops Q (PS.length + 2) (fun a' w' => Q .normal a' w') a wz) :
    (Code.region id ops true).wpIn F n P Q a w := by
  have hac := acB_of hac'
  refine wpIn_region_inv hm (fun l a wz => Shut ops l ∧ if l.getD (PS.length + 2) false = true then (∀ j, j < ops.size → l.getD j false = true) ∧ Q .normal a wz else if l.getD (PS.length + 1) false = true then (∀ j, j < PS.length + 2 → l.getD j false = true) ∧ R2 a wz else if l.getD PS.length false = true then (∀ j, j < PS.length + 1 → l.getD j false = true) ∧ R a wz else ∃ zs, zs.length = PS.length ∧ a = mk zs ∧ FF w PS zs l wz) ?_ ?_ ?_
  · have hz : ∀ k, (Array.replicate ops.size false).getD k false = false := fun k => by
      rw [Array.getD_eq_getD_getElem?, Array.getElem?_replicate]; split <;> rfl
    refine ⟨fun i o _ hl => (by rw [hz] at hl; cases hl), ?_⟩
    rw [hz, if_neg (by decide), hz, if_neg (by decide), hz, if_neg (by decide)]
    refine ⟨zs0, hz0, ha, (Below.refl _ _).drew, fun j p z _ _ hL => ?_⟩
    rw [hz] at hL
    cases hL
  · intro l a wz i hl hi hI
    obtain ⟨hli, o, ho, hpre⟩ := ready_mem hi
    have hi' : i < ops.size := (Array.getElem?_eq_some_iff.1 ho).1
    have hfree : l.getD i false = false := by
      rw [Array.getD_eq_getD_getElem?, Array.getElem?_eq_getElem (by omega)] at hli ⊢
      exact hli
    obtain ⟨hS, hI⟩ := hI
    have hS' := hS.step ho hpre
    by_cases hlast : l.getD (PS.length + 2) false = true
    · exfalso
      rw [if_pos hlast] at hI
      rw [hI.1 i hi'] at hfree
      cases hfree
    · rw [if_neg hlast] at hI
      by_cases hmid2 : l.getD (PS.length + 1) false = true
      · rw [if_pos hmid2] at hI
        have e : i = PS.length + 2 := by
          rcases Nat.lt_or_ge i (PS.length + 2) with h | h
          · rw [hI.1 i h] at hfree; cases hfree
          · omega
        subst e
        refine wpOpIn_mono (fun a' w' h => ?_) (hfin2 a wz hI.2)
        refine ⟨hS', ?_⟩
        rw [if_pos (getD_set_eq (by omega))]
        refine ⟨fun j hj => ?_, h⟩
        by_cases hjN : PS.length + 2 = j
        · subst hjN; exact getD_set_eq (by omega)
        · rw [getD_set_ne hjN]; exact hI.1 j (by omega)
      · rw [if_neg hmid2] at hI
        by_cases hmid : l.getD PS.length false = true
        · rw [if_pos hmid] at hI
          have e : i = PS.length + 1 := by
            rcases Nat.lt_or_ge i (PS.length + 1) with h | h
            · rw [hI.1 i h] at hfree; cases hfree
            · by_cases e2 : i = PS.length + 2
              · subst e2
                obtain ⟨e3, he3, hb3, hej⟩ := waitsB_of hw2 ho
                have := hpre e3 he3 hb3
                rw [hej] at this
                exact absurd this hmid2
              · omega
          subst e
          refine wpOpIn_mono (fun a' w' h => ?_) (hfin1 a wz hI.2)
          refine ⟨hS', ?_⟩
          rw [getD_set_ne (by omega), if_neg hlast, if_pos (getD_set_eq (by omega))]
          refine ⟨fun j hj => ?_, h⟩
          by_cases hjN : PS.length + 1 = j
          · subst hjN; exact getD_set_eq (by omega)
          · rw [getD_set_ne hjN]; exact hI.1 j (by omega)
        · rw [if_neg hmid] at hI
          obtain ⟨zs, hzl, rfl, hF⟩ := hI
          rcases Nat.lt_or_ge i PS.length with hlt | hge
          · refine wpOpIn_mono (fun a' w' h => ?_) (hstep i hlt zs l wz o hzl hF ho hpre)
            obtain ⟨v, rfl, hb, hv⟩ := h
            refine ⟨hS', ?_⟩
            rw [getD_set_ne (by omega), if_neg hlast, getD_set_ne (by omega), if_neg hmid2, getD_set_ne (by omega), if_neg hmid]
            exact ⟨zs.set i v, by simpa using hzl, rfl, hF.step hst (by omega) hb hv⟩
          · by_cases e : i = PS.length
            · subst e
              have hev := shut_all hcov hS ho hpre
              refine wpOpIn_mono (fun a' w' h => ?_) (happ zs wz hzl hF.bel (fun j p z hj hz => hF.fact j p z hj hz (hev j (List.getElem?_eq_some_iff.1 hj).1)))
              refine ⟨hS', ?_⟩
              rw [getD_set_ne (by omega), if_neg hlast, getD_set_ne (by omega), if_neg hmid2, if_pos (getD_set_eq (by omega))]
              refine ⟨fun j hj => ?_, h⟩
              by_cases hjN : PS.length = j
              · subst hjN; exact getD_set_eq (by omega)
              · rw [getD_set_ne hjN]; exact hev j (by omega)
            · exfalso
              rcases (show i = PS.length + 1 ∨ i = PS.length + 2 by omega) with e2 | e2
              · subst e2
                obtain ⟨e3, he3, hb3, hej⟩ := waitsB_of hw1 ho
                have := hpre e3 he3 hb3
                rw [hej] at this
                exact hmid this
              · subst e2
                obtain ⟨e3, he3, hb3, hej⟩ := waitsB_of hw2 ho
                have := hpre e3 he3 hb3
                rw [hej] at this
                exact hmid2 this
  · intro l a wz hl hr hI
    have := all_run hac hl hr (PS.length + 2) (by omega)
    obtain ⟨hS, hI⟩ := hI
    rw [if_pos this] at hI
    exact hI.2
/-- An operation of such a region outside of a round. -/
theorem wpOpW_here {n : Nat} {P : Program} {ops : Array Oper} {Q : Exit → Act → World → Prop} {i : Nat} {K : Act → World → Prop} {a : Act} {w : World} {o : Oper} (ho : ops[i]? = some o)
    (h : ∀ K' : Act → World → Prop, (∀ a w, K a w → K' a w) → if Region.wanted o (yielded ops a.tmps) = true then Oper.wp P o a w K' Q else K' (a.put o.dst undef) w) : wpOpIn Fence.wide n P ops Q i K a w := by
  have := h K (fun _ _ h => h)
  unfold wpOpIn
  rw [ho]
  by_cases hw : Region.wanted o (yielded ops a.tmps) = true
  · rw [if_pos hw] at this
    simp only [hw, if_true]
    refine ⟨fun f _ => trivial, ?_⟩
    show Oper.uponIn _ _ _ _ _ _ _ ((execOp a.eval o).run P w)
    unfold Oper.wp at this
    generalize (execOp a.eval o).run P w = r at *
    cases r with
    | ok x w' =>
      cases x <;> simp only [Oper.upon, Oper.uponIn] at this ⊢ <;>
        first
          | exact this
          | exact this.elim
          | exact ⟨(fun h => by simp [Fence.wide] at h), (callsIn_wide (n := n - 1)).2 this⟩
          | exact ⟨(fun h => by simp [Fence.wide] at h), fun c cs _ => let ⟨v, w', r, s⟩ := this c cs; ⟨v, w', r, stepsIn_wide.2 s⟩⟩
    | halt x w' => cases x <;> simp only [Oper.upon, Oper.uponIn] at this ⊢ <;> exact this
  · rw [if_neg hw] at this
    simp only [hw]
    exact ⟨fun f _ => trivial, this⟩
/-- A call of yield in such a region. -/
theorem wpOpW_yield {n : Nat} {P : Program} {ops : Array Oper} {Q : Exit → Act → World → Prop} {i : Nat} {K : Act → World → Prop} {a : Act} {w : World} {o : Oper} (ho : ops[i]? = some o) (hw : Region.wanted o (yielded ops a.tmps) = true)
    {l : Nat} {fn : FuncId} {tmps : Array Value} {assign body : Code} (hr : (execOp a.eval o).run P w = .ok (.round l fn tmps assign body) w)
    (hR : RoundIn Fence.wide (n - 1) P l fn tmps assign body w fun e w' => match e with | .returned v => K (a.put o.dst v) w' | .panicked chain => Q (.panic chain) a w' | .outgrown => LetsOut Q) : wpOpIn Fence.wide n P ops Q i K a w := by
  unfold wpOpIn
  rw [ho]
  simp only [hw, if_true]
  refine ⟨fun f _ => trivial, ?_⟩
  show Oper.uponIn _ _ _ _ _ _ _ ((execOp a.eval o).run P w)
  rw [hr]
  exact ⟨fun h => by simp [Fence.wide] at h, hR.mono fun e w' h => by cases e <;> exact h⟩
/-- A drawn region in a round that only makes memory. -/
theorem wpIn_region_grow_all {F : Fence} {n : Nat} {P : Program} {id : Nat} {ops : Array Oper} {Q : Exit → Act → World → Prop} {a : Act} {w : World} (hm : P.follows .mixedOrders = true) (mk : List Value → Act) (PS : List (Value → World → Prop)) (zs0 : List Value)
    (hN : ops.size = PS.length) (hz0 : zs0.length = PS.length) (ha : a = mk zs0) (hst : ∀ p ∈ PS, Stable p)
    (hac' : acB ops = true)
    (hstep : ∀ i, i < PS.length → StepOkIn F n P ops Q mk w PS i)
    (hfin : ∀ zs wz, zs.length = PS.length → Below w.heap.size w wz → (∀ (j : Nat) (p : Value → World → Prop) (z : Value), PS[j]? = some p → zs[j]? = some z → p z wz) → Q .normal (mk zs) wz) :
    (Code.region id ops true).wpIn F n P Q a w := by
  have hac := acB_of hac'
  refine wpIn_region_inv hm (fun l a wz => ∃ zs, zs.length = PS.length ∧ a = mk zs ∧ FF w PS zs l wz) ?_ ?_ ?_
  · refine ⟨zs0, hz0, ha, (Below.refl _ _).drew, fun j p z _ _ hL => ?_⟩
    rw [Array.getD_eq_getD_getElem?, Array.getElem?_replicate] at hL
    split at hL <;> cases hL
  · intro l a wz i hl hi hI
    obtain ⟨hli, o, ho, hpre⟩ := ready_mem hi
    have hi' : i < ops.size := (Array.getElem?_eq_some_iff.1 ho).1
    obtain ⟨zs, hzl, rfl, hF⟩ := hI
    refine wpOpIn_mono (fun a' w' h => ?_) (hstep i (by omega) zs l wz o hzl hF ho hpre)
    obtain ⟨v, rfl, hb, hv⟩ := h
    exact ⟨zs.set i v, by simpa using hzl, rfl, hF.step hst (by omega) hb hv⟩
  · intro l a wz hl hr hI
    obtain ⟨zs, hzl, rfl, hF⟩ := hI
    have := all_run hac hl hr
    refine hfin zs wz hzl hF.bel (fun j p z hj hz => hF.fact j p z hj hz (this j ?_))
    have := (List.getElem?_eq_some_iff.1 hj).1
    omega
end Go.Proofs.Ytnpbkjmlmdpggaa.Ly
