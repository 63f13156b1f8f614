import Derived.Test.YtnpbkjmlmdpggaaWe
import Derived.Test.YtnpbkjmlmdpggaaYf
/- A drawn region that only makes memory, but for a store into what it made, behind which some of its operations may still come, and a last one behind all. -/
set_option linter.unusedVariables false
set_option linter.unusedSimpArgs false
namespace Go.Proofs.Ytnpbkjmlmdpggaa.Ly
open Go.RowKit

/-- Each operation waits for earlier ones alone, where it must wait. -/
def acC (ops : Array Oper) : Bool := (List.range ops.size).all fun i => match ops[i]? with | some o => o.after.toList.all (fun e => !Region.binds .any e || decide (e.on < i)) | none => true
theorem acC_of {ops : Array Oper} (h : acC ops = true) : ∀ (i : Nat) (o : Oper), ops[i]? = some o → ∀ e ∈ o.after.toList, Region.binds .any e = true → e.on < i := fun i o ho e he hb => by
  have hi : i < ops.size := (Array.getElem?_eq_some_iff.1 ho).1
  have h1 := List.all_eq_true.1 h i (List.mem_range.2 hi)
  rw [ho] at h1
  have h2 := List.all_eq_true.1 h1 e he
  rw [hb] at h2
  simpa using h2
theorem all_runC {ops : Array Oper} {l : Array Bool} (hac : ∀ (i : Nat) (o : Oper), ops[i]? = some o → ∀ e ∈ o.after.toList, Region.binds .any e = true → e.on < i) (hs : l.size = ops.size) (hr : Region.ready .any ops l = []) : ∀ i, i < ops.size → l.getD i false = true := by
  intro i
  induction i using Nat.strongRecOn with
  | ind i ih =>
    intro hi
    cases h : l.getD i false with
    | true => rfl
    | false =>
      exfalso
      have hm : i ∈ Region.ready .any ops l := by
        unfold Region.ready
        rw [List.mem_filter]
        refine ⟨List.mem_range.2 hi, ?_⟩
        have h1 : l.getD i true = false := by
          rw [Array.getD_eq_getD_getElem?, Array.getElem?_eq_getElem (by omega)] at h ⊢
          exact h
        rw [h1, Array.getElem?_eq_getElem hi]
        simp only [Bool.not_false, Bool.true_and, Option.map_some, Option.getD_some]
        rw [Array.all_eq_true']
        intro e he
        cases hb : Region.binds .any e with
        | false => rfl
        | true =>
          have h3 := hac i _ (Array.getElem?_eq_getElem hi) e (by simpa using he) hb
          have h2 := ih e.on h3 (by omega)
          rw [h2, Bool.or_true]
      rw [hr] at hm
      cases hm
/-- An operation waits for all ahead of N, but some. -/
def waitsAllB (ops : Array Oper) (i N : Nat) (E : List Nat) : Bool := match ops[i]? with | some o => (List.range N).all (fun j => j == i || E.contains j || o.after.toList.any fun e => Region.binds .any e && e.on == j) | none => true
theorem waitsAllB_of {ops : Array Oper} {i N : Nat} {E : List Nat} (h : waitsAllB ops i N E = true) {o : Oper} (ho : ops[i]? = some o) {j : Nat} (hj : j < N) (h1 : j ≠ i) (h2 : j ∉ E) : ∃ e ∈ o.after.toList, Region.binds .any e = true ∧ e.on = j := by
  unfold waitsAllB at h
  rw [ho] at h
  have h3 := List.all_eq_true.1 h j (List.mem_range.2 hj)
  have e1 : (j == i) = false := by simpa using h1
  have e2 : E.contains j = false := by simpa using h2
  rw [e1, e2] at h3
  rw [Bool.false_or, Bool.false_or] at h3
  obtain ⟨e, he, h4⟩ := List.any_eq_true.1 h3
  rw [Bool.and_eq_true, beq_iff_eq] at h4
  exact ⟨e, he, h4.1, h4.2⟩
theorem getD_set2 {l : Array Bool} {i j : Nat} (h : (l.setIfInBounds i true).getD j false = true) (hne : i ≠ j) : l.getD j false = true := by rwa [getD_set_ne hne] at h
/-- What a step must show; those of AL make a block each. -/
def StepNew (P : Program) (ops : Array Oper) (Q : Exit → Act → World → Prop) (mk : List Value → Act) (w0 : World) (PS : List (Value → World → Prop)) (AL : List Nat) (i : Nat) : Prop :=
  ∀ zs l wz o, zs.length = PS.length → FF w0 PS zs l wz → ops[i]? = some o → (∀ e ∈ o.after.toList, Region.binds .any e = true → l.getD e.on false = true) →
    wpOp P ops Q i (fun a' w' => ∃ v, a' = mk (zs.set i v) ∧ Below wz.heap.size wz w' ∧ (∀ p, PS[i]? = some p → p v w') ∧ (i ∈ AL → ∃ b, v = .pointer (some ⟨b, 0, none⟩) ∧ wz.heap.size ≤ b)) (mk zs) wz
theorem StepNew.of {P : Program} {ops : Array Oper} {Q : Exit → Act → World → Prop} {mk : List Value → Act} {w0 : World} {PS : List (Value → World → Prop)} {AL : List Nat} {i : Nat} (h : StepOk P ops Q mk w0 PS i) (hn : i ∉ AL) : StepNew P ops Q mk w0 PS AL i := fun zs l wz o h1 h2 h3 h4 =>
  wpOp_mono (fun a' w' ⟨v, k1, k2, k3⟩ => ⟨v, k1, k2, k3, fun h => absurd h hn⟩) (h zs l wz o h1 h2 h3 h4)
/-- Two of them made unlike blocks. -/
def Unlike (AL : List Nat) (zs : List Value) (l : Array Bool) : Prop := ∀ i j, i ∈ AL → j ∈ AL → i ≠ j → l.getD i false = true → l.getD j false = true → ∀ x y, zs[i]? = some x → zs[j]? = some y → x ≠ y
/-- The operation at S writes; E: those that may come behind it. -/
theorem wp_region_store {P : Program} {id : Nat} {ops : Array Oper} {Q : Exit → Act → World → Prop} {a : Act} {w : World} (hm : P.follows .mixedOrders = true) (mk : List Value → Act) (PS PS2 : List (Value → World → Prop)) (zs0 : List Value) (S : Nat) (E AL : List Nat)
    (hN : ops.size = PS.length + 1) (hl2 : PS2.length = PS.length) (hz0 : zs0.length = PS.length) (ha : a = mk zs0) (hmk : ∀ zs v, mk (zs.set S v) = mk zs) (hst : ∀ p ∈ PS, Stable p) (hst2 : ∀ p ∈ PS2, Stable p) (hS2 : ∀ p, PS2[S]? = some p → ∀ z w, p z w)
    (hac' : acC ops = true) (hS : S < PS.length) (hAL : ∀ i ∈ AL, i < PS.length ∧ i ≠ S ∧ i ∉ E) (hnew : ∀ i ∈ AL, ∀ p, PS[i]? = some p → ∀ z wz, p z wz → ∃ b, z = .pointer (some ⟨b, 0, none⟩) ∧ b < wz.heap.size) (hwS : waitsAllB ops S PS.length E = true) (hall' : lastB ops PS.length = true)
    (hstep : ∀ i, i < PS.length → i ≠ S → StepNew P ops Q mk w PS AL i)
    (hstepE : ∀ i, i ∈ E → i < PS.length → StepOk P ops Q mk w PS2 i)
    (hstore : ∀ zs wz, zs.length = PS.length → Below w.heap.size w wz → (∀ (j : Nat) (p : Value → World → Prop) (z : Value), j ≠ S → j ∉ E → PS[j]? = some p → zs[j]? = some z → p z wz) → (∀ i j, i ∈ AL → j ∈ AL → i ≠ j → ∀ x y, zs[i]? = some x → zs[j]? = some y → x ≠ y) →
      wpOp P ops Q S (fun a' w' => a' = mk zs ∧ Below w.heap.size w w' ∧ ∀ (j : Nat) (p p2 : Value → World → Prop) (z : Value), j ≠ S → PS[j]? = some p → PS2[j]? = some p2 → zs[j]? = some z → p z wz → p2 z w') (mk zs) wz)
    (hfin : ∀ zs wz, zs.length = PS.length → Below w.heap.size w wz → (∀ (j : Nat) (p : Value → World → Prop) (z : Value), j ≠ S → PS2[j]? = some p → zs[j]? = some z → p z wz) → wpOp P ops Q PS.length (fun a' w' => Q .normal a' w') (mk zs) wz) :
    (Code.region id ops true).wp P Q a w := by
  have hac := acC_of hac'
  have hall := lastB_of hall'
  refine wp_region_inv hm (fun l a wz => if l.getD PS.length false = true then (∀ j, j < ops.size → l.getD j false = true) ∧ Q .normal a wz else ∃ zs, zs.length = PS.length ∧ a = mk zs ∧ Below w.heap.size w wz ∧
      if l.getD S false = true then (∀ j, j < PS.length → j ∉ E → l.getD j false = true) ∧ ∀ (j : Nat) (p : Value → World → Prop) (z : Value), j ≠ S → PS2[j]? = some p → zs[j]? = some z → l.getD j false = true → p z wz
      else (∀ (j : Nat) (p : Value → World → Prop) (z : Value), PS[j]? = some p → zs[j]? = some z → l.getD j false = true → p z wz) ∧ Unlike AL zs l) ?_ ?_ ?_
  · have hz : ∀ k, (Array.replicate ops.size false).getD k false = false := fun k => by
      rw [Array.getD_eq_getD_getElem?, Array.getElem?_replicate]; split <;> rfl
    rw [hz, if_neg (by decide)]
    refine ⟨zs0, hz0, ha, (Below.refl _ _).drew, ?_⟩
    rw [hz, if_neg (by decide)]
    refine ⟨?_, fun i j _ _ _ hL => by rw [hz] at hL; cases hL⟩
    intro j p z _ _ hL
    rw [hz] at hL
    cases hL
  · intro l a wz i hl hi hI
    obtain ⟨hli, o, ho, hpre⟩ := ready_mem hi
    have hi' : i < ops.size := (Array.getElem?_eq_some_iff.1 ho).1
    have hfree : l.getD i false = false := by
      rw [Array.getD_eq_getD_getElem?, Array.getElem?_eq_getElem (by omega)] at hli ⊢
      exact hli
    by_cases hlast : l.getD PS.length false = true
    · exfalso
      rw [if_pos hlast] at hI
      rw [hI.1 i hi'] at hfree
      cases hfree
    · rw [if_neg hlast] at hI
      obtain ⟨zs, hzl, rfl, hB, hI⟩ := hI
      by_cases e : i = PS.length
      · subst e
        have hrun : ∀ j, j < PS.length → l.getD j false = true := fun j hj => by
          obtain ⟨e, he, hb, hej⟩ := hall o ho j hj
          rw [← hej]; exact hpre e he hb
        rw [if_pos (hrun S hS)] at hI
        refine wpOp_mono (fun a' w' h => ?_) (hfin zs wz hzl hB (fun j p z h1 h2 h3 => hI.2 j p z h1 h2 h3 (hrun j (by rw [← hl2]; exact (List.getElem?_eq_some_iff.1 h2).1))))
        rw [if_pos (getD_set_eq (by omega))]
        refine ⟨fun j hj => ?_, h⟩
        by_cases hjN : PS.length = j
        · subst hjN; exact getD_set_eq (by omega)
        · rw [getD_set_ne hjN]; exact hrun j (by omega)
      · have hiN : i < PS.length := by omega
        by_cases hs : l.getD S false = true
        · rw [if_pos hs] at hI
          have hiE : i ∈ E := by
            apply Classical.byContradiction
            intro hn
            rw [hI.1 i hiN hn] at hfree
            cases hfree
          have hiS : i ≠ S := fun e => by rw [e, hs] at hfree; cases hfree
          have hF2 : ∀ v w', Below wz.heap.size wz w' → (∀ p, PS2[i]? = some p → p v w') → ∀ (j : Nat) (p : Value → World → Prop) (z : Value), j ≠ S → PS2[j]? = some p → (zs.set i v)[j]? = some z → (l.setIfInBounds i true).getD j false = true → p z w' := fun v w' hb hv j p z h1 h2 h3 h4 => by
            by_cases ej : i = j
            · subst ej
              rw [List.getElem?_set_self (by omega)] at h3
              cases h3
              exact hv p h2
            · rw [List.getElem?_set_ne ej] at h3
              exact hst2 p (List.mem_of_getElem? h2) z wz w' (hI.2 j p z h1 h2 h3 (getD_set2 h4 ej)) hb
          have hF0 : FF w PS2 zs l wz := ⟨hB, fun j p z hj hz hL => by
            by_cases ej : S = j
            · subst ej
              exact hS2 p hj z wz
            · exact hI.2 j p z (fun e => ej e.symm) hj hz hL⟩
          refine wpOp_mono (fun a' w' h => ?_) (hstepE i hiE hiN zs l wz o (by rw [hzl, hl2]) hF0 ho hpre)
          obtain ⟨v, rfl, hb, hv⟩ := h
          rw [getD_set_ne e, if_neg hlast]
          refine ⟨zs.set i v, by simpa using hzl, rfl, hB.trans (hb.mono hB.size), ?_⟩
          rw [getD_set_ne hiS, if_pos hs]
          exact ⟨fun j hj hn => by
            by_cases ej : i = j
            · subst ej; exact getD_set_eq (by omega)
            · rw [getD_set_ne ej]; exact hI.1 j hj hn, hF2 v w' hb hv⟩
        · rw [if_neg hs] at hI
          by_cases eS : i = S
          · subst eS
            have hrun : ∀ j, j < PS.length → j ≠ i → j ∉ E → l.getD j false = true := fun j hj h1 h2 => by
              obtain ⟨e, he, hb, hej⟩ := waitsAllB_of hwS ho hj h1 h2
              rw [← hej]; exact hpre e he hb
            refine wpOp_mono (fun a' w' h => ?_) (hstore zs wz hzl hB (fun j p z h1 h2 h3 h4 => hI.1 j p z h3 h4 (hrun j (List.getElem?_eq_some_iff.1 h3).1 h1 h2)) (fun i' j' h1 h2 h3 => hI.2 i' j' h1 h2 h3 (hrun i' (hAL i' h1).1 (hAL i' h1).2.1 (hAL i' h1).2.2) (hrun j' (hAL j' h2).1 (hAL j' h2).2.1 (hAL j' h2).2.2)))
            obtain ⟨rfl, hb, hv⟩ := h
            rw [getD_set_ne e, if_neg hlast]
            refine ⟨zs, hzl, rfl, hb, ?_⟩
            rw [if_pos (getD_set_eq (by omega))]
            refine ⟨fun j hj hn => ?_, fun j p z h1 h2 h3 h4 => ?_⟩
            · by_cases ej : i = j
              · subst ej; exact getD_set_eq (by omega)
              · rw [getD_set_ne ej]; exact hrun j hj (fun e => ej e.symm) hn
            · have hjl : j < PS.length := by rw [← hl2]; exact (List.getElem?_eq_some_iff.1 h2).1
              exact hv j _ p z h1 (List.getElem?_eq_getElem hjl) h2 h3 (hI.1 j _ z (List.getElem?_eq_getElem hjl) h3 (getD_set2 h4 (fun e => h1 e.symm)))
          · have hF : FF w PS zs l wz := ⟨hB, fun j p z hj hz hL => hI.1 j p z hj hz hL⟩
            refine wpOp_mono (fun a' w' h => ?_) (hstep i hiN eS zs l wz o hzl hF ho hpre)
            obtain ⟨v, rfl, hb, hv, hnv⟩ := h
            rw [getD_set_ne e, if_neg hlast]
            refine ⟨zs.set i v, by simpa using hzl, rfl, hB.trans (hb.mono hB.size), ?_⟩
            rw [getD_set_ne eS, if_neg hs]
            refine ⟨(hF.step hst (by omega) hb hv).fact, ?_⟩
            have old : ∀ j y, j ∈ AL → i ≠ j → (l.setIfInBounds i true).getD j false = true → (zs.set i v)[j]? = some y → ∃ b, y = .pointer (some ⟨b, 0, none⟩) ∧ b < wz.heap.size := fun j y hj ej hL hy => by
              rw [List.getElem?_set_ne ej] at hy
              exact hnew j hj _ (List.getElem?_eq_getElem (hAL j hj).1) y wz (hI.1 j _ y (List.getElem?_eq_getElem (hAL j hj).1) hy (getD_set2 hL ej))
            intro i' j' h1 h2 h3 hL1 hL2 x y hx hy
            by_cases e1 : i = i'
            · subst e1
              obtain ⟨b, hb1, hb2⟩ := hnv h1
              rw [List.getElem?_set_self (by omega)] at hx
              cases hx
              obtain ⟨b', hb1', hb2'⟩ := old j' y h2 h3 hL2 hy
              intro exy
              rw [hb1, hb1'] at exy
              simp only [Value.pointer.injEq, Option.some.injEq, Addr.mk.injEq] at exy
              omega
            · by_cases e2 : i = j'
              · subst e2
                obtain ⟨b, hb1, hb2⟩ := hnv h2
                rw [List.getElem?_set_self (by omega)] at hy
                cases hy
                obtain ⟨b', hb1', hb2'⟩ := old i' x h1 e1 hL1 hx
                intro exy
                rw [hb1, hb1'] at exy
                simp only [Value.pointer.injEq, Option.some.injEq, Addr.mk.injEq] at exy
                omega
              · rw [List.getElem?_set_ne e1] at hx
                rw [List.getElem?_set_ne e2] at hy
                exact hI.2 i' j' h1 h2 h3 (getD_set2 hL1 e1) (getD_set2 hL2 e2) x y hx hy
  · intro l a wz hl hr hI
    have := all_runC hac hl hr PS.length (by omega)
    rw [if_pos this] at hI
    exact hI.2
/-- A block that was made, with its row. -/
def NewB (B : Nat) (T : TypeId) (row : Array Value) (z : Value) (w : World) : Prop := ∃ b, z = .pointer (some ⟨b, 0, none⟩) ∧ B ≤ b ∧ w.heap[b]? = some (.cells row T (0, 0))
theorem NewB.stable (B : Nat) (T : TypeId) (row : Array Value) : Stable (NewB B T row) := fun z w w' ⟨b, hz, h1, hb⟩ hB => ⟨b, hz, h1, (hB.block b (Array.getElem?_eq_some_iff.1 hb).1).trans hb⟩
theorem NewB.lt {B : Nat} {T : TypeId} {row : Array Value} {z : Value} {w : World} (h : NewB B T row z w) : ∃ b, z = .pointer (some ⟨b, 0, none⟩) ∧ b < w.heap.size := by
  obtain ⟨b, hz, _, hb⟩ := h
  exact ⟨b, hz, (Array.getElem?_eq_some_iff.1 hb).1⟩
theorem stable_true : Stable (fun _ _ => True) := fun _ _ _ _ _ => trivial
end Go.Proofs.Ytnpbkjmlmdpggaa.Ly
