import Derived.Test.YtafmnoeljefpaaaAr
import Derived.Test.YtafmnoeljefpaaaInv
/- A ledger of rows of one's own, no two of which share a block; what a drawn region's operations do to it. -/
set_option linter.unusedVariables false
set_option linter.unusedSimpArgs false
namespace Go.Proofs.Ytafmnoeljefpaaa.Js
open Go.RowKit Lex

structure Ob where
  live : Bool
  v : Value
  e : TypeId
  s : Nat
  n : Nat
  xs : List Value
structure Led (sz : Nat) (w : World) (os : List Ob) : Prop where
  row : ∀ (i : Nat) (o : Ob), os[i]? = some o → o.live = true → w.ownsRow sz o.e o.s o.v o.n o.xs
  two : ∀ (i j : Nat) (o p : Ob), i ≠ j → os[i]? = some o → os[j]? = some p → o.live = true → p.live = true → o.v.ownBlock = none ∨ o.v.ownBlock ≠ p.v.ownBlock
theorem own_lt {w : World} {base e s n : Nat} {v : Value} {xs : List Value} (h : w.ownsRow base e s v n xs) {g : Nat} (hg : v.ownBlock = some g) : g < w.heap.size := by
  rcases h.2 with ⟨rfl, _⟩ | ⟨g', cap, cur, rfl, _, hh, _⟩
  · cases hg
  · cases hg
    exact Own.block_lt hh
theorem get_set {α : Type} {os : List α} {k i : Nat} {o p : α} (h : (os.set k o)[i]? = some p) : (i = k ∧ p = o) ∨ (i ≠ k ∧ os[i]? = some p) := by
  rw [List.getElem?_set] at h
  by_cases e : k = i
  · subst e
    by_cases hl : k < os.length
    · simp [hl] at h
      exact .inl ⟨rfl, h.symm⟩
    · simp [hl] at h
  · rw [if_neg e] at h
    exact .inr ⟨fun x => e x.symm, h⟩
theorem Led.below {sz : Nat} {w w' : World} {os : List Ob} (h : Led sz w os) (hb : Below w.heap.size w w') : Led sz w' os :=
  ⟨fun i o ho hl => row_keep (h.row i o ho hl) (fun g _ hlt => hb.block g hlt), h.two⟩
/-- A new row comes in, in a block of its own, or none. -/
theorem Led.new {sz : Nat} {w w' : World} {os : List Ob} (h : Led sz w os) (hb : Below w.heap.size w w') (k : Nat) (o : Ob) (hr : w'.ownsRow sz o.e o.s o.v o.n o.xs) (hf : ∀ g, o.v.ownBlock = some g → w.heap.size ≤ g) : Led sz w' (os.set k o) := by
  refine ⟨fun i p hp hl => ?_, fun i j p q hij hp hq hl hl2 => ?_⟩
  · rcases get_set hp with ⟨_, rfl⟩ | ⟨_, hp⟩
    · exact hr
    · exact (h.below hb).row i p hp hl
  · rcases get_set hp with ⟨rfl, rfl⟩ | ⟨hi, hp2⟩
    · rcases get_set hq with ⟨rfl, rfl⟩ | ⟨hj, hq⟩
      · exact absurd rfl hij
      · cases ho : p.v.ownBlock with
        | none => exact .inl rfl
        | some g =>
          right
          intro e
          have h1 := hf g ho
          have h2 := own_lt (h.row j q hq hl2) e.symm
          omega
    · rcases get_set hq with ⟨rfl, rfl⟩ | ⟨hj, hq⟩
      · cases ho : p.v.ownBlock with
        | none => exact .inl rfl
        | some g =>
          right
          intro e
          have h1 := own_lt (h.row i p hp2 hl) ho
          have h2 := hf g e.symm
          omega
      · exact h.two i j p q hij hp2 hq hl hl2
/-- A row grows, where it is or into a new block. -/
theorem Led.grow {sz : Nat} {w w' : World} {os : List Ob} (h : Led sz w os) (k : Nat) (o p : Ob) (ho : os[k]? = some o) (hlv : o.live = true) (hr : w'.ownsRow sz p.e p.s p.v p.n p.xs) (hg : w.grownBy w' o.v.ownBlock) (hat : p.v.ownBlock = o.v.ownBlock ∨ p.v.ownBlock = some w.heap.size) : Led sz w' (os.set k p) := by
  have hkeep : ∀ (i : Nat) (q : Ob), i ≠ k → os[i]? = some q → q.live = true → w'.ownsRow sz q.e q.s q.v q.n q.xs := fun i q hi hq hl =>
    row_keep (h.row i q hq hl) (fun g hgb hlt => hg.block g hlt (by
      rcases h.two i k q o hi hq ho hl hlv with e | e
      · rw [e] at hgb; cases hgb
      · rw [← hgb]; exact e))
  refine ⟨fun i q hq hl => ?_, fun i j q r hij hq hr' hl hl2 => ?_⟩
  · rcases get_set hq with ⟨_, rfl⟩ | ⟨hi, hq⟩
    · exact hr
    · exact hkeep i q hi hq hl
  · have key : ∀ (i : Nat) (q : Ob), i ≠ k → os[i]? = some q → q.live = true → (q.v.ownBlock = none ∨ q.v.ownBlock ≠ p.v.ownBlock) ∧ (p.v.ownBlock = none ∨ p.v.ownBlock ≠ q.v.ownBlock) := fun i q hi hq hl => by
      rcases hat with e | e
      · rw [e]
        exact ⟨h.two i k q o hi hq ho hl hlv, h.two k i o q (fun x => hi x.symm) ho hq hlv hl⟩
      · rw [e]
        have hn : q.v.ownBlock ≠ some w.heap.size := fun x => by
          have := own_lt (h.row i q hq hl) x
          omega
        exact ⟨.inr hn, .inr (fun x => hn x.symm)⟩
    rcases get_set hq with ⟨rfl, rfl⟩ | ⟨hi, hq2⟩
    · rcases get_set hr' with ⟨rfl, rfl⟩ | ⟨hj, hr'⟩
      · exact absurd rfl hij
      · exact (key j r hj hr' hl2).2
    · rcases get_set hr' with ⟨rfl, rfl⟩ | ⟨hj, hr'⟩
      · exact (key i q hi hq2 hl).1
      · exact h.two i j q r hij hq2 hr' hl hl2
/-- All have run. -/
theorem all_run {ops : Array Oper} {l : Array Bool} {md : Region.Mode} (hac : ∀ (i : Nat) (o : Oper), ops[i]? = some o → ∀ e ∈ o.after.toList, e.on < i) (hs : l.size = ops.size) (hr : Region.ready md ops l = []) : ∀ i, i < ops.size → l.getD i false = true := by
  intro i
  induction i using Nat.strongRecOn with
  | ind i ih =>
    intro hi
    cases h : l.getD i false with
    | true => rfl
    | false =>
      exfalso
      have hm : i ∈ Region.ready md ops l := by
        unfold Region.ready
        rw [List.mem_filter]
        refine ⟨List.mem_range.2 hi, ?_⟩
        have h1 : l.getD i true = false := by
          rw [Array.getD_eq_getD_getElem?, Array.getElem?_eq_getElem (by omega)] at h ⊢
          exact h
        rw [h1, Array.getElem?_eq_getElem hi]
        simp only [Bool.not_false, Bool.true_and, Option.map_some, Option.getD_some]
        rw [Array.all_eq_true']
        intro e he
        have h2 := ih e.on (hac i _ (Array.getElem?_eq_getElem hi) e (by simpa using he)) (by
          have := hac i _ (Array.getElem?_eq_getElem hi) e (by simpa using he)
          omega)
        rw [h2, Bool.or_true]
      rw [hr] at hm
      cases hm
end Go.Proofs.Ytafmnoeljefpaaa.Js
