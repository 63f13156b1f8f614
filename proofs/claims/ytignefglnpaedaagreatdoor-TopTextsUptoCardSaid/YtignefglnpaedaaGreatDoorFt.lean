import Derived.Test.YtignefglnpaedaaGreatDoorLDeep
import Derived.Test.YtignefglnpaedaaGreatDoorQuoB
/- Raw values: what Fit makes of them, and how they lie in memory. -/
set_option linter.unusedVariables false
set_option linter.unusedSimpArgs false
namespace Go.Proofs.YtignefglnpaedaaGreatDoor.Js
open Go.RowKit Lex
open Quo (pickS pickS_nonneg pickS_lt IntsAt textR)

/-- A raw value. -/
inductive RT where
  | mk (k m e : Int) (t : List Int) (is : List RT)
def rt0 : RT := .mk 0 0 0 [] []
def RT.txt : RT → List Int
  | .mk _ _ _ t _ => t
/-- A raw value's name. -/
def nameR (r : RT) : List UInt8 := Quo.flat (textR (r.txt.take 8))
/-- Items, and in objects their names, each once. -/
def fitL (f : RT → J) (ob : Bool) : List RT → List (List UInt8) → List J → List (List UInt8) × List J
  | [], ns, is => (ns, is)
  | y :: l, ns, is => if ob = true ∧ nameR y ∈ ns then fitL f ob l ns is else fitL f ob l (if ob = true then ns ++ [nameR y] else ns) (is ++ [f y])
def fitJ : Nat → RT → J
  | 0, .mk k m e t is =>
    if 1 + pickS k 7 = 4 then .mk 4 (Dec.fitM m) (Dec.fitE m e) [] [] [] else if 1 + pickS k 7 = 5 then .mk 5 0 0 (Quo.flat (textR (t.take 20))) [] [] else .mk (1 + pickS k 7) 0 0 [] [] []
  | n + 1, .mk k m e t is =>
    if 1 + pickS k 7 = 4 then .mk 4 (Dec.fitM m) (Dec.fitE m e) [] [] [] else if 1 + pickS k 7 = 5 then .mk 5 0 0 (Quo.flat (textR (t.take 20))) [] []
    else if 1 + pickS k 7 = 6 ∨ 1 + pickS k 7 = 7 then .mk (1 + pickS k 7) 0 0 [] (fitL (fitJ n) (decide (1 + pickS k 7 = 7)) (is.take 12) [] []).1 (fitL (fitJ n) (decide (1 + pickS k 7 = 7)) (is.take 12) [] []).2
    else .mk (1 + pickS k 7) 0 0 [] [] []

/-- What holds of the list that Fit makes. -/
theorem fitL_all (f : RT → J) (ob : Bool) (P : J → Prop) : ∀ l ns is, (∀ y ∈ l, P (f y)) → (∀ i ∈ is, P i) → ∀ i ∈ (fitL f ob l ns is).2, P i
  | [], ns, is, _, h, i, hi => h i hi
  | y :: l, ns, is, h1, h2, i, hi => by
    rw [fitL] at hi
    split at hi
    · exact fitL_all f ob P l ns is (fun z hz => h1 z (List.mem_cons_of_mem _ hz)) h2 i hi
    · refine fitL_all f ob P l _ _ (fun z hz => h1 z (List.mem_cons_of_mem _ hz)) ?_ i hi
      intro x hx
      rcases List.mem_append.1 hx with hx | hx
      · exact h2 x hx
      · rw [List.mem_singleton.1 hx]; exact h1 y (List.mem_cons_self ..)
theorem fitL_names (f : RT → J) : ∀ l ns is, ns.Nodup → ns.length = is.length → (fitL f true l ns is).1.Nodup ∧ (fitL f true l ns is).1.length = (fitL f true l ns is).2.length
  | [], ns, is, h1, h2 => ⟨h1, h2⟩
  | y :: l, ns, is, h1, h2 => by
    rw [fitL]
    split
    · exact fitL_names f l ns is h1 h2
    · rename_i h
      rw [if_pos rfl]
      refine fitL_names f l _ _ ?_ (by simp; omega)
      refine List.nodup_append.2 ⟨h1, by simp, ?_⟩
      intro a ha b hb
      rw [List.mem_singleton.1 hb]
      rintro rfl
      exact h ⟨rfl, ha⟩
theorem fitL_none (f : RT → J) : ∀ l ns is, (fitL f false l ns is).1 = ns
  | [], ns, is => rfl
  | y :: l, ns, is => by
    rw [fitL, if_neg (by simp), if_neg (by decide)]
    exact fitL_none f l ns _
theorem fitL_namesP (f : RT → J) (P : List UInt8 → Prop) (hP : ∀ y, P (nameR y)) (ob : Bool) : ∀ l ns is, (∀ x ∈ ns, P x) → ∀ x ∈ (fitL f ob l ns is).1, P x
  | [], ns, is, h, x, hx => h x hx
  | y :: l, ns, is, h, x, hx => by
    rw [fitL] at hx
    split at hx
    · exact fitL_namesP f P hP ob l ns is h x hx
    · refine fitL_namesP f P hP ob l _ _ ?_ x hx
      intro z hz
      split at hz
      · rcases List.mem_append.1 hz with hz | hz
        · exact h z hz
        · rw [List.mem_singleton.1 hz]; exact hP y
      · exact h z hz
end Go.Proofs.YtignefglnpaedaaGreatDoor.Js
