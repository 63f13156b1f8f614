import Derived.Test.YtkmiemaigalgpaaQuoB
import Derived.Test.YtkmiemaigalgpaaDecA
import Derived.Lib.MinMax
/- Plain: JSON values, and which are the same (of stage 4's text what stage 5 needs). -/
set_option linter.unusedVariables false
set_option linter.unusedSimpArgs false
namespace Go.Proofs.Ytkmiemaigalgpaa.Lex
open Go.RowKit
theorem bs_size (F : List UInt8) : (⟨F.toArray⟩ : ByteArray).size = F.length := List.size_toArray
def Ret (v : Value) (w : World) (e : Ending) (w' : World) : Prop := e = .returned v ∧ Below w.heap.size w w'
theorem two_new (w : World) (o1 o2 : Obj) : ((w.alloc o1).alloc o2).heap[w.heap.size + 1]? = some o2 := by simpa using heap_alloc_new (w.alloc o1) o2
end Go.Proofs.Ytkmiemaigalgpaa.Lex
namespace Go.Proofs.Ytkmiemaigalgpaa.Js
open Lex

/-- A JSON value: its kind, its number's parts, its text, its names, its items. -/
inductive J where
  | mk (k m e : Int) (t : List UInt8) (ns : List (List UInt8)) (is : List J)
def j0 : J := .mk 0 0 0 [] [] []
def J.k : J → Int | .mk k _ _ _ _ _ => k
def J.m : J → Int | .mk _ m _ _ _ _ => m
def J.e : J → Int | .mk _ _ e _ _ _ => e
def J.t : J → List UInt8 | .mk _ _ _ t _ _ => t
def J.ns : J → List (List UInt8) | .mk _ _ _ _ ns _ => ns
def J.is : J → List J | .mk _ _ _ _ _ is => is

mutual
def sameJ : J → J → Bool
  | .mk k m e t ns is, .mk k' m' e' t' ns' is' => (k == k' && (m == m' && e == e')) && (t == t' && (ns == ns' && sameL is is'))
def sameL : List J → List J → Bool
  | [], [] => true
  | x :: r, y :: s => sameJ x y && sameL r s
  | [], _ :: _ => false
  | _ :: _, [] => false
end
mutual
theorem sameJ_iff : ∀ a b : J, sameJ a b = true ↔ a = b
  | .mk k m e t ns is, .mk k' m' e' t' ns' is' => by
    rw [sameJ]
    simp only [Bool.and_eq_true, beq_iff_eq, J.mk.injEq, sameL_iff is is']
    constructor
    · rintro ⟨⟨h1, h2, h3⟩, h4, h5, h6⟩; exact ⟨h1, h2, h3, h4, h5, h6⟩
    · rintro ⟨h1, h2, h3, h4, h5, h6⟩; exact ⟨⟨h1, h2, h3⟩, h4, h5, h6⟩
theorem sameL_iff : ∀ a b : List J, sameL a b = true ↔ a = b
  | [], [] => by simp [sameL]
  | x :: r, y :: s => by rw [sameL, Bool.and_eq_true, sameJ_iff x y, sameL_iff r s, List.cons.injEq]
  | [], y :: s => by simp [sameL]
  | x :: r, [] => by simp [sameL]
end
theorem sameJ_refl (a : J) : sameJ a a = true := (sameJ_iff a a).2 rfl
theorem sameL_len : ∀ {a b : List J}, a.length ≠ b.length → sameL a b = false
  | [], [], h => absurd rfl h
  | x :: r, y :: s, h => by rw [sameL, sameL_len (a := r) (b := s) (by simpa using h), Bool.and_false]
  | [], y :: s, _ => by rw [sameL]
  | x :: r, [], _ => by rw [sameL]

end Go.Proofs.Ytkmiemaigalgpaa.Js
