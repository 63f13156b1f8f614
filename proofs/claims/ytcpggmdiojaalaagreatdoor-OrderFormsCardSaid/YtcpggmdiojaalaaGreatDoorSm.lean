import Derived.Test.YtcpggmdiojaalaaGreatDoorRt2
/- The contracts of Same and of what it calls. -/
set_option linter.unusedVariables false
set_option linter.unusedSimpArgs false
namespace Go.Proofs.YtcpggmdiojaalaaGreatDoor.Js
open Go.RowKit Lex

theorem drop_beq {α : Type} [BEq α] [LawfulBEq α] (a b : List α) (k : Nat) (z : α) (ha : k < a.length) (hb : k < b.length) : (a.drop k == b.drop k) = ((a.getD k z == b.getD k z) && (a.drop (k + 1) == b.drop (k + 1))) := by
  rw [List.drop_eq_getElem_cons ha, List.drop_eq_getElem_cons hb, List.getD_eq_getElem?_getD, List.getElem?_eq_getElem ha, Option.getD_some, List.getD_eq_getElem?_getD, List.getElem?_eq_getElem hb, Option.getD_some]
  rfl
theorem len_bne {α : Type} [BEq α] [LawfulBEq α] {a b : List α} (h : a.length ≠ b.length) : (a == b) = false := by
  rw [Bool.eq_false_iff]
  intro he
  rw [beq_iff_eq] at he
  exact h (by rw [he])
theorem two_old (w : World) (o1 o2 : Obj) : ((w.alloc o1).alloc o2).heap[w.heap.size]? = some o1 := by
  rw [Below.heap_alloc _ _ _ (by simp)]; exact heap_alloc_new w o1
theorem box_at {w w1 : World} {B : Nat} (hb : Below B w w1) {b : Nat} {cs : Array Value} {T : TypeId} {f : Nat × Nat} (h : w.heap[b]? = some (.cells cs T f)) (hB : b < B) (i : Nat) : w1.cell? ⟨b, i, none⟩ = cs[i]? := by
  rw [hb.cell (p := ⟨b, i, none⟩) hB]
  exact cell_of_row _ _ _ _ _ _ h
theorem sameL_step (a b : List J) (k : Nat) (ha : k < a.length) (hb : k < b.length) : sameL (a.drop k) (b.drop k) = (sameJ (a.getD k j0) (b.getD k j0) && sameL (a.drop (k + 1)) (b.drop (k + 1))) := by
  rw [List.drop_eq_getElem_cons ha, List.drop_eq_getElem_cons hb, List.getD_eq_getElem?_getD, List.getElem?_eq_getElem ha, Option.getD_some, List.getD_eq_getElem?_getD, List.getElem?_eq_getElem hb, Option.getD_some, sameL]
/-- Items that lie somewhere. -/
def ItemsAt (S : Nat → Prop) (w : World) (d : Nat) (ai : Option Addr) (is : List J) : Prop :=
  0 < is.length → ∃ b off, ai = some ⟨b, off, none⟩ ∧ S b ∧ b < w.heap.size ∧ ∀ i, i < is.length → ∃ u, LiesAt w b (off + i * 6) u ∧ JAt S w d u (is.getD i j0)
end Go.Proofs.YtcpggmdiojaalaaGreatDoor.Js
