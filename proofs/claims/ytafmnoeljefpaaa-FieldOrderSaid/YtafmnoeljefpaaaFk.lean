import Derived.Test.YtafmnoeljefpaaaFj
/- Layer 5: the contracts of Get and of List. -/
set_option linter.unusedVariables false
set_option linter.unusedSimpArgs false
namespace Go.Proofs.Ytafmnoeljefpaaa.Js
open Go.RowKit Lex

theorem ItemsAt.deep {S : Nat → Prop} {w : World} {d d' : Nat} {ai : Option Addr} {is : List J} (h : ItemsAt S w d ai is) (hd : d ≤ d') : ItemsAt S w d' ai is := fun hp => by
  obtain ⟨b, off, q1, q2, q3, q4⟩ := h hp
  exact ⟨b, off, q1, q2, q3, fun i hi => by obtain ⟨u, r1, r2⟩ := q4 i hi; exact ⟨u, r1, r2.deep hd⟩⟩
theorem zero_at {S : Nat → Prop} {w : World} {d : Nat} : JAt S w (d + 1) (.agg #[.int .i64 0, .int .i64 0, .int .i64 0, .string ⟨#[]⟩, .slice none 0 0, .slice none 0 0]) j0 := leaf_jat (t := []) ⟨by decide, by decide⟩ ⟨by decide, by decide⟩ ⟨by decide, by decide⟩ (by unfold txtB; simp)
theorem three_new {w w1 : World} {o1 o2 o3 : Obj} (hb : Below (((w.alloc o1).alloc o2).alloc o3).heap.size (((w.alloc o1).alloc o2).alloc o3) w1) :
    w1.heap[w.heap.size]? = some o1 ∧ w1.heap[w.heap.size + 1]? = some o2 ∧ w1.heap[w.heap.size + 1 + 1]? = some o3 ∧ w.heap.size + 2 < w1.heap.size ∧ Below w.heap.size w w1 := by
  have hs := hb.size
  simp at hs
  refine ⟨(hb.block _ (by simp <;> omega)).trans ?_, (hb.block _ (by simp <;> omega)).trans ?_, (hb.block _ (by simp <;> omega)).trans ?_, by omega, ((((Below.refl _ _).alloc (Nat.le_refl _) _).alloc (by simp) _).alloc (by simp; omega) _).trans (hb.mono (by simp; omega))⟩
  · rw [Below.heap_alloc _ _ _ (by simp; omega)]; exact two_old w o1 o2
  · rw [Below.heap_alloc _ _ _ (by simp)]; exact two_new w o1 o2
  · simpa using heap_alloc_new ((w.alloc o1).alloc o2) o3
theorem belowThree (w : World) (o1 o2 o3 : Obj) : Below w.heap.size w (((w.alloc o1).alloc o2).alloc o3) := (((Below.refl _ _).alloc (Nat.le_refl _) _).alloc (by simp) _).alloc (by simp; omega) _

def lsG (j : J) (nm : List UInt8) : List J × Bool := tellG [] lstS j nm
end Go.Proofs.Ytafmnoeljefpaaa.Js
