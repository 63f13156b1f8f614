import Derived.Test.YtcaehjflfpnenaaHr
/- A slice in the document's heap that is not nil; a heap without things. -/
set_option linter.unusedVariables false
set_option linter.unusedSimpArgs false
namespace Go.Proofs.Ytcaehjflfpnenaa.Hp
open Go.RowKit

theorem RfAt.form1 {base b g o n c : Nat} {w : World} {s : List Pr} (h : RfAt base w b (.slice (some ⟨g, o, none⟩) n c) s) : n = s.length ∧ s.length ≤ c ∧ g ≠ b ∧ g < w.heap.size := by
  rcases h.row with ⟨h1, _⟩ | ⟨g', o', c', cur, fr, hv, hc, _, hg, _⟩
  · cases h1
  · simp only [Value.slice.injEq, Option.some.injEq, Addr.mk.injEq, and_true, true_and] at hv
    obtain ⟨⟨rfl, rfl⟩, rfl, rfl⟩ := hv
    refine ⟨rfl, hc, fun e => ?_, (Array.getElem?_eq_some_iff.1 hg).1⟩
    subst e
    have := h.cell
    rw [hg] at this
    simp at this
end Go.Proofs.Ytcaehjflfpnenaa.Hp
