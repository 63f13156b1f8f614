import Derived.Test.YtcaehjflfpnenaaHF
import Derived.Test.YtcaehjflfpnenaaHs
/- What opens a slice of bools among the arguments. -/
set_option linter.unusedVariables false
set_option linter.unusedSimpArgs false
namespace Go.Proofs.Ytcaehjflfpnenaa
open Go.ChangeShapes Go.WideShapes Go.ChangeAt Go.RowKit Hp

set_option maxRecDepth 100000 in
theorem open_bools_at {H : Type} {enc : TypeId × Value → H} {W : World} {base : Nat} {v : Value} {d : DataW H} {p : List MemPlace}
    (hval : Value.okWide Try.prog W .any base 23 v) (h : DataW.Trod enc Try.prog W 0 (fun _ => true) true 23 v d p) (hw : Wt 23 d) : ∃ l, BoolsAt W v l := by
  obtain ⟨a0, len, cap, rfl⟩ := okWide_slice Try.underlying23 hval
  obtain ⟨fuel, hf⟩ := h
  rcases Deep.open_bools Try.underlying23 Try.underlying4 cellsBool hf with ⟨hcs, hx⟩ | ⟨a, len', cap', B, hcs, hb, hl, hm, hx, hc⟩
  · simp [Value.cells] at hcs
    obtain ⟨rfl, rfl, rfl⟩ := hcs
    exact ⟨[], none, 0, rfl, fun h => by simp at h⟩
  · simp [Value.cells] at hcs
    obtain ⟨rfl, rfl, rfl⟩ := hcs
    by_cases hl0 : len = 0
    · subst hl0
      exact ⟨[], _, _, rfl, fun h => by simp at h⟩
    · obtain ⟨b, off, spot⟩ := a
      have hspot : spot = none := by simpa [Addr.add] using World.cell?_spot (hc 0 (by omega))
      subst hspot
      have hlen : ((List.range len).map B).length = len := by simp
      have hc0 := hc 0 (by omega)
      rw [add_plain] at hc0
      refine ⟨(List.range len).map B, _, _, by rw [hlen], fun _ => ⟨b, off, rfl, cell_lt hc0, fun j hj => ?_⟩⟩
      rw [hlen] at hj
      have := hc j (by omega)
      rw [add_plain] at this
      rw [this, List.getD_eq_getElem?_getD, List.getElem?_map, List.getElem?_range hj]
      rfl
end Go.Proofs.Ytcaehjflfpnenaa
