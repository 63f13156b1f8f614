import Derived.Test.YthmblgfcjbiomaaYF
import Derived.Test.YthmblgfcjbiomaaRn
/- An array of three numbers among the arguments. -/
set_option linter.unusedVariables false
set_option linter.unusedSimpArgs false
namespace Go.Proofs.Ythmblgfcjbiomaa
open Go.ChangeShapes Go.WideShapes Go.ChangeAt Go.RowKit Ly

theorem three_cs {α : Type} {cs : Array α} (h : cs.size = 3) : ∃ a b c, cs = #[a, b, c] := by
  obtain ⟨l⟩ := cs
  obtain ⟨a, b, c, rfl⟩ := list3 (show l.length = 3 from h)
  exact ⟨a, b, c, rfl⟩
set_option maxRecDepth 100000 in
theorem open_arr3_at {H : Type} {enc : TypeId × Value → H} {W : World} {base : Nat} {v : Value} {d : DataW H} {p : List MemPlace}
    (hv : Value.okWide Try.prog W .any base 27 v) (h : DataW.Trod enc Try.prog W 0 (fun _ => true) true 27 v d p) (hw : Wt 27 d) : ∃ z, Rt.ArrZ W v z := by
  simp only [Value.okWide, Try.underlying27] at hv
  obtain ⟨cs, rfl, hsz, _⟩ := hv
  obtain ⟨c0, c1, c2, rfl⟩ := three_cs (hsz.trans cellsRaw)
  obtain ⟨fuel, hf⟩ := h
  obtain ⟨xs, m, _, hx, _, hl, hi⟩ := DataW.trod_array Try.underlying27 hf
  have h0 := hi 0 (by decide)
  have h1 := hi 1 (by decide)
  have h2 := hi 2 (by decide)
  rw [cellsInt] at h0 h1 h2
  obtain ⟨a, b, c, rfl⟩ := list3 hl
  have h0' : DataW.trod enc Try.prog W 0 (fun _ => true) true m 3 [c0] = some a := h0
  have h1' : DataW.trod enc Try.prog W 0 (fun _ => true) true m 3 [c1] = some b := h1
  have h2' : DataW.trod enc Try.prog W 0 (fun _ => true) true m 3 [c2] = some c := h2
  obtain ⟨x, e0, -, wx⟩ := DataW.trod_int Try.underlying3 h0'
  obtain ⟨y, e1, -, wy⟩ := DataW.trod_int Try.underlying3 h1'
  obtain ⟨z, e2, -, wz⟩ := DataW.trod_int Try.underlying3 h2'
  cases e0
  cases e1
  cases e2
  exact ⟨(x, y, z), rfl, bounds_i64 wx, bounds_i64 wy, bounds_i64 wz⟩
end Go.Proofs.Ythmblgfcjbiomaa
