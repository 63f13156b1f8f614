/- Opening and shutting an argument of type [2]int. -/
import Derived.Test.YtaggeebfdlkbhaaDoorLaid
import Derived.Lib.SmallJoins
set_option linter.unusedSimpArgs false
set_option linter.unusedVariables false
namespace Go.Proofs.YtaggeebfdlkbhaaDoor
open Go.ChangeShapes Go.WideShapes Go.ChangeAt Go.RowKit

theorem cellsA2 : Tryd.prog.cellsOf 22 = 2 := by kernel_rfl
theorem cellsI : Tryd.prog.cellsOf 3 = 1 := by kernel_rfl

theorem list2 {α : Type} {l : List α} (h : l.length = 2) : ∃ a b, l = [a, b] := by
  match l, h with
  | [a, b], _ => exact ⟨a, b, rfl⟩
set_option maxRecDepth 100000 in
theorem open_arr2 {H : Type} {enc : TypeId × Value → H} {W : World} {b0 base : Nat} {sp : Nat → Bool} {held : Bool} {v : Value} {d : DataW H} {p : List MemPlace}
    (hv : Value.okWide Tryd.prog W .any b0 22 v) (h : DataW.Trod enc Tryd.prog W base sp held 22 v d p) :
    ∃ x y : Int, v = .agg #[.int .i64 x, .int .i64 y] ∧ d = .agg [.lit (.int .i64 x), .lit (.int .i64 y)] ∧ p = [] ∧ (Lit.int .i64 x).wf = true ∧ (Lit.int .i64 y).wf = true := by
  simp only [Value.okWide, Tryd.underlying22] at hv
  obtain ⟨cs, rfl, hsz, _⟩ := hv
  obtain ⟨c0, c1, rfl⟩ := Joins.array2 (hsz.trans cellsA2)
  obtain ⟨fuel, hf⟩ := h
  obtain ⟨xs, m, _, hx, _, hl, hi⟩ := DataW.trod_array Tryd.underlying22 hf
  have h0 := hi 0 (by decide)
  have h1 := hi 1 (by decide)
  rw [cellsI] at h0 h1
  obtain ⟨a, b, rfl⟩ := list2 hl
  have h0' : DataW.trod enc Tryd.prog W base sp held m 3 [c0] = some a := h0
  have h1' : DataW.trod enc Tryd.prog W base sp held m 3 [c1] = some b := h1
  obtain ⟨x, e0, rfl, wx⟩ := DataW.trod_int Tryd.underlying3 h0'
  obtain ⟨y, e1, rfl, wy⟩ := DataW.trod_int Tryd.underlying3 h1'
  simp only [Prod.mk.injEq] at hx
  cases e0
  cases e1
  exact ⟨x, y, rfl, hx.1, hx.2, wx, wy⟩

set_option maxRecDepth 100000 in
theorem shut_arr2 {H : Type} {enc : TypeId × Value → H} {W : World} {base : Nat} {sp : Nat → Bool} {held : Bool} {x y : Int} (wx : (Lit.int .i64 x).wf = true) (wy : (Lit.int .i64 y).wf = true) :
    DataW.Trod enc Tryd.prog W base sp held 22 (.agg #[.int .i64 x, .int .i64 y]) (.agg [.lit (.int .i64 x), .lit (.int .i64 y)]) [] := by
  refine ⟨2, ?_⟩
  simp [DataW.trod, Tryd.underlying22, Tryd.underlying3, cellsA2, cellsI, Value.cells, wx, wy, show List.range 2 = [0, 1] from rfl]
end Go.Proofs.YtaggeebfdlkbhaaDoor
