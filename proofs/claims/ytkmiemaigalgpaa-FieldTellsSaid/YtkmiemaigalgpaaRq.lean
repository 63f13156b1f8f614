import Derived.Test.YtkmiemaigalgpaaFTells
/- FieldTells' walk over what opening its arguments tells. -/
set_option linter.unusedVariables false
namespace Go.Proofs.Ytkmiemaigalgpaa.Js
open Go.RowKit Lex

theorem ftells_row (v0 : Value) (n : Nat) (t1 : List UInt8) (v2 : Value) (fs : List Fd) (v3 : Value) (ns : List (List UInt8)) (v4 : Value) (nI : Nat) (x : Int) (W : World) (h0 : ∃ j, JAt Any W n v0 j) (h1 : txtB t1) (h2 : FdsAt W v2 fs) (h3 : StrsAt Any W v3 ns)
    (h4 : ∃ ai ci is, v4 = .slice ai (is : List J).length ci ∧ is.length ≤ ci ∧ is.length ≤ 1599289640354 ∧ ItemsAt Any W nI ai is) (hx0 : -9223372036854775808 ≤ x) (hx1 : x ≤ 9223372036854775807) :
    Calls Try.prog 3 #[v0, .string ⟨t1.toArray⟩, v2, v3, v4, .int .i64 x] W (Ret (.bool true) W) := by
  obtain ⟨j, hj⟩ := h0
  obtain ⟨ai, ci, is, rfl, q1, q2, q3⟩ := h4
  exact ftells_walk v0 n j t1 v2 fs v3 ns ai ci is nI x W hj h1 h2 h3 q1 q2 q3 hx0 hx1
end Go.Proofs.Ytkmiemaigalgpaa.Js
