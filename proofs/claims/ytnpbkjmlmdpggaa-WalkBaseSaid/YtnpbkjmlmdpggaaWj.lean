import Derived.Test.YtnpbkjmlmdpggaaKm
import Derived.Test.YtnpbkjmlmdpggaaKc
import Derived.Test.YtnpbkjmlmdpggaaYc
/- Fits: leads. -/
set_option linter.unusedVariables false
set_option linter.unusedSimpArgs false
namespace Go.Proofs.Ytnpbkjmlmdpggaa.Wk
open Go.RowKit Ly Od

/-- Whether a number is an edge's, between two nodes. -/
def leadsB (es : List Ed) (e f t : Int) : Bool := decide (e < es.length) && (decide ((ate es e.toNat).1 = f) && decide ((ate es e.toNat).2.1 = t))
set_option maxHeartbeats 4000000 in
set_option maxRecDepth 100000 in
theorem leads_any (n : Int) {es : List Ed} (e f t : Int) (v : Value) {w : World} (hv : EdgesAt w v es) (h0 : 0 ≤ e) :
    Calls Try.prog 39 #[.agg #[.int .i64 n, v], .int .i64 e, .int .i64 f, .int .i64 t] w (Ret (.bool (leadsB es e f t)) w) := by
  have HB0 : Hid (Below w.heap.size w (w.alloc (.cells #[.int .i64 n, v] 32))) := (Below.refl _ w).alloc (Nat.le_refl _) _
  obtain ⟨ao, cap, rfl, hl, hc⟩ := hv
  obtain ⟨q, rfl⟩ : ∃ q : Nat, e = (q : Int) := ⟨e.toNat, by omega⟩
  obtain ⟨B, hB⟩ : ∃ B, leadsB es q f t = B := ⟨_, rfl⟩
  have HB := Lib.hid hB
  rw [hB]
  clear hB h0
  unfold leadsB at HB
  rw [Int.toNat_natCast] at HB
  by_cases hlt : q < es.length
  · obtain ⟨b, o, rfl, hb, hcs⟩ := hc (by omega)
    obtain ⟨x0, x1, -⟩ := hcs q hlt
    have hlt2 : (q : Int) < (es.length : Int) := by omega
    rw [show decide ((q : Int) < (es.length : Int)) = true by simpa using hlt] at HB
    clear hcs hc
    generalize ate es q = E at *
    obtain ⟨a, d, c⟩ := E
    simp only at x0 x1 HB
    by_cases h1 : a = f
    · subst h1
      by_cases h2 : d = t
      · subst h2
        have hb : B = true := by rw [← HB.out]; simp
        subst hb
        clear HB
        go_enter Try.func39, Try.ntmps39
        go_wp2_with fail
        go_ret
        exact ⟨rfl, HB0.out⟩
      · have h2' : (d == t) = false := by simpa using h2
        have hb : B = false := by rw [← HB.out]; simp [h2]
        subst hb
        clear HB
        go_enter Try.func39, Try.ntmps39
        go_wp2_with fail
        go_ret
        exact ⟨rfl, HB0.out⟩
    · have h1' : (a == f) = false := by simpa using h1
      have hb : B = false := by rw [← HB.out]; simp [h1]
      subst hb
      clear HB
      go_enter Try.func39, Try.ntmps39
      go_wp2_with fail
      go_ret
      exact ⟨rfl, HB0.out⟩
  · have hlt2 : ¬ (q : Int) < (es.length : Int) := by omega
    have hlt3 : decide ((q : Int) < (es.length : Int)) = false := by simpa using hlt
    have hb : B = false := by rw [← HB.out, hlt3]; rfl
    subst hb
    clear HB
    go_enter Try.func39, Try.ntmps39
    go_wp2_with fail
    go_ret
    exact ⟨rfl, HB0.out⟩
end Go.Proofs.Ytnpbkjmlmdpggaa.Wk
