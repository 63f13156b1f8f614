import Derived.Test.YtnpbkjmlmdpggaaYk
/- The law LayoutStrong. -/
set_option linter.unusedVariables false
set_option linter.unusedSimpArgs false
namespace Go.Proofs.Ytnpbkjmlmdpggaa.Ly
open Go.RowKit

theorem reach_eq {n : Int} {es : List Ed} (hr : RightL n es) {a : Int} (ha : nodeB n a = true) (bl : List Int) : reachL n es bl a = selL (fun (v : Nat) => wayB es bl a (v : Int)) n.toNat := by
  unfold reachL
  rw [rightB_true hr, ha]
  rfl
theorem mem_reach {n : Int} {es : List Ed} (hr : RightL n es) {a : Int} (ha : nodeB n a = true) {bl : List Int} {v : Int} : v ∈ reachL n es bl a ↔ nodeB n v = true ∧ Way es bl a v := by
  rw [reach_eq hr ha, mem_selL, nodeB_iff, wayB_iff]
  constructor
  · rintro ⟨h0, h1, h2⟩
    rw [Int.toNat_of_nonneg h0] at h2
    exact ⟨⟨h0, by omega⟩, h2⟩
  · rintro ⟨⟨h0, h1⟩, h2⟩
    exact ⟨h0, by omega, by rwa [Int.toNat_of_nonneg h0]⟩
theorem strong_iff {n : Int} {es : List Ed} (hr : RightL n es) : strongB n es = true ↔ (((reachL n es [] 0).length : Nat) : Int) = n ∧ ∀ i : Nat, (i : Int) < n → (0 : Int) ∈ reachL n es [] (i : Int) := by
  have h0 : nodeB n 0 = true := nodeB_iff.2 ⟨by omega, by have := hr.1; omega⟩
  have hn := hr.1
  have hl : (((reachL n es [] 0).length : Nat) : Int) = n ↔ ∀ v : Nat, v < n.toNat → Way es [] 0 v := by
    rw [reach_eq hr h0]
    have := selL_full (p := fun (v : Nat) => wayB es [] 0 (v : Int)) (k := n.toNat)
    constructor
    · intro h v hv
      exact wayB_iff.1 (this.1 (by omega) v hv)
    · intro h
      have := this.2 fun v hv => wayB_iff.2 (h v hv)
      omega
  rw [strongB_iff, hl]
  constructor
  · rintro ⟨_, h⟩
    exact ⟨fun v hv => h 0 (by omega) v hv, fun i hi => (mem_reach hr (nodeB_iff.2 ⟨by omega, hi⟩)).2 ⟨h0, h i (by omega) 0 (by omega)⟩⟩
  · rintro ⟨h1, h2⟩
    exact ⟨hr, fun a ha v hv => (((mem_reach hr (nodeB_iff.2 ⟨by omega, by omega⟩)).1 (h2 a (by omega))).2).trans (h1 v hv)⟩
theorem EdgesAt.form {w : World} {v : Value} {l : List Ed} (h : EdgesAt w v l) : ∃ ao cap, v = .slice ao l.length cap := by
  obtain ⟨ao, cap, h, _⟩ := h
  exact ⟨ao, cap, h⟩
theorem IntsAt.form {w : World} {v : Value} {l : List Int} (h : IntsAt w v l) : ∃ ao cap, v = .slice ao l.length cap := by
  obtain ⟨ao, cap, h, _⟩ := h
  exact ⟨ao, cap, h⟩
/-- Fit, with its number of nodes told as one of eight. -/
def RetFitE (w : World) (e : Ending) (w' : World) : Prop := ∃ n v es, e = .returned (.agg #[.int .i64 n, v]) ∧ 1 ≤ n ∧ n ≤ 8 ∧ RightL n es ∧ es.length ≤ 24 ∧ EdgesAt w' v es ∧ Below w.heap.size w w'
/-- The same, with costs told to be small. -/
def RetFitC (w : World) (e : Ending) (w' : World) : Prop := ∃ n v es, e = .returned (.agg #[.int .i64 n, v]) ∧ 1 ≤ n ∧ n ≤ 8 ∧ RightL n es ∧ es.length ≤ 24 ∧ EdgesAt w' v es ∧ Below w.heap.size w w' ∧ Cheap es
theorem fit_cheap {w : World} (a : Int) (ha : i64B a) (rv : Value) (L : List Ed) (hL : EdgesAt w rv L) (hB : RawB L) : Calls Try.prog 10 #[.int .i64 a, rv] w (RetFitC w) :=
  (fit_any a ha rv L hL hB).mono fun e w' ⟨v, es, h1, h2, h3, h4, h5, h6⟩ => ⟨_, v, es, h1, by have := pickS_nonneg (c := a) (n := 8) (by omega); omega, by have := pickS_lt (c := a) (n := 8) (by omega); omega, h2, h3, h4, h5, h6⟩
theorem fit_ex {w : World} (a : Int) (ha : i64B a) (rv : Value) (L : List Ed) (hL : EdgesAt w rv L) (hB : RawB L) : Calls Try.prog 10 #[.int .i64 a, rv] w (RetFitE w) :=
  (fit_cheap a ha rv L hL hB).mono fun e w' ⟨n, v, es, h1, h2, h3, h4, h5, h6, h7, _⟩ => ⟨n, v, es, h1, h2, h3, h4, h5, h6, h7⟩
theorem KX.start {w0 w : World} {n : Int} {v : Value} {es : List Ed} (hB : Below w0.heap.size w0 w) (h : EdgesAt w v es) : KX w0 (w.alloc (.cells #[.int .i64 n, v] 32)) w.heap.size n v es :=
  ⟨hB.alloc hB.size _, BoxAt.new n v w, h.below ((Below.refl _ _).alloc (Nat.le_refl _) _) (Nat.le_refl _)⟩
def IntsV (l : List Int) (z : Value) (w : World) : Prop := IntsAt w z l
theorem IntsV.stable (l : List Int) : Stable (IntsV l) := fun z w w' h hB => IntsAt.below h hB (Nat.le_refl _)
end Go.Proofs.Ytnpbkjmlmdpggaa.Ly
