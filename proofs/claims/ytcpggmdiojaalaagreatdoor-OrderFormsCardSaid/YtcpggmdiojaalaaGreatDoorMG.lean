import Derived.Test.YtcpggmdiojaalaaGreatDoorCards
import Derived.Test.YtcpggmdiojaalaaGreatDoorTie
import Derived.Test.YtcpggmdiojaalaaGreatDoorMA
import Derived.OpenShut
import Derived.JoinedCond
import Derived.JoinedOf
import Derived.SizedLaws
import Derived.Carry
import Derived.ChangeSlices
import Derived.ChangeSame
import Derived.Deep.DeepHandedRow
import Derived.Deep.Slices
import Derived.Lib.SmallJoins
import Derived.Lib.LaidTab
import Derived.LaidSub
/- What opens the arguments of this seat's laws, and what the rows' lists give. -/
set_option linter.unusedVariables false
set_option linter.unusedSimpArgs false
namespace Go.Proofs.YtcpggmdiojaalaaGreatDoor.Js
open Go.ChangeShapes Go.WideShapes Go.ChangeAt Go.RowKit Lex

theorem own : ownKnob Tryz.prog.godebug = none := by kernel_rfl
theorem laidOut : laidOutB Tryz.prog = true := by kernel_rfl
theorem cellsInt : Tryz.prog.cellsOf 3 = 1 := by kernel_rfl
theorem cellsInts : Tryz.prog.cellsOf 129 = 1 := by kernel_rfl
/-- A slice's length is within its capacity. -/
def CapOk (v : Value) : Prop := ∀ a n c, v = .slice a n c → n ≤ c
theorem gpowType : (Tryz.prog.globals[1]?).map (·.type) = some 264 := by kernel_rfl
theorem cellsPow : Tryz.prog.cellsOf 264 = 20 := by kernel_rfl
theorem cellsU64 : Tryz.prog.cellsOf 235 = 1 := by kernel_rfl

theorem cell_lt {w : World} {b o : Nat} {v : Value} (h : w.cell? ⟨b, o, none⟩ = some v) : b < w.heap.size := by
  rcases Nat.lt_or_ge b w.heap.size with h' | h'
  · exact h'
  · simp [World.cell?, Array.getElem?_eq_none h'] at h
theorem add_plain (b off j : Nat) : (⟨b, off, none⟩ : Addr).add j = ⟨b, off + j, none⟩ := by
  simp only [Addr.add]; split <;> simp_all

/-- A slice of ints reads as a list. -/
theorem ints_at {H : Type} {enc : TypeId × Value → H} {W : World} {base fuel : Nat} {v : Value} {x : DataW H × List MemPlace}
    (hf : DataW.trod enc Tryz.prog W base (fun _ => true) true fuel 129 [v] = some x) : (∃ zs, Quo.IntsAt W v zs) ∧ CapOk v := by
  rcases open_ints Tryz.underlying129 Tryz.underlying3 cellsInt hf with ⟨hcs, hx⟩ | ⟨a, len, cap, zs, hcs, _, hl, hm, hz, hx, hcell, hwz⟩
  · simp at hcs
    subst hcs
    exact ⟨⟨[], .inl ⟨_, _, rfl, rfl⟩⟩, fun _ _ _ h => by cases h; exact Nat.le_refl _⟩
  · simp at hcs
    subst hcs
    refine ⟨?_, fun _ _ _ h => by cases h; exact hl⟩
    simp only [if_true] at hz
    by_cases hl0 : len = 0
    · subst hl0
      exact ⟨[], .inl ⟨_, _, rfl, rfl⟩⟩
    · obtain ⟨b, off, spot⟩ := a
      have hspot : spot = none := by simpa [Addr.add] using World.cell?_spot (hcell 0 (by omega))
      subst hspot
      have hlt : (zs.take len).length = len := by simp; omega
      have hg : ∀ j, j < len → (zs.take len).getD j 0 = zs.getD j 0 := fun j hj => by
        simp [List.getD, List.getElem?_take, hj]
      have hc0 := hcell 0 (by omega)
      rw [add_plain] at hc0
      refine ⟨zs.take len, .inr ⟨b, off, cap, by rw [hlt], by omega, by unfold maxLen at hm; omega, cell_lt hc0, fun j hj => ?_, fun j hj => ?_⟩⟩
      · rw [hlt] at hj
        rw [hg j hj, ← add_plain]
        exact hcell j (by omega)
      · rw [hlt] at hj
        rw [hg j hj]
        refine bounds_i64 (hwz _ ?_)
        rw [List.getD_eq_getElem?_getD, List.getElem?_eq_getElem (by omega : j < zs.length)]
        exact List.getElem_mem _
set_option maxRecDepth 100000 in
theorem open_ints_at {H : Type} {enc : TypeId × Value → H} {W : World} {base : Nat} {v : Value} {d : DataW H} {p : List MemPlace}
    (hval : Value.okWide Tryz.prog W .any base 129 v) (h : DataW.Trod enc Tryz.prog W 0 (fun _ => true) true 129 v d p) : ∃ zs, Quo.IntsAt W v zs := by
  obtain ⟨a0, len, cap, rfl⟩ := okWide_slice Tryz.underlying129 hval
  obtain ⟨fuel, hf⟩ := h
  exact (ints_at (by simpa [Value.cells] using hf)).1

theorem i64B_of' {n : Int} (h : (Lit.int .i64 n).wf = true) : i64B n := bounds_i64 h

/-- The rows' lists. -/
def laid5 : List (String × DataW Unit) := [("math/bits.deBruijn32tab", Rows.laid_math_bits_deBruijn32tab), ("math/bits.deBruijn64tab", Rows.laid_math_bits_deBruijn64tab), ("internal/strconv.uint64pow10", Rows.laid_internal_strconv_uint64pow10), ("unicode/utf8.acceptRanges", Rows.laid_unicode_utf8_acceptRanges), ("unicode/utf8.first", Rows.laid_unicode_utf8_first)]
theorem tab_of_laid {W : World} (h : laidMetH Tryz.prog laid5 W) : Dec.Tab W := by
  have h2 := h.filter (fun x => x.1 == "internal/strconv.uint64pow10")
  have h3 : laidMetH Tryz.prog [("internal/strconv.uint64pow10", Lib.tabData .u64 Lib.pow10Tab)] W := h2
  exact Lib.tabIs_of_head (rest := []) Dec.gpow gpowType Tryz.underlying264 Tryz.underlying235 cellsU64 cellsPow h3

/-- A table's cells. -/
def flat1 : List (DataW Unit) → List Value
  | [] => []
  | .lit (.int k z) :: r => .int k z :: flat1 r
  | _ :: r => flat1 r
def flat2 : List (DataW Unit) → List Value
  | [] => []
  | .lit (.int k z) :: r => .int k z :: flat2 r
  | .agg l :: r => flat1 l ++ flat2 r
  | _ :: r => flat2 r
def flat : DataW Unit → Array Value
  | .agg l => (flat2 l).toArray
  | _ => #[]
def put (vs : Array Value) : Obj → Obj
  | .cells _ t f => .cells vs t f
  | o => o

noncomputable def laidWorld (os : Os) : World :=
  { World.holding Tryz.prog os ⟨#[], #[], []⟩ with heap := (((((World.holding Tryz.prog os ⟨#[], #[], []⟩).heap.modify 1 (put (flat Rows.laid_internal_strconv_uint64pow10))).modify 4 (put (flat Rows.laid_unicode_utf8_first))).modify 5 (put (flat Rows.laid_unicode_utf8_acceptRanges))).modify 2 (put (flat Rows.laid_math_bits_deBruijn32tab))).modify 3 (put (flat Rows.laid_math_bits_deBruijn64tab)) }
theorem laid_met (os : Os) (args : Array Value) : laidMet Tryz.prog laid5 ((laidWorld os).forCall (fun _ _ => 0) ⟨#[], args, []⟩).memory :=
  laidMet_of_run' 8 (by kernel_rfl) (by kernel_rfl)
end Go.Proofs.YtcpggmdiojaalaaGreatDoor.Js
