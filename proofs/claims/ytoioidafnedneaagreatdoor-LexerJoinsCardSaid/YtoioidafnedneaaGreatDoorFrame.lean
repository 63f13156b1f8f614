import Derived.Test.YtoioidafnedneaaGreatDoorCards
import Derived.Test.YtoioidafnedneaaGreatDoorTie
import Derived.Test.YtoioidafnedneaaGreatDoorRaw
import Derived.OpenShut
import Derived.JoinedCond
import Derived.JoinedOf
import Derived.SizedLaws
import Derived.Carry
import Derived.ChangeSlices
import Derived.ChangeSame
import Derived.Deep.DeepHandedRow
import Derived.Deep.Slices
import Derived.Lib.SmallJoins
import Derived.Lib.LaidTab
import Derived.LaidSub
/- What opens the arguments of this seat's laws, and what the rows' lists give. -/
set_option linter.unusedVariables false
set_option linter.unusedSimpArgs false
namespace Go.Proofs.YtoioidafnedneaaGreatDoor.Lex
open Go.ChangeShapes Go.WideShapes Go.ChangeAt Go.RowKit

theorem own : ownKnob Tryz.prog.godebug = none := by kernel_rfl
theorem laidOut : laidOutB Tryz.prog = true := by kernel_rfl
theorem cellsInt : Tryz.prog.cellsOf 3 = 1 := by kernel_rfl
theorem cellsInts : Tryz.prog.cellsOf 23 = 1 := by kernel_rfl
theorem cellsRaw : Tryz.prog.cellsOf 29 = 4 := by kernel_rfl
theorem gpowType : (Tryz.prog.globals[1]?).map (·.type) = some 116 := by kernel_rfl
theorem cellsPow : Tryz.prog.cellsOf 116 = 20 := by kernel_rfl
theorem cellsU64 : Tryz.prog.cellsOf 92 = 1 := by kernel_rfl

theorem cell_lt {w : World} {b o : Nat} {v : Value} (h : w.cell? ⟨b, o, none⟩ = some v) : b < w.heap.size := by
  rcases Nat.lt_or_ge b w.heap.size with h' | h'
  · exact h'
  · simp [World.cell?, Array.getElem?_eq_none h'] at h
theorem add_plain (b off j : Nat) : (⟨b, off, none⟩ : Addr).add j = ⟨b, off + j, none⟩ := by
  simp only [Addr.add]; split <;> simp_all

/-- A slice of ints reads as a list. -/
theorem ints_at {H : Type} {enc : TypeId × Value → H} {W : World} {base fuel : Nat} {v : Value} {x : DataW H × List MemPlace}
    (hf : DataW.trod enc Tryz.prog W base (fun _ => true) true fuel 23 [v] = some x) : (∃ zs, Quo.IntsAt W v zs) ∧ CapOk v := by
  rcases open_ints Tryz.underlying23 Tryz.underlying3 cellsInt hf with ⟨hcs, hx⟩ | ⟨a, len, cap, zs, hcs, _, hl, hm, hz, hx, hcell, hwz⟩
  · simp at hcs
    subst hcs
    exact ⟨⟨[], .inl ⟨_, _, rfl, rfl⟩⟩, fun _ _ _ h => by cases h; exact Nat.le_refl _⟩
  · simp at hcs
    subst hcs
    refine ⟨?_, fun _ _ _ h => by cases h; exact hl⟩
    simp only [if_true] at hz
    by_cases hl0 : len = 0
    · subst hl0
      exact ⟨[], .inl ⟨_, _, rfl, rfl⟩⟩
    · obtain ⟨b, off, spot⟩ := a
      have hspot : spot = none := by simpa [Addr.add] using World.cell?_spot (hcell 0 (by omega))
      subst hspot
      have hlt : (zs.take len).length = len := by simp; omega
      have hg : ∀ j, j < len → (zs.take len).getD j 0 = zs.getD j 0 := fun j hj => by
        simp [List.getD, List.getElem?_take, hj]
      have hc0 := hcell 0 (by omega)
      rw [add_plain] at hc0
      refine ⟨zs.take len, .inr ⟨b, off, cap, by rw [hlt], by omega, by unfold maxLen at hm; omega, cell_lt hc0, fun j hj => ?_, fun j hj => ?_⟩⟩
      · rw [hlt] at hj
        rw [hg j hj, ← add_plain]
        exact hcell j (by omega)
      · rw [hlt] at hj
        rw [hg j hj]
        refine bounds_i64 (hwz _ ?_)
        rw [List.getD_eq_getElem?_getD, List.getElem?_eq_getElem (by omega : j < zs.length)]
        exact List.getElem_mem _
set_option maxRecDepth 100000 in
theorem open_ints_at {H : Type} {enc : TypeId × Value → H} {W : World} {base : Nat} {v : Value} {d : DataW H} {p : List MemPlace}
    (hval : Value.okWide Tryz.prog W .any base 23 v) (h : DataW.Trod enc Tryz.prog W 0 (fun _ => true) true 23 v d p) : ∃ zs, Quo.IntsAt W v zs := by
  obtain ⟨a0, len, cap, rfl⟩ := okWide_slice Tryz.underlying23 hval
  obtain ⟨fuel, hf⟩ := h
  exact (ints_at (by simpa [Value.cells] using hf)).1

theorem i64B_of {n : Int} (h : (Lit.int .i64 n).wf = true) : i64B n := bounds_i64 h

set_option maxRecDepth 100000 in
/-- A slice of raw tokens reads as a list. -/
theorem open_raws_at {H : Type} {enc : TypeId × Value → H} {W : World} {base : Nat} {v : Value} {d : DataW H} {p : List MemPlace}
    (hval : Value.okWide Tryz.prog W .any base 22 v) (h : DataW.Trod enc Tryz.prog W 0 (fun _ => true) true 22 v d p) : ∃ rs, RawsAt W v rs := by
  obtain ⟨a0, len, cap, rfl⟩ := okWide_slice Tryz.underlying22 hval
  obtain ⟨fuel, hf⟩ := h
  rcases Deep.open_slice Tryz.underlying22 hf with ⟨hcs, hx⟩ | ⟨a, len', cap', m, n, D, Pl, hcs, hb, hl, hmx, hm, hx, hel⟩
  · simp [Value.cells] at hcs
    obtain ⟨rfl, rfl, rfl⟩ := hcs
    exact ⟨[], .inl ⟨_, _, rfl, rfl⟩⟩
  · simp [Value.cells] at hcs
    obtain ⟨rfl, rfl, rfl⟩ := hcs
    simp only [if_true] at hm
    subst hm
    by_cases hl0 : len = 0
    · subst hl0
      exact ⟨[], .inl ⟨_, _, rfl, rfl⟩⟩
    · rw [cellsRaw] at hel
      have one : ∀ i, i < len → ∃ r : Raw, (W.cell? (a.add (i * 4 + 0)) = some (.int .i64 r.k) ∧ W.cell? (a.add (i * 4 + 1)) = some (.int .i64 r.m) ∧ W.cell? (a.add (i * 4 + 2)) = some (.int .i64 r.e) ∧ W.cell? (a.add (i * 4 + 3)) = some r.v) ∧
          i64B r.k ∧ i64B r.m ∧ i64B r.e ∧ Quo.IntsAt W r.v r.t ∧ CapOk r.v := by
        intro i hi
        obtain ⟨cs, hc, ht⟩ := hel i (by omega)
        obtain ⟨_, hcl, hcc⟩ := World.cells?_some hc
        obtain ⟨y0, y1, y2, y3, n', _, _, t0, t1, t2, t3⟩ := Joins.trod_struct4 Tryz.underlying29 ht
        simp only [cellsInt, cellsInts] at t0 t1 t2 t3
        match cs, hcl with
        | [c0, c1, c2, c3], _ =>
          obtain ⟨k, e0, -, w0⟩ := DataW.trod_int Tryz.underlying3 t0
          obtain ⟨m, e1, -, w1⟩ := DataW.trod_int Tryz.underlying3 t1
          obtain ⟨e, e2, -, w2⟩ := DataW.trod_int Tryz.underlying3 t2
          obtain ⟨⟨zs, hz⟩, hcap⟩ := ints_at t3
          simp at e0 e1 e2
          subst e0 e1 e2
          have h0 := hcc 0 (by omega); have h1 := hcc 1 (by omega); have h2 := hcc 2 (by omega); have h3 := hcc 3 (by omega)
          rw [Deep.add_add] at h0 h1 h2 h3
          exact ⟨⟨k, m, e, c3, zs⟩, ⟨h0, h1, h2, h3⟩, i64B_of w0, i64B_of w1, i64B_of w2, hz, hcap⟩
      haveI : Inhabited Raw := ⟨raw0⟩
      obtain ⟨f, hf⟩ := Deep.choose_lt one
      obtain ⟨b, off, spot⟩ := a
      have hspot : spot = none := by
        have := (hf 0 (by omega)).1.1
        simpa [Addr.add] using World.cell?_spot this
      subst hspot
      have hlen : ((List.range len).map f).length = len := by simp
      have hget : ∀ j, j < len → ((List.range len).map f).getD j raw0 = f j := fun j hj => by
        rw [List.getD_eq_getElem?_getD, List.getElem?_map, List.getElem?_range hj]; rfl
      have hc0 := (hf 0 (by omega)).1.1
      rw [add_plain] at hc0
      refine ⟨(List.range len).map f, .inr ⟨b, off, _, by rw [hlen], by omega, by omega, by unfold maxLen at hmx; omega, cell_lt hc0, fun j hj => ?_⟩⟩
      rw [hlen] at hj
      rw [hget j hj]
      obtain ⟨⟨h0, h1, h2, h3⟩, hk, hm, he, ht, hcp⟩ := hf j hj
      rw [add_plain] at h0 h1 h2 h3
      simp only [← Nat.add_assoc, Nat.add_zero] at h0 h1 h2 h3
      exact ⟨h0, h1, h2, h3, hk, hm, he, ht, hcp⟩

/-- The rows' lists. -/
def laid5 : List (String × DataW Unit) := [("math/bits.deBruijn32tab", Rows.laid_math_bits_deBruijn32tab), ("math/bits.deBruijn64tab", Rows.laid_math_bits_deBruijn64tab), ("internal/strconv.uint64pow10", Rows.laid_internal_strconv_uint64pow10), ("unicode/utf8.acceptRanges", Rows.laid_unicode_utf8_acceptRanges), ("unicode/utf8.first", Rows.laid_unicode_utf8_first)]
def laid2 : List (String × DataW Unit) := [("unicode/utf8.acceptRanges", Rows.laid_unicode_utf8_acceptRanges), ("unicode/utf8.first", Rows.laid_unicode_utf8_first)]
theorem tab_of_laid {W : World} (h : laidMetH Tryz.prog laid5 W) : Dec.Tab W := by
  have h2 := h.filter (fun x => x.1 == "internal/strconv.uint64pow10")
  have h3 : laidMetH Tryz.prog [("internal/strconv.uint64pow10", Lib.tabData .u64 Lib.pow10Tab)] W := h2
  exact Lib.tabIs_of_head (rest := []) Dec.gpow gpowType Tryz.underlying116 Tryz.underlying92 cellsU64 cellsPow h3

/-- A table's cells. -/
def flat1 : List (DataW Unit) → List Value
  | [] => []
  | .lit (.int k z) :: r => .int k z :: flat1 r
  | _ :: r => flat1 r
def flat2 : List (DataW Unit) → List Value
  | [] => []
  | .lit (.int k z) :: r => .int k z :: flat2 r
  | .agg l :: r => flat1 l ++ flat2 r
  | _ :: r => flat2 r
def flat : DataW Unit → Array Value
  | .agg l => (flat2 l).toArray
  | _ => #[]
def put (vs : Array Value) : Obj → Obj
  | .cells _ t f => .cells vs t f
  | o => o

noncomputable def laidWorld (os : Os) : World :=
  { World.holding Tryz.prog os ⟨#[], #[], []⟩ with heap := (((((World.holding Tryz.prog os ⟨#[], #[], []⟩).heap.modify 1 (put (flat Rows.laid_internal_strconv_uint64pow10))).modify 4 (put (flat Rows.laid_unicode_utf8_first))).modify 5 (put (flat Rows.laid_unicode_utf8_acceptRanges))).modify 2 (put (flat Rows.laid_math_bits_deBruijn32tab))).modify 3 (put (flat Rows.laid_math_bits_deBruijn64tab)) }
theorem laid_met (os : Os) (args : Array Value) : laidMet Tryz.prog laid5 ((laidWorld os).forCall (fun _ _ => 0) ⟨#[], args, []⟩).memory :=
  laidMet_of_run' 8 (by kernel_rfl) (by kernel_rfl)
theorem laid_met2 (os : Os) (args : Array Value) : laidMet Tryz.prog laid2 ((laidWorld os).forCall (fun _ _ => 0) ⟨#[], args, []⟩).memory :=
  laidMet_of_run' 8 (by kernel_rfl) (by kernel_rfl)
end Go.Proofs.YtoioidafnedneaaGreatDoor.Lex
