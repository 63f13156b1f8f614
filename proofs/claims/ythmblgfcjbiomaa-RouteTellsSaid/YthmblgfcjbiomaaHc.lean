import Derived.Test.YthmblgfcjbiomaaHb
import Derived.Laws.NewBlocks
import Derived.Laws.Alloc2
import Derived.Outline
/- less and swap. -/
set_option linter.unusedVariables false
set_option linter.unusedSimpArgs false
namespace Go.Proofs.Ythmblgfcjbiomaa.Hp
open Go.RowKit

theorem ltP_cmp (p q : Pr) : ltP p q = if cmpZ p.1 q.1 = 0 then decide (p.2 < q.2) else decide (cmpZ p.1 q.1 < 0) := by
  rcases Int.lt_trichotomy p.1 q.1 with h | h | h
  · have h1 : cmpZ p.1 q.1 = -1 := by simp [cmpZ, h]
    rw [h1]
    simp [ltP, h]
  · have h1 : cmpZ p.1 q.1 = 0 := by simp [cmpZ, h]
    rw [h1]
    simp [ltP, h]
  · have h1 : cmpZ p.1 q.1 = 1 := by simp [cmpZ, h]; omega
    rw [h1]
    simp [ltP]
    omega
set_option maxHeartbeats 4000000 in
theorem less_any {base : Nat} {w : World} {b : Nat} {v : Value} {l : List Pr} (h : HpAt base w b v l) (i j : Nat) (hi : i < l.length) (hj : j < l.length) :
    Calls Try.prog 46 #[.pointer (some ⟨b, 0, none⟩), .int .i64 i, .int .i64 j] w (fun e w' => e = .returned (.bool (ltP (at' l i) (at' l j))) ∧ Below w.heap.size w w') := by
  obtain ⟨g, cap, rfl, hnc, hgb, hbg, hgs⟩ := h.form (by omega)
  have hn := h.short
  have hc := h.get
  have hf := h.thaw
  have ⟨c1, c2⟩ := h.cells hi
  have ⟨c3, c4⟩ := h.cells hj
  have hm := h.melt
  have hlt := h.lt
  rw [ltP_cmp]
  generalize at' l i = p at *
  generalize at' l j = q at *
  obtain ⟨p1, p2⟩ := p
  obtain ⟨q1, q2⟩ := q
  generalize l.length = n at *
  have C1 := Lib.hid (fun u => compare_any p1 q1 u)
  have C2 := Lib.hid (fun u => less_int p2 q2 u)
  clear h
  dsimp only at *
  have hb1 : b ≠ w.heap.size := by omega
  have hb2 : b ≠ w.heap.size + 1 := by omega
  have hg1 : g ≠ w.heap.size := by omega
  have hg2 : g ≠ w.heap.size + 1 := by omega
  have hlt2 : b < w.heap.size + 1 := by omega
  have hgs2 : g < w.heap.size + 1 := by omega
  have hB : Below w.heap.size w (((w.alloc (Obj.cells #[Value.int IntKind.i64 p1, Value.int IntKind.i64 p2] 75)).alloc (Obj.cells #[Value.int IntKind.i64 q1, Value.int IntKind.i64 q2] 75)).drew) := (((Below.refl _ w).alloc (Nat.le_refl _) _).alloc (by simp) _).drew
  have hB2 : Below w.heap.size w (((w.alloc (Obj.cells #[Value.int IntKind.i64 q1, Value.int IntKind.i64 q2] 75)).alloc (Obj.cells #[Value.int IntKind.i64 p1, Value.int IntKind.i64 p2] 75)).drew) := (((Below.refl _ w).alloc (Nat.le_refl _) _).alloc (by simp) _).drew
  by_cases hz : cmpZ p1 q1 = 0
  · rw [if_pos hz]
    have C1' := Lib.hid (fun u => (hz ▸ C1.out u : Calls Try.prog 47 #[.int .i64 p1, .int .i64 q1] u (fun e w' => e = .returned (.int .i64 0) ∧ u = w')))
    clear hz C1
    go_enter Try.func46, Try.ntmps46
    go_wp2_with fail
    go_region
    all_goals
      go_wp2_with (first | (go_at_call 47; (with_reducible refine (C1'.out _).mono ?_); rintro e w1 ⟨rfl, rfl⟩) | (go_at_call 48; (with_reducible refine (C2.out _).mono ?_); rintro e w1 ⟨rfl, rfl⟩))
      go_ret
      first
      | exact ⟨rfl, hB⟩
      | exact ⟨rfl, hB2⟩
  · rw [if_neg hz]
    have hz1 : (cmpZ p1 q1 == 0) = false := by simpa using hz
    have hz2 : (cmpZ p1 q1 != 0) = true := by simpa using hz
    generalize cmpZ p1 q1 = c at *
    clear hz
    go_enter Try.func46, Try.ntmps46
    go_wp2_with fail
    go_region
    all_goals
      go_wp2_with (first | (go_at_call 47; (with_reducible refine (C1.out _).mono ?_); rintro e w1 ⟨rfl, rfl⟩) | (go_at_call 48; (with_reducible refine (C2.out _).mono ?_); rintro e w1 ⟨rfl, rfl⟩))
      go_ret
      first
      | exact ⟨rfl, hB⟩
      | exact ⟨rfl, hB2⟩
end Go.Proofs.Ythmblgfcjbiomaa.Hp
