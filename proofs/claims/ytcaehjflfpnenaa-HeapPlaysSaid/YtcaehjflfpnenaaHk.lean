import Derived.Test.YtcaehjflfpnenaaHj
import Derived.Deep.DeepCutAuto
import Derived.Deep.CutRange
/- Slices of pairs: among the arguments, and one that a law grows. -/
set_option linter.unusedVariables false
set_option linter.unusedSimpArgs false
namespace Go.Proofs.Ytcaehjflfpnenaa.Hp
open Go.RowKit

/-- A slice of pairs that reads as a list. -/
def PairsAt (w : World) (v : Value) (l : List Pr) : Prop :=
  ∃ ao cap, v = .slice ao l.length cap ∧ l.length ≤ 1000000000000000000 ∧ (0 < l.length → ∃ b o, ao = some ⟨b, o, none⟩ ∧ b < w.heap.size ∧
    ∀ j, j < l.length → w.cell? ⟨b, o + j * 2, none⟩ = some (.int .i64 (at' l j).1) ∧ w.cell? ⟨b, o + j * 2 + 1, none⟩ = some (.int .i64 (at' l j).2))
theorem pair_info : (Try.prog.info? 32).map (fun i => (i.zero, i.size, i.bytes)) = some (some (.agg #[.int .i64 0, .int .i64 0]), 2, 16) := by kernel_rfl
set_option maxRecDepth 100000 in
theorem eq2_run (a b c d : Int) (w : World) : (Op.equalIn 10000 32 (.agg #[.int .i64 a, .int .i64 b]) (.agg #[.int .i64 c, .int .i64 d])).run Try.prog w = .ok (a == c && b == d) w := by
  rw [show (10000 : Nat) = 9999 + 1 from rfl, Op.equalIn]
  simp only [Sem.run_bind, run_underlying Try.underlying32, Result.andThen_ok]
  simp only [Std.Legacy.Range.forIn_eq_forIn_range', Std.Legacy.Range.size, Nat.sub_zero, Nat.add_sub_cancel, Nat.div_one, List.range'_succ, List.range'_zero, List.forIn_cons, List.forIn_nil]
  go_simp
  by_cases h : a = c <;> by_cases k : b = d <;> simp [*]
theorem eq2_at (p q : Pr) (t : Bool) (h : decide (p = q) = t) (w : World) : (Op.equalIn 10000 32 (.agg #[.int .i64 p.1, .int .i64 p.2]) (.agg #[.int .i64 q.1, .int .i64 q.2])).run Try.prog w = .ok t w := by
  rw [eq2_run, ← h]
  congr 1
  obtain ⟨p1, p2⟩ := p
  obtain ⟨q1, q2⟩ := q
  by_cases h : p1 = q1 <;> by_cases k : p2 = q2 <;> simp [*]
def pickS (c n : Int) : Int := (if c < 0 then -(c + 1) else c) % n
theorem pickS_nonneg {c n : Int} (h : 0 < n) : 0 ≤ pickS c n := Int.emod_nonneg _ (by omega)
theorem pickS_lt {c n : Int} (h : 0 < n) : pickS c n < n := Int.emod_lt_of_pos _ h
theorem ret_int {k : IntKind} {a b : Int} (h : a = b) : Ending.returned (.int k a) = .returned (.int k b) := by rw [h]
theorem pick_any (c n : Int) (w : World) (hc0 : -9223372036854775808 ≤ c) (hc1 : c ≤ 9223372036854775807) (hn0 : 0 < n) (hn1 : n ≤ 9223372036854775807) :
    Calls Try.prog 17 #[.int .i64 c, .int .i64 n] w (fun e w' => e = .returned (.int .i64 (pickS c n)) ∧ w = w') := by
  by_cases hc : c < 0
  all_goals
    go_enter Try.func17, Try.ntmps17
    go_wp2
    go_ret
    refine ⟨ret_int ?_, rfl⟩
    unfold pickS
    first
      | (rw [if_pos hc, ← Int.neg_tmod, Int.tmod_eq_emod_of_nonneg (by omega)]; done)
      | rw [if_neg (by omega)]

/-- A row of pairs of one's own is apart from a heap. -/
theorem far {B b n : Nat} {w : World} {v vo : Value} {s : List Pr} {xs : List Value} (h : HpIs B w b v s) (ho : w.ownsRow B 32 2 vo n xs) : vo.ownBlock ≠ some b ∧ (∀ g, vo.ownBlock = some g → v.ownBlock ≠ some g) := by
  obtain ⟨l, h1, _⟩ := h
  rcases ho.2 with ⟨rfl, _⟩ | ⟨g, cap, cur, rfl, _, hg, _⟩
  · exact ⟨fun e => (by cases e), fun g e => (by cases e)⟩
  · refine ⟨fun e => ?_, fun g' e e2 => ?_⟩
    · cases e
      have := h1.cell
      rw [hg] at this
      simp at this
    · cases e
      rcases h1.row.2 with ⟨rfl, _⟩ | ⟨g2, cap2, cur2, rfl, _, hg2, _⟩
      · cases e2
      · cases e2
        rw [hg] at hg2
        simp at hg2
theorem row_only {B b n : Nat} {w w' : World} {r r' : Option Nat} {vo : Value} {xs : List Value} (ho : w.ownsRow B 32 2 vo n xs) (h : Only b r r' w w') (h1 : vo.ownBlock ≠ some b) (h2 : ∀ g, vo.ownBlock = some g → r ≠ some g) : w'.ownsRow B 32 2 vo n xs := by
  refine ⟨ho.1, ?_⟩
  rcases ho.2 with hn | ⟨g, cap, cur, rfl, hb, hg, hq⟩
  · exact .inl hn
  · exact .inr ⟨g, cap, cur, rfl, hb, (h.block g (Array.getElem?_eq_some_iff.1 hg).1 (fun e => h1 (by rw [← e]; rfl)) (fun e => h2 g rfl e.symm)).trans hg, hq⟩
theorem hp_grown {B b : Nat} {w w' : World} {v vo : Value} {s : List Pr} (h : HpIs B w b v s) (hg : w.grownBy w' vo.ownBlock) (h1 : vo.ownBlock ≠ some b) (h2 : ∀ g, vo.ownBlock = some g → v.ownBlock ≠ some g) : HpIs B w' b v s :=
  h.keep (hg.block b h.at.2.1 (fun e => h1 e.symm)) (fun g e => hg.block g (h.at.2.2.2 g e).2 (fun e2 => h2 g e2.symm e))
theorem take_next {l : List Pr} {k : Nat} (h : k < l.length) : l.take (k + 1) = l.take k ++ [at' l k] := by
  rw [List.take_succ_eq_append_getElem h, at_lt h]
theorem ins_next {l : List Pr} {k : Nat} (h : k < l.length) : insP (at' l k) (sortP (l.take k)) = sortP (l.take (k + 1)) := by rw [take_next h, ins_sort]
theorem at_drop (l : List Pr) (k : Nat) : at' (l.drop k) 0 = at' l k := by simp [at', List.getD_eq_getElem?_getD]
theorem drop_cons {l : List Pr} {k : Nat} (h : k < l.length) : l.drop k = at' l k :: l.drop (k + 1) := by rw [at_lt h]; exact List.drop_eq_getElem_cons h
/-- A row of pairs of one's own grows: a heap stays. -/
theorem grow_step {B b n : Nat} {W wX w3 : World} {v vo : Value} {s : List Pr} {xs : List Value} {o : Obj} (hH : HpIs B wX b v s) (hrow : wX.ownsRow B 32 2 vo n xs) (hgrow : (wX.alloc o).grownBy w3 vo.ownBlock) (hB : Below B W wX) : HpIs B w3 b v s ∧ Below B W w3 := by
  have hf := far hH hrow
  have hs := Nat.le_of_lt (Nat.lt_of_le_of_lt hH.at.1 hH.at.2.1)
  exact ⟨hp_grown (hH.below ((Below.refl _ _).alloc (Nat.le_refl _) o)) hgrow hf.1 hf.2, (hB.alloc hs o).grown hgrow (by simp; omega) (fun k hk => (hrow.lt k hk).1)⟩
theorem row_cell {B g n cp i : Nat} {w : World} {T : List Pr} (h : w.ownsRow B 32 2 (.slice (some ⟨g, 0, none⟩) n cp) n (flat T)) (hT : T.length = n) (hi : i < n) :
    w.cell? ⟨g, i * 2, none⟩ = some (.int .i64 (at' T i).1) ∧ w.cell? ⟨g, i * 2 + 1, none⟩ = some (.int .i64 (at' T i).2) := by
  rw [h.cellAt _ (by omega), h.cellAt _ (by omega)]
  exact flat_get (by omega)
theorem row_form {B n : Nat} {w : World} {e : TypeId} {sz : Nat} {v : Value} {xs : List Value} (h : w.ownsRow B e sz v n xs) : ∃ ao cap, v = .slice ao n cap := by
  rcases h.2 with ⟨rfl, hn⟩ | ⟨g, cp, cur, hv, _⟩
  · exact ⟨none, 0, by rw [hn]⟩
  · exact ⟨_, _, hv⟩
theorem flat_next {S : List Pr} {k : Nat} (h : k < S.length) : flat (S.take k) ++ [.int .i64 (at' S k).1, .int .i64 (at' S k).2] = flat (S.take (k + 1)) := by
  rw [take_next h, flat_append]
  rfl
theorem len_at {base : Nat} {w : World} {b : Nat} {v : Value} {s : List Pr} (h : HpIs base w b v s) (y : Int) (hy : y = (s.length : Int)) : Calls Try.prog 15 #[.pointer (some ⟨b, 0, none⟩)] w (fun e w' => e = .returned (.int .i64 y) ∧ w = w') := by
  subst hy
  exact len_any h
theorem cnt_next {L : List Pr} {k : Nat} (h : k < L.length) (x : Pr) (t : Bool) (ht : decide (at' L k = x) = t) : (L.take (k + 1)).count x = (L.take k).count x + (if t then 1 else 0) := by
  rw [take_next h, List.count_append]
  congr 1
  subst ht
  by_cases e : at' L k = x
  · subst e; simp
  · simp [e]
theorem cnt_le (L : List Pr) (k : Nat) (x : Pr) : (L.take k).count x ≤ k := Nat.le_trans List.count_le_length (by rw [List.length_take]; omega)
/-- What is pushed again, the other way round, stands ahead as it stood. -/
theorem asc_at {s : List Pr} (h : Asc s) {i j : Nat} (hij : i < j) (hj : j < s.length) : LeP (at' s i) (at' s j) := by
  rw [at_lt (by omega), at_lt hj]
  exact List.pairwise_iff_getElem.1 h i j (by omega) hj hij
end Go.Proofs.Ytcaehjflfpnenaa.Hp
