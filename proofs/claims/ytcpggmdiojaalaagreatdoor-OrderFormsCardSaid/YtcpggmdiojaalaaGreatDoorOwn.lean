import Derived.Test.YtcpggmdiojaalaaGreatDoorToks
/- Rows of one's own: they stay, grow by one element, and are read. -/
set_option linter.unusedVariables false
set_option linter.unusedSimpArgs false
namespace Go.Proofs.YtcpggmdiojaalaaGreatDoor.Own
open Go.RowKit

theorem block_lt {w : World} {g : Nat} {o : Obj} (h : w.heap[g]? = some o) : g < w.heap.size := by
  rcases Nat.lt_or_ge g w.heap.size with h' | h'
  · exact h'
  · rw [Array.getElem?_eq_none h'] at h; cases h
theorem own_below {w w' : World} {base : Nat} {e : TypeId} {size n : Nat} {v : Value} {xs : List Value} (h : w.ownsRow base e size v n xs) {B : Nat} (hb : Below B w w') (hB : w.heap.size ≤ B) : w'.ownsRow base e size v n xs := by
  refine ⟨h.1, ?_⟩
  rcases h.2 with hn | ⟨g, cap, cur, hv, hbg, hg, hr⟩
  · exact .inl hn
  · refine .inr ⟨g, cap, cur, hv, hbg, ?_, hr⟩
    have := block_lt hg
    rw [hb.block g (by omega)]; exact hg
/-- Rows of unlike elements are apart. -/
theorem own_apart {w : World} {b1 b2 : Nat} {e1 e2 : TypeId} {s1 s2 n1 n2 : Nat} {v1 v2 : Value} {x1 x2 : List Value} (h1 : w.ownsRow b1 e1 s1 v1 n1 x1) (h2 : w.ownsRow b2 e2 s2 v2 n2 x2) (he : e1 ≠ e2) :
    v2.ownBlock = none ∨ v2.ownBlock ≠ v1.ownBlock := by
  rcases h2.2 with ⟨rfl, _⟩ | ⟨g2, c2, u2, rfl, _, hg2, _⟩
  · exact .inl rfl
  · right
    rcases h1.2 with ⟨rfl, _⟩ | ⟨g1, c1, u1, rfl, _, hg1, _⟩
    · simp [Value.ownBlock]
    · simp only [Value.ownBlock, ne_eq, Option.some.injEq]
      rintro rfl
      rw [hg1] at hg2
      simp only [Option.some.injEq, Obj.cells.injEq] at hg2
      exact he hg2.2.1

/-- One element is appended to a row of one's own; rows of unlike elements stay. -/
theorem append_one {P : Program} {W : World} {ops : Array Oper} {rest : List Oper} {o : Oper} {a : Act} {Q : Exit → Act → World → Prop} (hgd : o.guard = none) (s x : Operand) {Ts T : TypeId} {size bytes : Nat} {z : Value}
    (hinfo : (P.info? T).map (fun i => (i.zero, i.size, i.bytes)) = some (some z, size, bytes)) (hz : z.cells.size = size) (hsz : 0 < size) (hu : P.underlying Ts = some (.slice T))
    (ho : o.op = .call { callee := .builtin .append, args := #[s, x], argTypes := #[Ts, Ts] }) (base : Nat) (v : Value) (n : Nat) (xs : List Value) (hs : a.eval s = v) (hown : W.ownsRow base T size v n xs)
    (B c : Nat) (hx : a.eval x = .slice (some ⟨B, 0, none⟩) 1 c) (news : List Value) (hl : news.length = size) (hB : W.heap[B]? = some (.cells news.toArray T (0, 0))) (hone : ∀ u ∈ news, u.oneCell' = true)
    (hlen : (n + 1) * bytes ≤ 140737488355328) (hmax : n + 1 ≤ maxLen) (hbase : base ≤ W.heap.size)
    (h : ∀ v' w', w'.ownsRow base T size v' (n + 1) (xs ++ news) → Below base W w' → (∀ b2 e2 s2 v2 n2 x2, T ≠ e2 → W.ownsRow b2 e2 s2 v2 n2 x2 → w'.ownsRow b2 e2 s2 v2 n2 x2) → wpList P ops Q rest (a.put o.dst v') w') : wpList P ops Q (o :: rest) a W := by
  obtain ⟨i0, hi0, hz0, hz1, hz2⟩ := info_parts hinfo
  refine wpList_append_own W hgd s x Ts ho base T i0 _ size bytes hu hi0 hz0 hz1 hz2 hz hsz v n xs hs hown ⟨B, 0, none⟩ 1 c news hx (by omega) ?_ hone hmax hlen hbase ?_
  · intro j u hu
    rw [show (⟨B, 0, none⟩ : Addr).add j = ⟨B, j, none⟩ by simp only [Addr.add]; split <;> simp_all, cell_of_row W B j _ _ _ hB]
    simpa using hu
  · intro v' w' h2 h3 _
    exact h v' w' h2 ((Below.refl _ _).grown h3 hbase (fun k hk => (World.ownsRow.lt hown k hk).1)) (fun b2 e2 s2 v2 n2 x2 he h4 => h4.kept h3 (own_apart hown h4 he))

/-- A slice of one-cell elements that reads as a list. -/
def OneAt {α : Type} (f : α → Value) (w : World) (v : Value) (l : List α) : Prop :=
  (∃ ao cap, v = .slice ao 0 cap ∧ l = []) ∨
  (∃ b cap, v = .slice (some ⟨b, 0, none⟩) l.length cap ∧ l.length ≤ cap ∧ l.length ≤ 9223372036854775807 ∧ b < w.heap.size ∧ ∀ j (hj : j < l.length), w.cell? ⟨b, j, none⟩ = some (f l[j]))
theorem OneAt.below {α : Type} {f : α → Value} {w w' : World} {v : Value} {l : List α} (h : OneAt f w v l) {B : Nat} (hb : Below B w w') (hB : w.heap.size ≤ B) : OneAt f w' v l := by
  rcases h with h | ⟨b, cap, h1, h2, h3, h4, h5⟩
  · exact .inl h
  · exact .inr ⟨b, cap, h1, h2, h3, Nat.lt_of_lt_of_le h4 hb.size, fun j hj => (hb.cell (by show b < B; omega)).trans (h5 j hj)⟩
theorem oneAt_own {α : Type} {f : α → Value} {w : World} {base : Nat} {T : TypeId} {v : Value} {l : List α} (h : w.ownsRow base T 1 v l.length (l.map f)) : OneAt f w v l := by
  rcases h.2 with ⟨rfl, hn⟩ | ⟨g, cap, cur, hv, hb, hg, hnc, hcm, hcs, htake⟩
  · exact .inl ⟨none, 0, rfl, List.length_eq_zero_iff.1 hn⟩
  · refine .inr ⟨g, cap, hv, hnc, Nat.le_trans hnc (by unfold maxLen at hcm; omega), block_lt hg, fun j hj => ?_⟩
    have h1 : (l.map f)[j]? = some (f l[j]) := by simp [hj]
    rw [cell_of_row w g _ cur _ _ hg, ← h1, ← htake, List.getElem?_take, if_pos (by omega)]
    simp
/-- The value's form, and its cells. -/
theorem OneAt.form {α : Type} {f : α → Value} {w : World} {v : Value} {l : List α} (h : OneAt f w v l) :
    ∃ ao cap, v = .slice ao l.length cap ∧ (0 < l.length → ∃ b, ao = some ⟨b, 0, none⟩ ∧ b < w.heap.size ∧ ∀ j (hj : j < l.length), w.cell? ⟨b, j, none⟩ = some (f l[j])) := by
  rcases h with ⟨ao, cap, rfl, rfl⟩ | ⟨b, cap, h1, h2, h3, h4, h5⟩
  · exact ⟨ao, cap, rfl, fun h => absurd h (by simp)⟩
  · exact ⟨some ⟨b, 0, none⟩, cap, h1, fun _ => ⟨b, rfl, h4, h5⟩⟩
theorem last_cell {w : World} {base : Nat} {T : TypeId} {g n cap : Nat} {xs : List Value} {u : Value} (h : w.ownsRow base T 1 (.slice (some ⟨g, 0, none⟩) (n + 1) cap) (n + 1) (xs ++ [u])) : w.cell? ⟨g, n, none⟩ = some u := by
  have hl : xs.length = n := by have := h.1; simp at this; omega
  rw [h.cellAt n (by omega), List.getElem?_append_right (by omega), hl]
  simp
end Go.Proofs.YtcpggmdiojaalaaGreatDoor.Own
