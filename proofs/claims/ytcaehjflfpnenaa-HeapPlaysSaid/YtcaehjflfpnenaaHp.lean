import Derived.Test.YtcaehjflfpnenaaHk
import Derived.Maps.AppendAt
/- The document's heap. -/
set_option linter.unusedVariables false
set_option linter.unusedSimpArgs false
namespace Go.Proofs.Ytcaehjflfpnenaa.Hp
open Go.RowKit

/-- Pairs that stand one behind the other, wherever. -/
def Src (w : World) (v : Value) (m : Nat) (T : List Pr) : Prop :=
  (v = .slice none 0 0 ∧ m = 0 ∧ T = []) ∨ ∃ g o c cur fr, v = .slice (some ⟨g, o, none⟩) m c ∧ m ≤ c ∧ T.length = m ∧ w.heap[g]? = some (.cells cur 32 fr) ∧ ∀ j u, (flat T)[j]? = some u → w.cell? ⟨g, o + j, none⟩ = some u
/-- The document's heap's block, and the slice in it. -/
structure RfAt (base : Nat) (w : World) (b : Nat) (v : Value) (s : List Pr) : Prop where
  ge : base ≤ b
  cell : w.heap[b]? = some (.cells #[v] 44 (0, 0))
  row : Src w v s.length s
  short : s.length ≤ 1000
theorem one_flat (T : List Pr) : ∀ u ∈ flat T, u.oneCell' = true := by
  intro u hu
  obtain ⟨p, _, h⟩ := List.mem_flatMap.1 hu
  simp [pairC] at h
  rcases h with rfl | rfl <;> rfl
theorem add_plain' (b o j : Nat) : (⟨b, o, none⟩ : Addr).add j = ⟨b, o + j, none⟩ := by unfold Addr.add; split <;> simp_all
/-- append of what stands anywhere, at a step of a region that draws. -/
theorem step_append_src {ops : Array Oper} {o : Oper} {a : Act} {w : World} {K : Act → World → Prop} {Q : Exit → Act → World → Prop} {E : Prop} (hgd : o.guard = none) (s x : Operand)
    (ho : o.op = .call { callee := .builtin .append, args := #[s, x], argTypes := #[22, 22] })
    (base : Nat) (v : Value) (n : Nat) (T : List Pr) (hs : a.eval s = v) (hown : w.ownsRow base 32 2 v n (flat T)) (xv : Value) (m : Nat) (U : List Pr) (hxv : a.eval x = xv) (hx : Src w xv m U)
    (h63 : n + m ≤ 1000000) (hbase : base ≤ w.heap.size)
    (h : ∀ v' w', w'.ownsRow base 32 2 v' (n + m) (flat (T ++ U)) → w.grownBy w' v.ownBlock → (v'.ownBlock = v.ownBlock ∨ v'.ownBlock = some w.heap.size) → K (a.put o.dst v') w') :
    if Region.wanted o (yielded ops a.tmps) = true then Oper.wp Try.prog o a w K Q else E := by
  have hw : Region.wanted o (yielded ops a.tmps) = true := by simp [Region.wanted, hgd]
  rw [if_pos hw]
  obtain ⟨i0, hi0, hz0, hz1, hz2⟩ := info_parts pair_info
  have hr : ∃ v' w', (Builtin.append_ #[22, 22] o.type #[v, xv]).run Try.prog w = .ok v' w' ∧ w'.ownsRow base 32 2 v' (n + m) (flat (T ++ U)) ∧ w.grownBy w' v.ownBlock ∧ (v'.ownBlock = v.ownBlock ∨ v'.ownBlock = some w.heap.size) := by
    rcases hx with ⟨rfl, rfl, rfl⟩ | ⟨g, of, c, cur, fr, rfl, hmc, hT, hg, hc⟩
    · exact ⟨v, w, run_append_owned_none (P := Try.prog) w base 22 o.type 32 i0 2 Try.underlying22 hi0 v n (flat T) hown, by rw [Nat.add_zero, List.append_nil]; exact hown, ⟨rfl, rfl, rfl, Nat.le_refl _, fun _ _ _ => rfl⟩, .inl rfl⟩
    · obtain ⟨v', w', h2, h3, h4, _, h5⟩ := run_append_own_at (P := Try.prog) w base 22 o.type 32 i0 _ 2 16 Try.underlying22 hi0 hz0 hz1 hz2 rfl (by omega) v n (flat T) hown ⟨g, of, none⟩ m c (flat U) (by rw [flat_len, hT]) (fun j u hu => by rw [add_plain']; exact hc j u hu) (one_flat U) (by unfold maxLen; omega) (by omega) hbase
      exact ⟨v', w', h2, by rw [flat_append]; exact h3, h4, h5⟩
  obtain ⟨v', w', hr, h2, h3, h4⟩ := hr
  unfold Oper.wp execOp
  simp only [ho, resolve, invoke, builtin, Sem.run_bind, Sem.run_pure, Result.andThen_ok, List.map_toArray, List.map_cons, List.map_nil, hs, hxv, hr]
  exact h v' w' h2 h3 h4
theorem Src.keep {w w' : World} {v : Value} {m : Nat} {T : List Pr} (h : Src w v m T) (hk : ∀ g cur fr, w.heap[g]? = some (.cells cur 32 fr) → v.ownBlock = some g → w'.heap[g]? = w.heap[g]?) : Src w' v m T := by
  rcases h with h | ⟨g, o, c, cur, fr, rfl, h1, h2, hg, hc⟩
  · exact .inl h
  · have hb := hk g cur fr hg rfl
    refine .inr ⟨g, o, c, cur, fr, rfl, h1, h2, hb.trans hg, fun j u hu => ?_⟩
    rw [← hc j u hu]
    unfold World.cell?
    rw [hb]
theorem Src.below {w w' : World} {v : Value} {m : Nat} {T : List Pr} (h : Src w v m T) (hb : Below w.heap.size w w') : Src w' v m T :=
  h.keep (fun g cur fr hg _ => hb.block g (Array.getElem?_eq_some_iff.1 hg).1)
/-- A row of one's own stands somewhere. -/
theorem src_own {base n : Nat} {w : World} {v : Value} {T : List Pr} (h : w.ownsRow base 32 2 v n (flat T)) (hn : T.length = n) : Src w v n T := by
  rcases h.2 with ⟨rfl, h0⟩ | ⟨g, cap, cur, rfl, _, hg, hc, _, _, htk⟩
  · exact .inl ⟨rfl, h0, List.length_eq_zero_iff.1 (by omega)⟩
  · refine .inr ⟨g, 0, cap, cur, (0, 0), rfl, hc, hn, hg, fun j u hu => ?_⟩
    rw [Nat.zero_add, cell_of_row w g j cur _ (0, 0) hg]
    rw [← htk, List.getElem?_take] at hu
    split at hu
    · simpa using hu
    · cases hu
theorem Src.take {w : World} {g o n c k : Nat} {T : List Pr} (h : Src w (.slice (some ⟨g, o, none⟩) n c) n T) (hk : k ≤ n) : Src w (.slice (some ⟨g, o, none⟩) k c) k (T.take k) := by
  rcases h with ⟨h, _⟩ | ⟨g', o', c', cur, fr, h', h1, h2, hg, hc⟩
  · cases h
  · simp only [Value.slice.injEq, Option.some.injEq, Addr.mk.injEq, and_true, true_and] at h'
    obtain ⟨⟨rfl, rfl⟩, rfl⟩ := h'
    refine .inr ⟨g, o, c, cur, fr, rfl, by omega, by rw [List.length_take]; omega, hg, fun j u hu => hc j u ?_⟩
    rw [flat_take, List.getElem?_take] at hu
    split at hu
    · exact hu
    · cases hu
theorem flat_drop : ∀ {l : List Pr} (n : Nat), flat (l.drop n) = (flat l).drop (n * 2)
  | [], n => by simp [flat]
  | x :: r, 0 => rfl
  | x :: r, n + 1 => by
    rw [List.drop_succ_cons, flat_cons, flat_drop (l := r), show (n + 1) * 2 = n * 2 + 1 + 1 by omega]
    rfl
theorem Src.drop {w : World} {g o n c k : Nat} {T : List Pr} (h : Src w (.slice (some ⟨g, o, none⟩) n c) n T) (hk : k ≤ n) : Src w (.slice (some ⟨g, if c = k then o else o + k * 2, none⟩) (n - k) (c - k)) (n - k) (T.drop k) := by
  rcases h with ⟨h, _⟩ | ⟨g', o', c', cur, fr, h', h1, h2, hg, hc⟩
  · cases h
  · simp only [Value.slice.injEq, Option.some.injEq, Addr.mk.injEq, and_true, true_and] at h'
    obtain ⟨⟨rfl, rfl⟩, rfl⟩ := h'
    refine .inr ⟨g, _, c - k, cur, fr, rfl, by omega, by rw [List.length_drop]; omega, hg, fun j u hu => ?_⟩
    rw [flat_drop, List.getElem?_drop] at hu
    have hj := (List.getElem?_eq_some_iff.1 hu).1
    rw [flat_len] at hj
    split
    · omega
    · rw [Nat.add_assoc]
      exact hc _ u hu
theorem Src.get {w : World} {g o n c i : Nat} {T : List Pr} (h : Src w (.slice (some ⟨g, o, none⟩) n c) n T) (hi : i < n) : w.cell? ⟨g, o + i * 2, none⟩ = some (.int .i64 (at' T i).1) ∧ w.cell? ⟨g, o + i * 2 + 1, none⟩ = some (.int .i64 (at' T i).2) := by
  rcases h with ⟨h, _⟩ | ⟨g', o', c', cur, fr, h', h1, h2, hg, hc⟩
  · cases h
  · simp only [Value.slice.injEq, Option.some.injEq, Addr.mk.injEq, and_true, true_and] at h'
    obtain ⟨⟨rfl, rfl⟩, rfl⟩ := h'
    have := flat_get (l := T) (i := i) (by omega)
    exact ⟨hc _ _ this.1, by rw [Nat.add_assoc]; exact hc _ _ this.2⟩
end Go.Proofs.Ytcaehjflfpnenaa.Hp
