import Derived.Test.YtnpbkjmlmdpggaaWa
import Derived.Test.YtnpbkjmlmdpggaaKc
import Derived.Test.YtnpbkjmlmdpggaaYb
/- The iterator over a path's elements by turns, by its contract. -/
set_option linter.unusedVariables false
set_option linter.unusedSimpArgs false
namespace Go.Proofs.Ytnpbkjmlmdpggaa.Wk
open Go.RowKit Go.Shelf Ly
attribute [local go_sem] Oper.semAt_some

/-- A path's elements, each with whether it stands at an edge's place. -/
def turnsL (p : List Int) : List (Int × Bool) := (List.range p.length).map fun i => (ati p i, decide (i % 2 = 1))
theorem turns_len (p : List Int) : (turnsL p).length = p.length := by simp [turnsL]
theorem turns_at {p : List Int} {k : Nat} (h : k < p.length) : (turnsL p)[k]? = some (ati p k, decide (k % 2 = 1)) := by simp [turnsL, h]
theorem turns_take {p : List Int} {k : Nat} (h : k < p.length) : (turnsL p).take k ++ [(ati p k, decide (k % 2 = 1))] = (turnsL p).take (k + 1) := by
  rw [List.take_add_one, turns_at h]; rfl
def turnsSp (p : List Int) (pre : List (Int × Bool)) : Prop := ∃ k, k ≤ p.length ∧ pre = (turnsL p).take k
/-- What comes next is known. -/
theorem turns_next {p : List Int} {pre : List (Int × Bool)} {x : Int × Bool} (h : turnsSp p (pre ++ [x])) : pre.length < p.length ∧ pre = (turnsL p).take pre.length ∧ x = (ati p pre.length, decide (pre.length % 2 = 1)) := by
  obtain ⟨k, hk, e⟩ := h
  have hl := congrArg List.length e
  rw [List.length_append, List.length_take, turns_len] at hl
  simp only [List.length_cons, List.length_nil] at hl
  obtain rfl : k = pre.length + 1 := by omega
  have h1 : pre.length < p.length := by omega
  rw [← turns_take h1] at e
  obtain ⟨e1, e2⟩ := List.append_inj' e (by simp)
  exact ⟨h1, e1, by simpa using e2⟩
theorem next_flag (k : Nat) : (!decide (k % 2 = 1)) = decide ((k + 1) % 2 = 1) := by
  by_cases h : k % 2 = 1
  · rw [decide_eq_true h, decide_eq_false (by omega)]; rfl
  · rw [decide_eq_false h, decide_eq_true (by omega)]; rfl
set_option maxRecDepth 100000 in
set_option maxHeartbeats 2000000 in
theorem turns_in (m : Nat) (hm : 1 ≤ m) {W0 W : World} {V : Nat → Prop} {p : List Int} {v : Value} {bx : Nat} (hp : IntsAt W0 v p) (hb : Below W0.heap.size W0 W) (hV : ∀ k, k < W0.heap.size → V k)
    (hbx : W.cell? ⟨bx, 0, none⟩ = some v) (ly : Nat) (J Jx : List (Int × Bool) → World → Prop)
    (hY : ∀ pre x W1, J pre W1 → turnsSp p (pre ++ [x]) → YieldAt Fence.wide (m - 1) Try.prog ly #[.int .i64 x.1, .bool x.2] W1 fun e W' =>
      (e = .returned (.bool true) ∧ J (pre ++ [x]) W' ∧ Kv V W1 W') ∨ (e = .returned (.bool false) ∧ Jx (pre ++ [x]) W'))
    (h0 : J [] W) :
    CallsIn Fence.wide m Try.prog 45 #[.func (.yield ly) #[] #[], .pointer (some ⟨bx, 0, none⟩)] W fun e W' => (∃ v, e = .returned v) ∧
      ((∃ xs, xs = turnsL p ∧ J xs W') ∨ (∃ pre, turnsSp p pre ∧ Jx pre W')) := by
  obtain ⟨ao, ac, rfl, hl, hc⟩ := hp
  have HC : Hid (0 < p.length → ∃ b off, ao = some ⟨b, off, none⟩ ∧ V b ∧ ∀ i, i < p.length → W.cell? ⟨b, off + i, none⟩ = some (.int .i64 (ati p i))) := fun h => by
    obtain ⟨b, off, e, hlt, hcs⟩ := hc h
    exact ⟨b, off, e, hV b hlt, fun i hi => (hb.cell (p := ⟨b, off + i, none⟩) hlt).trans (hcs i hi)⟩
  clear hc hb hV
  refine callsIn_of_wp Try.func45 rfl trivial ?_ rfl
  simp only [Try.ntmps45, List.size_toArray, List.length_cons, List.length_nil, Nat.reduceAdd, Nat.reduceSub, Array.replicate_succ, Array.replicate_zero, List.push_toArray, List.append_toArray, List.nil_append, List.cons_append]
  gi_wp2
  gi_loopw [8, 3] (fun i t wr => ∃ k : Nat, k ≤ p.length ∧ i = .int .i64 k ∧ t = .bool (decide (k % 2 = 1)) ∧ J ((turnsL p).take k) wr ∧ Hid (Kv V W wr))
    (fun i _ _ => p.length - (intOf i).toNat)
  case atStart => exact ⟨0, Nat.zero_le _, rfl, rfl, h0, Kv.refl _ _⟩
  case round =>
    obtain ⟨k, hk, rfl, rfl, hJs, hKv⟩ := hrel
    by_cases hlt : k < p.length
    · obtain ⟨b, off, rfl, hVb, hcs⟩ := HC.out (by omega)
      have hcx : wr.cell? ⟨b, off + k, none⟩ = some (.int .i64 (ati p k)) := (World.cell?_of_block (w := W) (w' := wr) (a := ⟨b, off + k, none⟩) (hKv.out.block b hVb)).trans (hcs k hlt)
      clear hcs HC
      have ht := turns_take hlt
      have hnf := next_flag k
      obtain ⟨fn, tmps, assign, body, hy, hR⟩ := hY _ (ati p k, decide (k % 2 = 1)) wr hJs ⟨k + 1, hlt, ht⟩
      rw [ht] at hR
      have HT := Lib.hid ht
      clear ht
      generalize decide (k % 2 = 1) = t at *
      dsimp only at hy
      gi_wp2
      refine hR.mono ?_
      rintro e W3 (⟨rfl, hJ3, hk3⟩ | ⟨rfl, hJx3⟩)
      · gi_wp2
        go_roundw
        case rel => exact ⟨k + 1, by omega, by simp, by rw [← hnf], hJ3, hKv.out.trans hk3⟩
        case measure => simp [intOf]; omega
      · gi_wp2
        refine bodyPost_ret (results_none rfl _ _ _) rfl ?_
        exact ⟨⟨_, rfl⟩, .inr ⟨_, ⟨k + 1, by omega, rfl⟩, hJx3⟩⟩
    · obtain rfl : k = p.length := by omega
      gi_wp2
      go_end0
      exact ⟨⟨_, rfl⟩, .inl ⟨_, by rw [List.take_of_length_le (by rw [turns_len]; omega)], hJs⟩⟩
/-- **The iterator's contract.** -/
theorem turns_seq (m : Nat) (hm : 1 ≤ m) {W0 w : World} {V : Nat → Prop} {p : List Int} {v : Value} {bx : Nat} (hp : IntsAt W0 v p) (hb : Below W0.heap.size W0 w) (hV : ∀ k, k < W0.heap.size → V k) (hbx : w.cell? ⟨bx, 0, none⟩ = some v) (hlt : bx < w.heap.size) :
    SeqV Fence.wide m Try.prog 45 #[.pointer (some ⟨bx, 0, none⟩)] (fun x : Int × Bool => #[.int .i64 x.1, .bool x.2]) V (fun xs => xs = turnsL p) (turnsSp p) w := by
  intro l J Jx W hW hJ hJx hY h0
  exact turns_in m hm hp (hb.trans (hW.mono hb.size)) hV ((hW.cell (p := ⟨bx, 0, none⟩) hlt).trans hbx) l J Jx hY h0
theorem byTurns_any (v : Value) (hv : ∃ ao n c, v = .slice ao n c) (w : World) :
    Calls Try.prog 33 #[v] w (fun e w' => e = .returned (.func (.func 45) #[] #[.pointer (some ⟨w.heap.size, 0, none⟩)]) ∧ w.alloc (.cells #[v] 27) = w') := by
  obtain ⟨ao, n, c, rfl⟩ := hv
  go_enter Try.func33, Try.ntmps33
  go_wp2
  go_ret
  exact ⟨rfl, rfl⟩
end Go.Proofs.Ytnpbkjmlmdpggaa.Wk
