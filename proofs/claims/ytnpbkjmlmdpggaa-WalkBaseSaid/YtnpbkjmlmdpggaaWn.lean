import Derived.Test.YtnpbkjmlmdpggaaWm
import Derived.Test.YtnpbkjmlmdpggaaWg
import Derived.Deep.Slices
/- Rows of orders; slices.Backward over them, by its contract. -/
set_option linter.unusedVariables false
set_option linter.unusedSimpArgs false
namespace Go.Proofs.Ytnpbkjmlmdpggaa.Wk
open Go.RowKit Go.Shelf Ly Od
attribute [local go_sem] Oper.semAt_some

/-- A slice that reads as a list of orders. -/
def OrdsAt (S : Nat → Prop) (w : World) (v : Value) (l : List O) : Prop :=
  ∃ ao cap, v = .slice ao l.length cap ∧ l.length ≤ cap ∧ l.length ≤ 1000000000000000000 ∧ (0 < l.length → ∃ b off, ao = some ⟨b, off, none⟩ ∧ b < w.heap.size ∧ ∀ i, i < l.length → ∃ ov, Js.LiesAt w b (off + i * 6) ov ∧ OAt S w ov (l.getD i o0))
theorem OrdsAt.below {S : Nat → Prop} {w w' : World} {v : Value} {l : List O} (h : OrdsAt S w v l) {B : Nat} (hb : Below B w w') (hB : w.heap.size ≤ B) : OrdsAt S w' v l := by
  obtain ⟨ao, cap, h1, h2, h3, h4⟩ := h
  refine ⟨ao, cap, h1, h2, h3, fun hp => ?_⟩
  obtain ⟨b, off, e1, e2, e3⟩ := h4 hp
  refine ⟨b, off, e1, Nat.lt_of_lt_of_le e2 hb.size, fun i hi => ?_⟩
  obtain ⟨ov, k1, k2⟩ := e3 i hi
  exact ⟨ov, k1.keep (hb.block b (by omega)), k2.below hb hB⟩
theorem OrdsAt.any {S : Nat → Prop} {w : World} {v : Value} {l : List O} (h : OrdsAt S w v l) : OrdsAt Js.Any w v l := by
  obtain ⟨ao, cap, h1, h2, h3, h4⟩ := h
  refine ⟨ao, cap, h1, h2, h3, fun hp => ?_⟩
  obtain ⟨b, off, e1, e2, e3⟩ := h4 hp
  refine ⟨b, off, e1, e2, fun i hi => ?_⟩
  obtain ⟨ov, k1, k2⟩ := e3 i hi
  exact ⟨ov, k1, k2.any⟩
theorem OrdsAt.nil {S : Nat → Prop} (w : World) (c : Nat) : OrdsAt S w (.slice none 0 c) [] := ⟨none, c, rfl, by simp, by simp, fun h => by simp at h⟩
theorem OrdsAt.take {S : Nat → Prop} {w : World} {ao : Option Addr} {n c : Nat} {l : List O} (h : OrdsAt S w (.slice ao n c) l) {k : Nat} (hk : k ≤ n) : OrdsAt S w (.slice ao k c) (l.take k) := by
  obtain ⟨ao', cap, e, h2, h3, h4⟩ := h
  cases e
  have hl : (l.take k).length = k := by rw [List.length_take]; omega
  refine ⟨ao, c, by rw [hl], by omega, by omega, fun h0 => ?_⟩
  obtain ⟨b, off, e1, e2, e3⟩ := h4 (by omega)
  refine ⟨b, off, e1, e2, fun i hi => ?_⟩
  rw [hl] at hi
  rw [show (l.take k).getD i o0 = l.getD i o0 by simp [List.getD_eq_getElem?_getD, List.getElem?_take, hi]]
  exact e3 i (by omega)
/-- An order's cells where it lies. -/
theorem six_at {S : Nat → Prop} {w : World} {b off : Nat} {ov : Value} {x : O} (h : Js.LiesAt w b off ov) (ho : OAt S w ov x) :
    ∃ an cn ae ce, ov = .agg #[.int .i64 x.h, .string ⟨x.v.toArray⟩, .int .i64 x.o, .int .i64 x.u, .slice an x.ns.length cn, .slice ae x.es.length ce] ∧ w.cell? ⟨b, off, none⟩ = some (.int .i64 x.h) ∧ w.cell? ⟨b, off + 1, none⟩ = some (.string ⟨x.v.toArray⟩) ∧ w.cell? ⟨b, off + 2, none⟩ = some (.int .i64 x.o) ∧ w.cell? ⟨b, off + 3, none⟩ = some (.int .i64 x.u) ∧ w.cell? ⟨b, off + 4, none⟩ = some (.slice an x.ns.length cn) ∧ w.cell? ⟨b, off + 5, none⟩ = some (.slice ae x.es.length ce) := by
  obtain ⟨an, cn, ae, ce, rfl, -⟩ := ho.open_
  exact ⟨an, cn, ae, ce, rfl, h 0 _ rfl, h 1 _ rfl, h 2 _ rfl, h 3 _ rfl, h 4 _ rfl, h 5 _ rfl⟩
/-- From behind. -/
def backL (n : Nat) : List Nat := (List.range n).reverse
theorem back_len (n : Nat) : (backL n).length = n := by simp [backL]
theorem back_take {n k : Nat} (h : k < n) : (backL n).take k ++ [n - 1 - k] = (backL n).take (k + 1) := by
  have e : (backL n)[k]? = some (n - 1 - k) := by simp [backL, h]
  rw [List.take_add_one, e]; rfl
def backSp (n : Nat) (pre : List Nat) : Prop := ∃ k, k ≤ n ∧ pre = (backL n).take k
theorem back_next {n : Nat} {pre : List Nat} {x : Nat} (h : backSp n (pre ++ [x])) : pre.length < n ∧ pre = (backL n).take pre.length ∧ x = n - 1 - pre.length := by
  obtain ⟨k, hk, e⟩ := h
  have hl := congrArg List.length e
  rw [List.length_append, List.length_take, back_len] at hl
  simp only [List.length_cons, List.length_nil] at hl
  obtain rfl : k = pre.length + 1 := by omega
  have h1 : pre.length < n := by omega
  rw [← back_take h1] at e
  obtain ⟨e1, e2⟩ := List.append_inj' e (by simp)
  exact ⟨h1, e1, by simpa using e2⟩
set_option maxRecDepth 100000 in
set_option maxHeartbeats 4000000 in
theorem back_in (m : Nat) (hm : 1 ≤ m) {S : Nat → Prop} {W0 W : World} {V : Nat → Prop} {l : List O} {v : Value} {bx : Nat} (hp : OrdsAt S W0 v l) (hb : Below W0.heap.size W0 W) (hV : ∀ k, k < W0.heap.size → V k) (hVb : V bx)
    (hbx : W.cell? ⟨bx, 0, none⟩ = some v) (ovs : Nat → Value) (hov : ∀ i, i < l.length → OAt S W0 (ovs i) (l.getD i o0) ∧ ∀ b off c, v = .slice (some ⟨b, off, none⟩) l.length c → Js.LiesAt W0 b (off + i * 6) (ovs i)) (ly : Nat) (J Jx : List Nat → World → Prop)
    (hY : ∀ (pre : List Nat) (x : Nat) (W1 : World), J pre W1 → backSp l.length (pre ++ [x]) → YieldAt Fence.wide (m - 1) Try.prog ly #[.int .i64 (x : Int), ovs x] W1 fun e W' =>
      (e = .returned (.bool true) ∧ J (pre ++ [x]) W' ∧ Kv V W1 W') ∨ (e = .returned (.bool false) ∧ Jx (pre ++ [x]) W'))
    (h0 : J [] W) :
    CallsIn Fence.wide m Try.prog 60 #[.func (.yield ly) #[] #[], .pointer (some ⟨bx, 0, none⟩)] W fun e W' => (∃ v, e = .returned v) ∧
      ((∃ xs, xs = backL l.length ∧ J xs W') ∨ (∃ pre, backSp l.length pre ∧ Jx pre W')) := by
  obtain ⟨ao, ac, rfl, hcap, hl, hc⟩ := hp
  have HC : Hid (∀ i, i < l.length → ∃ b off, ao = some ⟨b, off, none⟩ ∧ V b ∧ ∃ h vv o u nv ev, ovs i = .agg #[.int .i64 h, .string vv, .int .i64 o, .int .i64 u, nv, ev] ∧ (∃ a n c, nv = .slice a n c) ∧ (∃ a n c, ev = .slice a n c) ∧ W.cell? ⟨b, off + i * 6, none⟩ = some (.int .i64 h) ∧ W.cell? ⟨b, off + i * 6 + 1, none⟩ = some (.string vv) ∧ W.cell? ⟨b, off + i * 6 + 2, none⟩ = some (.int .i64 o) ∧ W.cell? ⟨b, off + i * 6 + 3, none⟩ = some (.int .i64 u) ∧ W.cell? ⟨b, off + i * 6 + 4, none⟩ = some nv ∧ W.cell? ⟨b, off + i * 6 + 5, none⟩ = some ev) := fun i hi => by
    obtain ⟨b, off, e, hlt, -⟩ := hc (by omega)
    subst e
    obtain ⟨k1, k2⟩ := hov i hi
    obtain ⟨an, cn, ae, ce, e, c0, c1, c2, c3, c4, c5⟩ := six_at (k2 b off ac rfl) k1
    exact ⟨b, off, rfl, hV b hlt, _, _, _, _, _, _, e, ⟨_, _, _, rfl⟩, ⟨_, _, _, rfl⟩, (hb.cell (p := ⟨b, _, none⟩) hlt).trans c0, (hb.cell (p := ⟨b, _, none⟩) hlt).trans c1, (hb.cell (p := ⟨b, _, none⟩) hlt).trans c2, (hb.cell (p := ⟨b, _, none⟩) hlt).trans c3, (hb.cell (p := ⟨b, _, none⟩) hlt).trans c4, (hb.cell (p := ⟨b, _, none⟩) hlt).trans c5⟩
  have HVB := Lib.hid hVb
  have HBX := Lib.hid hbx
  obtain ⟨N, HN⟩ : ∃ N, Hid (l.length = N) := ⟨_, rfl⟩
  rw [HN.out] at HBX hbx hl HC hcap
  have HY := Lib.hid hY
  rw [HN.out] at HY ⊢
  clear hc hb hV hov hVb hY
  refine callsIn_of_wp Try.func60 rfl trivial ?_ rfl
  simp only [Try.ntmps60, List.size_toArray, List.length_cons, List.length_nil, Nat.reduceAdd, Nat.reduceSub, Array.replicate_succ, Array.replicate_zero, List.push_toArray, List.append_toArray, List.nil_append, List.cons_append]
  have hw0 : IntKind.i64.wrap ((N : Int) - 1) = (N : Int) - 1 := IntWalk.i64_in _ (by omega)
  gi_wp2
  gi_loopw [3] (fun i wr => ∃ k : Nat, k ≤ N ∧ i = .int .i64 ((N : Int) - 1 - k) ∧ J ((backL N).take k) wr ∧ Hid (Kv V W wr)) (fun i _ => (intOf i + 1).toNat)
  case atStart => exact ⟨0, Nat.zero_le _, by simp, h0, Kv.refl _ _⟩
  case round =>
    obtain ⟨k, hk, rfl, hJs, hKv⟩ := hrel
    clear hw0 hbx
    by_cases hlt : k < N
    · obtain ⟨j, hj⟩ : ∃ j : Nat, (N : Int) - 1 - k = (j : Int) := ⟨N - 1 - k, by omega⟩
      rw [hj]
      have hjN : j < N := by omega
      obtain ⟨b, off, rfl, hVb, hh, vv, oo, uu, nv, ev, e, ⟨a1, n1, k1, rfl⟩, ⟨a2, n2, k2, rfl⟩, c0, c1, c2, c3, c4, c5⟩ := HC.out j hjN
      have kc : ∀ (p : Addr), V p.block → ∀ {v}, W.cell? p = some v → wr.cell? p = some v := fun p hp v h => (World.cell?_of_block (hKv.out.block p.block hp)).trans h
      replace c0 := kc _ hVb c0
      replace c1 := kc _ hVb c1
      replace c2 := kc _ hVb c2
      replace c3 := kc _ hVb c3
      replace c4 := kc _ hVb c4
      replace c5 := kc _ hVb c5
      have hbx := kc _ HVB.out HBX.out
      have ht := back_take hlt
      rw [show N - 1 - k = j by omega] at ht
      obtain ⟨fn, tmps, assign, body, hy, hR⟩ := HY.out _ j wr hJs ⟨k + 1, hlt, ht⟩
      rw [ht] at hR
      rw [e] at hy
      have hj0 : (0 : Int) ≤ (j : Int) := by omega
      have hj1 : (j : Int) < (N : Int) := by omega
      have hwj : IntKind.i64.wrap ((j : Int) - 1) = (j : Int) - 1 := IntWalk.i64_in _ (by omega)
      have HJ := Lib.hid hj
      clear ht HC kc hj e
      gi_wp2
      refine hR.mono ?_
      rintro e W3 (⟨rfl, hJ3, hk3⟩ | ⟨rfl, hJx3⟩)
      · gi_wp2
        go_roundw
        case rel => exact ⟨k + 1, by omega, by have := HJ.out; simp; omega, hJ3, hKv.out.trans hk3⟩
        case measure => simp [intOf]
      · gi_wp2
        refine bodyPost_ret (results_none rfl _ _ _) rfl ?_
        exact ⟨⟨_, rfl⟩, .inr ⟨_, ⟨k + 1, by omega, rfl⟩, hJx3⟩⟩
    · obtain rfl : k = N := by omega
      have hi : decide ((0 : Int) ≤ (k : Int) - 1 - k) = false := by simp; omega
      gi_wp2
      go_end0
      exact ⟨⟨_, rfl⟩, .inl ⟨_, by rw [List.take_of_length_le (by rw [back_len]; omega)], hJs⟩⟩
/-- The values of a row of orders. -/
def ovF (l : List O) (A : Nat → Option Addr) (C : Nat → Nat) (A' : Nat → Option Addr) (C' : Nat → Nat) (i : Nat) : Value :=
  .agg #[.int .i64 (l.getD i o0).h, .string ⟨(l.getD i o0).v.toArray⟩, .int .i64 (l.getD i o0).o, .int .i64 (l.getD i o0).u, .slice (A i) (l.getD i o0).ns.length (C i), .slice (A' i) (l.getD i o0).es.length (C' i)]
theorem OrdsAt.vals {S : Nat → Prop} {w : World} {ao : Option Addr} {n c : Nat} {l : List O} (h : OrdsAt S w (.slice ao n c) l) :
    ∃ A C A' C', ∀ i, i < l.length → OAt S w (ovF l A C A' C' i) (l.getD i o0) ∧ ∀ b off c', Value.slice ao n c = .slice (some ⟨b, off, none⟩) l.length c' → Js.LiesAt w b (off + i * 6) (ovF l A C A' C' i) := by
  obtain ⟨ao', cap, e, h2, h3, h4⟩ := h
  cases e
  have one : ∀ i, i < l.length → ∃ q : Option Addr × Nat × Option Addr × Nat, OAt S w (oV (l.getD i o0).h (l.getD i o0).v (l.getD i o0).o (l.getD i o0).u (.slice q.1 (l.getD i o0).ns.length q.2.1) (.slice q.2.2.1 (l.getD i o0).es.length q.2.2.2)) (l.getD i o0) ∧ ∀ b off c', Value.slice ao l.length c = .slice (some ⟨b, off, none⟩) l.length c' → Js.LiesAt w b (off + i * 6) (oV (l.getD i o0).h (l.getD i o0).v (l.getD i o0).o (l.getD i o0).u (.slice q.1 (l.getD i o0).ns.length q.2.1) (.slice q.2.2.1 (l.getD i o0).es.length q.2.2.2)) := fun i hi => by
    obtain ⟨b, off, e1, e2, e3⟩ := h4 (by omega)
    subst e1
    obtain ⟨ov, k1, k2⟩ := e3 i hi
    obtain ⟨an, cn, ae, ce, rfl, -⟩ := k2.open_
    refine ⟨(an, cn, ae, ce), k2, fun b' off' c' e => ?_⟩
    cases e
    exact k1
  obtain ⟨f, hf⟩ := Deep.choose_lt one
  exact ⟨fun i => (f i).1, fun i => (f i).2.1, fun i => (f i).2.2.1, fun i => (f i).2.2.2, fun i hi => hf i hi⟩
/-- **The iterator's contract.** -/
theorem back_seq (m : Nat) (hm : 1 ≤ m) {S : Nat → Prop} {W0 w : World} {V : Nat → Prop} {l : List O} {v : Value} {bx : Nat} (hp : OrdsAt S W0 v l) (hb : Below W0.heap.size W0 w) (hV : ∀ k, k < W0.heap.size → V k) (hVb : V bx)
    (hbx : w.cell? ⟨bx, 0, none⟩ = some v) (ovs : Nat → Value) (hov : ∀ i, i < l.length → OAt S W0 (ovs i) (l.getD i o0) ∧ ∀ b off c, v = .slice (some ⟨b, off, none⟩) l.length c → Js.LiesAt W0 b (off + i * 6) (ovs i)) :
    SeqV Fence.wide m Try.prog 60 #[.pointer (some ⟨bx, 0, none⟩)] (fun x : Nat => #[.int .i64 (x : Int), ovs x]) V (fun xs => xs = backL l.length) (backSp l.length) w := by
  intro ly J Jx W hW hJ hJx hY h0
  exact back_in m hm hp (hb.trans (hW.mono hb.size)) hV hVb ((hW.cell (p := ⟨bx, 0, none⟩) (cell_lt hbx)).trans hbx) ovs hov ly J Jx hY h0
theorem backward_any (ao : Option Addr) (n c : Nat) (w : World) :
    Calls Try.prog 58 #[.slice ao n c] w (fun e w' => e = .returned (.func (.func 60) #[] #[.pointer (some ⟨w.heap.size, 0, none⟩)]) ∧ w.alloc (.cells #[.slice ao n c] 40) = w') := by
  go_enter Try.func58, Try.ntmps58
  go_wp2
  go_ret
  exact ⟨rfl, rfl⟩
/-- Whether one of the last of k orders, as far back as they have a number, comes to a node. -/
def comesK (nm : List UInt8 → Bool) (l : List O) (num node : Int) : Nat → Bool
  | 0 => false
  | k + 1 => decide ((l.getD k o0).o = num) && (decide (node ∈ stopsL (baseS nm (l.getD k o0))) || comesK nm l num node k)
end Go.Proofs.Ytnpbkjmlmdpggaa.Wk
