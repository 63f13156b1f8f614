import Derived.Test.YtcpggmdiojaalaaGreatDoorMOa
import Derived.Test.YtcpggmdiojaalaaGreatDoorRd7
import Derived.Test.YtcpggmdiojaalaaGreatDoorME
/- Layer 8, plain: an order's line, edge by edge; what the program takes of a value; for loops. -/
set_option linter.unusedVariables false
set_option linter.unusedSimpArgs false
namespace Go.Proofs.YtcpggmdiojaalaaGreatDoor.Od
open Go.RowKit Js

/-- An edge, and the node behind it, follow a node. -/
def stepB (a e b : St) : Bool := (numB e.id && (numB e.seq && (numB b.id && numB b.seq))) && (e.seq == a.seq + 1 && (b.seq == e.seq + 1 && (b.rel == e.rel && (a.rel || !e.rel))))
def stepsB : List St → List St → Bool
  | e :: es, a :: b :: r => stepB a e b && stepsB es (b :: r)
  | [], _ => true
  | _ :: _, [] => false
  | _ :: _, [_] => false
def firstB (a : St) : Bool := numB a.id && (numB a.seq && (decide (a.seq % 2 = 0) && a.rel))
def lineB (ns es : List St) : Bool := decide (1 ≤ ns.length) && (decide (ns.length ≤ 64) && (decide (es.length + 1 = ns.length) && (firstB (ns.headD st0) && stepsB es ns)))
theorem steps_nodes : ∀ {es r : List St} {a : St}, es.length = r.length → stepsB es (a :: r) = (nodesB (a.seq + 2) a.rel r && edgesB es (a :: r))
  | [], [], a, _ => by simp [stepsB, nodesB, edgesB]
  | e :: es, b :: r, a, h => by
    rw [stepsB, nodesB, edgesB, steps_nodes (es := es) (r := r) (a := b) (by simpa using h)]
    by_cases hs : b.seq = a.seq + 2
    · rw [hs]
      have e1 : (a.seq + 2 == a.seq + 2) = true := by simp
      have e2 : (a.seq + 2 == e.seq + 1) = (e.seq == a.seq + 1) := by
        rw [Bool.eq_iff_iff]; simp; omega
      unfold stepB
      rw [hs, e1, e2]
      have e3 : (b.rel == e.rel) = (e.rel == b.rel) := by cases b.rel <;> cases e.rel <;> rfl
      rw [e3]
      generalize numB e.id = x1
      generalize numB e.seq = x2
      generalize numB b.id = x3
      generalize numB (a.seq + 2) = x4
      generalize (e.seq == a.seq + 1) = x5
      generalize nodesB (a.seq + 2 + 2) b.rel r = x6
      generalize edgesB es (b :: r) = x7
      generalize a.rel = y1
      generalize b.rel = y2
      generalize e.rel = y3
      revert x1 x2 x3 x4 x5 x6 x7 y1 y2 y3
      decide
    · have e1 : (b.seq == a.seq + 2) = false := by simpa using hs
      have e2 : (e.seq == a.seq + 1 && b.seq == e.seq + 1) = false := by
        rw [Bool.eq_false_iff]; simp; omega
      have e3 : stepB a e b = false := by
        unfold stepB
        rw [← Bool.and_assoc (e.seq == a.seq + 1), e2]
        simp
      rw [e1, e3]
      simp
  | [], _ :: _, _, h => by simp at h
  | _ :: _, [], _, h => by simp at h
theorem line_right (nm : List UInt8 → Bool) (x : O) : rightO nm x = ((numB x.h && (numB x.o && numB x.u)) && (nm x.v && lineB x.ns x.es)) := by
  obtain ⟨h, v, o, u, ns, es⟩ := x
  unfold rightO lineB
  simp only
  by_cases hl : 1 ≤ ns.length ∧ es.length + 1 = ns.length
  · obtain ⟨h1, h2⟩ := hl
    match ns, h1 with
    | a :: r, _ =>
      have h3 : es.length = r.length := by simpa using h2
      rw [steps_nodes h3, nodesB]
      have hd : (a :: r).headD st0 = a := rfl
      have h2' : decide (es.length + 1 = (a :: r).length) = true := by simpa using h3
      rw [hd, h2']
      have e1 : (a.seq == a.seq) = true := by simp
      have e2 : (!a.rel || true) = true := by simp
      rw [e1, e2]
      unfold firstB
      generalize nm v = x0
      generalize numB h = x1
      generalize numB o = x2
      generalize numB u = x3
      generalize decide (1 ≤ (a :: r).length) = x4
      generalize decide ((a :: r).length ≤ 64) = x5
      generalize numB a.id = x6
      generalize numB a.seq = x7
      generalize decide (a.seq % 2 = 0) = x8
      generalize a.rel = x9
      generalize nodesB (a.seq + 2) x9 r = y1
      generalize edgesB es (a :: r) = y2
      cases x0 <;> cases x1 <;> cases x2 <;> cases x3 <;> cases x4 <;> cases x5 <;> cases x6 <;> cases x7 <;> cases x8 <;> cases x9 <;> simp
  · have hf : (decide (1 ≤ ns.length) && decide (es.length + 1 = ns.length)) = false := by
      rw [Bool.eq_false_iff]; simpa using hl
    generalize decide (1 ≤ ns.length) = x4 at *
    generalize decide (es.length + 1 = ns.length) = x5 at *
    cases x4
    · simp
    · cases x5
      · simp
      · simp at hf
theorem stepsB_step {es ns : List St} {k : Nat} (h1 : k < es.length) (h2 : k + 1 < ns.length) : stepsB (es.drop k) (ns.drop k) = (stepB (ns.getD k st0) (es.getD k st0) (ns.getD (k + 1) st0) && stepsB (es.drop (k + 1)) (ns.drop (k + 1))) := by
  rw [drop_getD0 st0 h1, drop_getD0 st0 (show k < ns.length by omega), drop_getD0 st0 h2, stepsB]
theorem edgesB_step {es ns : List St} {k : Nat} (h1 : k < es.length) (h2 : k + 1 < ns.length) : edgesB (es.drop k) (ns.drop k) = (numB (es.getD k st0).id && (numB (es.getD k st0).seq && ((es.getD k st0).seq == (ns.getD k st0).seq + 1 && ((es.getD k st0).rel == (ns.getD (k + 1) st0).rel && edgesB (es.drop (k + 1)) (ns.drop (k + 1)))))) := by
  rw [drop_getD0 st0 h1, drop_getD0 st0 (show k < ns.length by omega), drop_getD0 st0 h2, edgesB]
theorem stepsB_nil (ns : List St) : stepsB [] ns = true := by cases ns <;> rfl
theorem edgesB_nil (ns : List St) : edgesB [] ns = true := by cases ns <;> rfl

/-- A field, as it is told; whether it is there. -/
theorem field_tell {α : Type} (z : α) (f : J → α × Bool) (j : J) (nm : List UInt8) : fieldS f j nm = if (tellG z f j nm).2 = true then some (tellG z f j nm).1 else none := by
  unfold fieldS tellG getS
  by_cases h : plc j nm < 0
  · simp [h]
  · simp [h]
/-- What is told of a stop, or of a way. -/
def partT (nm : List UInt8) (j : J) : St × Bool :=
  (⟨(tellG 0 numS j nm).1, (tellG 0 numS j seqL).1, (tellG false flagS j relL).1⟩, (tellG 0 numS j nm).2 && ((tellG 0 numS j seqL).2 && (tellG false flagS j relL).2))
def allT (nm : List UInt8) (l : List J) : List St × Bool := (l.map fun y => (partT nm y).1, l.all fun y => (partT nm y).2)
theorem read_part (nm : List UInt8) (j : J) : readJ nm j = if (partT nm j).2 = true then some (partT nm j).1 else none := by
  unfold readJ partT
  rw [field_tell 0 numS j nm, field_tell 0 numS j seqL, field_tell false flagS j relL]
  generalize tellG 0 numS j nm = a
  generalize tellG 0 numS j seqL = b
  generalize tellG false flagS j relL = c
  obtain ⟨a1, a2⟩ := a
  obtain ⟨b1, b2⟩ := b
  obtain ⟨c1, c2⟩ := c
  cases a2 <;> cases b2 <;> cases c2 <;> rfl
theorem read_all (nm : List UInt8) : ∀ l : List J, readL nm l = if (allT nm l).2 = true then some (allT nm l).1 else none
  | [] => rfl
  | x :: r => by
    rw [readL, read_part, read_all nm r]
    unfold allT
    rw [List.all_cons, List.map_cons]
    generalize (partT nm x).2 = a
    generalize (r.all fun y => (partT nm y).2) = b
    cases a <;> cases b <;> rfl
def toldT (j : J) : O × Bool :=
  (⟨(tellG 0 numS j hdrL).1, (tellG [] txtS j serL).1, (tellG 0 numS j ordL).1, (tellG 0 numS j updL).1, (allT nidL (lsG j nodL).1).1, (allT eidL (lsG j edgL).1).1⟩,
    (tellG 0 numS j hdrL).2 && ((tellG [] txtS j serL).2 && ((tellG 0 numS j ordL).2 && ((tellG 0 numS j updL).2 && (((lsG j nodL).2 && (allT nidL (lsG j nodL).1).2) && ((lsG j edgL).2 && (allT eidL (lsG j edgL).1).2))))))
theorem told_all (j : J) : toldJ j = if (toldT j).2 = true then some (toldT j).1 else none := by
  unfold toldJ toldT
  rw [field_tell 0 numS j hdrL, field_tell [] txtS j serL, field_tell 0 numS j ordL, field_tell 0 numS j updL, field_tell [] lstS j nodL, field_tell [] lstS j edgL]
  rw [show tellG [] lstS j nodL = lsG j nodL from rfl, show tellG [] lstS j edgL = lsG j edgL from rfl]
  generalize tellG 0 numS j hdrL = a
  generalize tellG [] txtS j serL = b
  generalize tellG 0 numS j ordL = c
  generalize tellG 0 numS j updL = d
  generalize lsG j nodL = e
  generalize lsG j edgL = f
  obtain ⟨a1, a2⟩ := a
  obtain ⟨b1, b2⟩ := b
  obtain ⟨c1, c2⟩ := c
  obtain ⟨d1, d2⟩ := d
  obtain ⟨e1, e2⟩ := e
  obtain ⟨f1, f2⟩ := f
  simp only
  have h1 := read_all nidL e1
  have h2 := read_all eidL f1
  cases a2 <;> try rfl
  cases b2 <;> try rfl
  cases c2 <;> try rfl
  cases d2 <;> try rfl
  cases e2 <;> try rfl
  cases f2
  · simp
  · simp only [if_true, h1, h2]
    generalize (allT nidL e1).2 = x
    generalize (allT eidL f1).2 = y
    cases x <;> cases y <;> rfl
theorem take_told (nm : List UInt8 → Bool) (j : J) : takeJ nm j = if (toldT j).2 = true ∧ rightO nm (toldT j).1 = true then some (toldT j).1 else none := by
  unfold takeJ
  rw [told_all]
  cases h : (toldT j).2
  · simp
  · simp only [if_true, true_and]
theorem allT_take {nm : List UInt8} {l : List J} {k : Nat} (hk : k < l.length) : (allT nm (l.take (k + 1))).1 = (allT nm (l.take k)).1 ++ [(partT nm (l.getD k j0)).1] ∧ (allT nm (l.take (k + 1))).2 = ((allT nm (l.take k)).2 && (partT nm (l.getD k j0)).2) := by
  have e : l.take (k + 1) = l.take k ++ [l.getD k j0] := by
    rw [List.getD_eq_getElem?_getD, List.getElem?_eq_getElem hk, Option.getD_some, List.take_append_getElem]
  rw [e]
  unfold allT
  simp
theorem readL_step {nm : List UInt8} {l : List J} {k : Nat} (hk : k < l.length) : (allT nm (l.drop k)).2 = ((partT nm (l.getD k j0)).2 && (allT nm (l.drop (k + 1))).2) := by
  rw [drop_getD0 j0 hk]
  unfold allT
  rw [List.all_cons]
end Go.Proofs.YtcpggmdiojaalaaGreatDoor.Od

/- Layer 8: rows of stops, or of ways, of one's own. -/
set_option linter.unusedVariables false
set_option linter.unusedSimpArgs false
namespace Go.Proofs.YtcpggmdiojaalaaGreatDoor.Od
open Go.RowKit Js Lex

theorem stop_info : (Tryz.prog.info? 68).map (fun i => (i.zero, i.size, i.bytes)) = some (some (.agg #[.int .i64 0, .int .i64 0, .bool false]), 3, 24) := by kernel_rfl
theorem way_info : (Tryz.prog.info? 70).map (fun i => (i.zero, i.size, i.bytes)) = some (some (.agg #[.int .i64 0, .int .i64 0, .bool false]), 3, 24) := by kernel_rfl
/-- The cells of stops. -/
def cellsS (l : List St) : List Value := l.flatMap fun x => [.int .i64 x.id, .int .i64 x.seq, .bool x.rel]
theorem cellsS_app (l : List St) (x : St) : cellsS (l ++ [x]) = cellsS l ++ [.int .i64 x.id, .int .i64 x.seq, .bool x.rel] := by unfold cellsS; simp
theorem cellsS_len (l : List St) : (cellsS l).length = l.length * 3 := by
  unfold cellsS
  induction l with
  | nil => rfl
  | cons x r ih => rw [List.flatMap_cons, List.length_append, ih, List.length_cons]; simp; omega
theorem cellsS_get : ∀ (l : List St) (j i : Nat), j < l.length → i < 3 → (cellsS l)[j * 3 + i]? = (aggC (stV (l.getD j st0)))[i]?
  | [], j, i, hj, _ => by simp at hj
  | x :: r, j, i, hj, hi => by
    have e : cellsS (x :: r) = [.int .i64 x.id, .int .i64 x.seq, .bool x.rel] ++ cellsS r := rfl
    rw [e]
    cases j with
    | zero => rw [List.getElem?_append_left (by simp; omega)]; simp [aggC, stV]
    | succ j =>
      have h3 : ([Value.int .i64 x.id, .int .i64 x.seq, .bool x.rel] : List Value).length = 3 := rfl
      rw [List.getElem?_append_right (by rw [h3]; omega), h3, show (j + 1) * 3 + i - 3 = j * 3 + i by omega, cellsS_get r j i (by simpa using hj) hi]
      simp
def goodS (x : St) : Prop := i64B x.id ∧ i64B x.seq
/-- A row of one's own reads as a list of stops. -/
theorem sts_own {w : World} {base T : Nat} {v : Value} {l : List St} (h : w.ownsRow base T 3 v l.length (cellsS l)) (hl : l.length ≤ 5864062014805) (hg : ∀ x ∈ l, goodS x) : StsAt (fun b => base ≤ b) w v l := by
  rcases h.2 with ⟨e, h0⟩ | ⟨g, cap, cur, hv, hbg, hc, hnc, hcm, hcs, htake⟩
  · subst e
    have : l = [] := List.length_eq_zero_iff.1 h0
    subst this
    exact sts_nil
  · subst hv
    refine ⟨_, _, rfl, hnc, hl, hg, fun _ => ⟨g, 0, rfl, hbg, Own.block_lt hc, fun i hi q c hq => ?_⟩⟩
    have hq3 : q < 3 := by simpa [aggC, stV] using (List.getElem?_eq_some_iff.1 hq).1
    rw [Nat.zero_add, h.cellAt (i * 3 + q) (by omega), cellsS_get l i q hi hq3, hq]
/-- A stop is appended to a row of one's own. -/
theorem append_st {P : Program} {W : World} {ops : Array Oper} {rest : List Oper} {o : Oper} {a : Act} {Q : Exit → Act → World → Prop} (hgd : o.guard = none) (s x : Operand) {Ts T : TypeId} {z : Value}
    (hinfo : (P.info? T).map (fun i => (i.zero, i.size, i.bytes)) = some (some z, 3, 24)) (hz : z.cells.size = 3) (hu : P.underlying Ts = some (.slice T))
    (ho : o.op = .call { callee := .builtin .append, args := #[s, x], argTypes := #[Ts, Ts] }) (base : Nat) (v : Value) (l : List St) (hs : a.eval s = v) (hown : W.ownsRow base T 3 v l.length (cellsS l))
    (B c : Nat) (hx : a.eval x = .slice (some ⟨B, 0, none⟩) 1 c) (y : St) (hB : W.heap[B]? = some (.cells #[.int .i64 y.id, .int .i64 y.seq, .bool y.rel] T (0, 0)))
    (hlen : l.length + 1 ≤ 1599289640355) (hbase : base ≤ W.heap.size)
    (h : ∀ a' c' w', w'.ownsRow base T 3 (.slice a' (l.length + 1) c') (l.length + 1) (cellsS (l ++ [y])) → W.grownBy w' v.ownBlock → wpList P ops Q rest (a.put o.dst (.slice a' (l.length + 1) c')) w') : wpList P ops Q (o :: rest) a W := by
  obtain ⟨i0, hi0, hz0, hz1, hz2⟩ := info_parts hinfo
  refine wpList_append_own W hgd s x Ts ho base T i0 _ 3 24 hu hi0 hz0 hz1 hz2 hz (by decide) v l.length (cellsS l) hs hown ⟨B, 0, none⟩ 1 c [.int .i64 y.id, .int .i64 y.seq, .bool y.rel] hx (by simp) ?_ (by simp [Value.oneCell']) (by unfold maxLen; omega) (by omega) hbase ?_
  · intro j u hu
    rw [show (⟨B, 0, none⟩ : Addr).add j = ⟨B, j, none⟩ by simp only [Addr.add]; split <;> simp_all, cell_of_row W B j _ _ _ hB]
    simpa using hu
  · intro v' w' h2 h3 _
    obtain ⟨a', c', rfl⟩ := own_slice h2
    rw [← cellsS_app] at h2
    exact h a' c' w' h2 h3
theorem one_stop (x : St) : ∀ u ∈ [Value.int .i64 x.id, .int .i64 x.seq, .bool x.rel], u.oneCell' = true := by simp [Value.oneCell']
theorem three_of {w : World} {b : Nat} {T : TypeId} {c0 c1 c2 : Value} (h : w.heap[b]? = some (.cells #[c0, c1, c2] T (0, 0))) :
    (w.cell? ⟨b, 0, none⟩ = some c0 ∧ w.cell? ⟨b, 1, none⟩ = some c1 ∧ w.cell? ⟨b, 2, none⟩ = some c2) ∧ w.frozen? ⟨b, 0, none⟩ = false ∧ w.frozen? ⟨b, 1, none⟩ = false ∧ w.frozen? ⟨b, 2, none⟩ = false := by
  have k : ∀ i, w.cell? ⟨b, i, none⟩ = (#[c0, c1, c2] : Array Value)[i]? := fun i => cell_of_row _ _ _ _ _ _ h
  exact ⟨⟨k 0, k 1, k 2⟩, free_of h 0, free_of h 1, free_of h 2⟩
theorem StsAt.form {S : Nat → Prop} {w : World} {v : Value} {l : List St} (h : StsAt S w v l) : ∃ a c, v = .slice a l.length c := by
  obtain ⟨ao, cap, h1, _⟩ := h
  exact ⟨ao, cap, h1⟩
/-- The cells of a stop of a list. -/
theorem StsAt.at_ {S : Nat → Prop} {w : World} {a : Option Addr} {n c : Nat} {l : List St} (h : StsAt S w (.slice a n c) l) {k : Nat} (hk : k < l.length) :
    ∃ b off, a = some ⟨b, off, none⟩ ∧ S b ∧ b < w.heap.size ∧ goodS (l.getD k st0) ∧ w.cell? ⟨b, off + k * 3, none⟩ = some (.int .i64 (l.getD k st0).id) ∧ w.cell? ⟨b, off + k * 3 + 1, none⟩ = some (.int .i64 (l.getD k st0).seq) ∧ w.cell? ⟨b, off + k * 3 + 2, none⟩ = some (.bool (l.getD k st0).rel) := by
  obtain ⟨ao, cap, h1, h2, h3, h4, h5⟩ := h
  cases h1
  obtain ⟨b, off, e1, e2, e3, e4⟩ := h5 (by omega)
  obtain ⟨c0, c1, c2⟩ := three_cells (e4 k hk)
  exact ⟨b, off, e1, e2, e3, h4 _ (by rw [List.getD_eq_getElem?_getD, List.getElem?_eq_getElem hk]; exact List.getElem_mem _), c0, c1, c2⟩
theorem StsAt.len {S : Nat → Prop} {w : World} {a : Option Addr} {n c : Nat} {l : List St} (h : StsAt S w (.slice a n c) l) : n = l.length ∧ l.length ≤ c ∧ l.length ≤ 5864062014805 := by
  obtain ⟨ao, cap, h1, h2, h3, h4, h5⟩ := h
  cases h1
  exact ⟨rfl, h2, h3⟩
end Go.Proofs.YtcpggmdiojaalaaGreatDoor.Od

/- Layer 8, plain: of a raw order, a right one. -/
set_option linter.unusedVariables false
set_option linter.unusedSimpArgs false
namespace Go.Proofs.YtcpggmdiojaalaaGreatDoor.Od
open Go.RowKit Js
open Quo (pickS pickS_nonneg pickS_lt)

def numR (z : Int) : Int := pickS z 1000000001
theorem numR_B (z : Int) : numB (numR z) = true := by
  have h1 := pickS_nonneg (c := z) (n := 1000000001) (by decide)
  have h2 := pickS_lt (c := z) (n := 1000000001) (by decide)
  unfold numB numR
  simp
  omega
/-- How many stops, which number is the first one, how many are released. -/
def cntF (x : O) : Nat := min (max x.ns.length 1) 64
def firstF (x : O) : Int := 2 * pickS (x.es.length : Int) 500
def baseF (x : O) (base : Int) : Int := 1 + pickS base (cntF x)
def nodeF (x : O) (base : Int) (i : Nat) : St := ⟨if i < x.ns.length then numR (x.ns.getD i st0).id else 0, firstF x + 2 * i, decide ((i : Int) < baseF x base)⟩
def edgeF (x : O) (base : Int) (i : Nat) : St := ⟨if i < x.ns.length then numR (x.ns.getD i st0).seq else 0, firstF x + 2 * i - 1, decide ((i : Int) < baseF x base)⟩
def fitO (fit : List UInt8 → List UInt8) (x : O) (base : Int) : O :=
  ⟨numR x.h, fit x.v, numR x.o, numR x.u, (List.range' 0 (cntF x)).map (nodeF x base), (List.range' 1 (cntF x - 1)).map (edgeF x base)⟩
theorem cntF_B (x : O) : 1 ≤ cntF x ∧ cntF x ≤ 64 := by unfold cntF; omega
theorem firstF_B (x : O) : 0 ≤ firstF x ∧ firstF x ≤ 998 ∧ firstF x % 2 = 0 := by
  have h1 := pickS_nonneg (c := (x.es.length : Int)) (n := 500) (by decide)
  have h2 := pickS_lt (c := (x.es.length : Int)) (n := 500) (by decide)
  unfold firstF
  omega
theorem baseF_B (x : O) (base : Int) : 1 ≤ baseF x base ∧ baseF x base ≤ cntF x := by
  have h := cntF_B x
  have h1 := pickS_nonneg (c := base) (n := (cntF x : Int)) (by omega)
  have h2 := pickS_lt (c := base) (n := (cntF x : Int)) (by omega)
  unfold baseF
  omega
theorem zero_B : numB 0 = true := by decide
theorem nodeF_id (x : O) (base : Int) (i : Nat) : numB (nodeF x base i).id = true := by
  show numB (if _ then _ else _) = true
  split
  · exact numR_B _
  · exact zero_B
theorem edgeF_id (x : O) (base : Int) (i : Nat) : numB (edgeF x base i).id = true := by
  show numB (if _ then _ else _) = true
  split
  · exact numR_B _
  · exact zero_B
theorem numB_of {n : Int} (h0 : 0 ≤ n) (h1 : n ≤ 1000000000) : numB n = true := by unfold numB; simp; omega
theorem fit_nodes (x : O) (base : Int) : ∀ (m k : Nat) (p : Bool), k + m ≤ 64 → ((k : Int) < baseF x base → p = true) → nodesB (firstF x + 2 * k) p ((List.range' k m).map (nodeF x base)) = true
  | 0, k, p, _, _ => by rw [List.range'_zero, List.map_nil, nodesB]
  | m + 1, k, p, hm, hp => by
    obtain ⟨f1, f2, _⟩ := firstF_B x
    have ih := fit_nodes x base m (k + 1) (nodeF x base k).rel (by omega) (fun h => by
      show decide ((k : Int) < baseF x base) = true
      simp; omega)
    rw [List.range'_succ, List.map_cons, nodesB, nodeF_id]
    have e1 : (nodeF x base k).seq = firstF x + 2 * k := rfl
    have e2 : numB (firstF x + 2 * (k : Int)) = true := numB_of (by omega) (by omega)
    have e3 : (!(nodeF x base k).rel || p) = true := by
      show (!decide ((k : Int) < baseF x base) || p) = true
      by_cases h : (k : Int) < baseF x base
      · rw [hp h]; simp
      · simp [h]
    rw [e1, e2, e3, show firstF x + 2 * (k : Int) + 2 = firstF x + 2 * ((k + 1 : Nat) : Int) by omega, ih]
    simp
theorem fit_edges (x : O) (base : Int) : ∀ (m k : Nat), k + m ≤ 63 → edgesB ((List.range' (k + 1) m).map (edgeF x base)) ((List.range' k (m + 1)).map (nodeF x base)) = true
  | 0, k, _ => by rw [List.range'_zero, List.map_nil, edgesB]
  | m + 1, k, hm => by
    obtain ⟨f1, f2, _⟩ := firstF_B x
    have ih := fit_edges x base m (k + 1) (by omega)
    rw [List.range'_succ (s := k + 1), List.map_cons, List.range'_succ (s := k), List.map_cons, List.range'_succ (s := k + 1), List.map_cons, edgesB, edgeF_id]
    rw [List.range'_succ (s := k + 1), List.map_cons] at ih
    have e1 : (edgeF x base (k + 1)).seq = firstF x + 2 * ((k + 1 : Nat) : Int) - 1 := rfl
    have e2 : numB (firstF x + 2 * ((k + 1 : Nat) : Int) - 1) = true := numB_of (by omega) (by omega)
    have e3 : (nodeF x base k).seq = firstF x + 2 * k := rfl
    have e4 : (edgeF x base (k + 1)).rel = (nodeF x base (k + 1)).rel := rfl
    rw [e1, e2, e3, e4, ih, show (firstF x + 2 * ((k + 1 : Nat) : Int) - 1 == firstF x + 2 * (k : Int) + 1) = true by simp; omega]
    simp
theorem fit_rightO {nm : List UInt8 → Bool} {fit : List UInt8 → List UInt8} (hf : ∀ s, nm (fit s) = true) (x : O) (base : Int) : rightO nm (fitO fit x base) = true := by
  obtain ⟨c1, c2⟩ := cntF_B x
  obtain ⟨f1, f2, f3⟩ := firstF_B x
  obtain ⟨b1, b2⟩ := baseF_B x base
  have hn := fit_nodes x base (cntF x) 0 true (by omega) (fun _ => rfl)
  have he := fit_edges x base (cntF x - 1) 0 (by omega)
  rw [show 0 + 1 = 1 from rfl, show cntF x - 1 + 1 = cntF x by omega] at he
  have hh : ((List.range' 0 (cntF x)).map (nodeF x base)).headD st0 = nodeF x base 0 := by
    obtain ⟨c, hc⟩ : ∃ c, cntF x = c + 1 := ⟨cntF x - 1, by omega⟩
    rw [hc, List.range'_succ]; rfl
  have hs : (nodeF x base 0).seq = firstF x + 2 * ((0 : Nat) : Int) := rfl
  have hr : (nodeF x base 0).rel = true := by
    show decide (((0 : Nat) : Int) < baseF x base) = true
    simp; omega
  unfold rightO fitO
  simp only [hf, numR_B, List.length_map, List.length_range', hh, hs, hr, hn, he, Bool.true_and, Bool.and_true]
  simp
  omega
theorem fit_base (fit : List UInt8 → List UInt8) (x : O) (base : Int) : (baseO (fitO fit x base) : Int) = baseF x base := by
  obtain ⟨b1, b2⟩ := baseF_B x base
  have h : ∀ (m k : Nat), (k : Int) ≤ baseF x base → baseF x base ≤ (k : Int) + m → ((((List.range' k m).map (nodeF x base)).filter (·.rel)).length : Int) = baseF x base - k := by
    intro m
    induction m with
    | zero => intro k h1 h2; rw [List.range'_zero]; simp; omega
    | succ m ih =>
      intro k h1 h2
      rw [List.range'_succ, List.map_cons, List.filter_cons]
      by_cases hk : (k : Int) < baseF x base
      · rw [if_pos (show (nodeF x base k).rel = true by show decide _ = true; simp; omega), List.length_cons]
        have := ih (k + 1) (by omega) (by omega)
        omega
      · rw [if_neg (show ¬ (nodeF x base k).rel = true by show ¬ decide _ = true; simp; omega)]
        have hz : ∀ (m k : Nat), baseF x base ≤ (k : Int) → (((List.range' k m).map (nodeF x base)).filter (·.rel)).length = 0 := by
          intro m
          induction m with
          | zero => intro k _; rw [List.range'_zero]; simp
          | succ m ih2 =>
            intro k h3
            rw [List.range'_succ, List.map_cons, List.filter_cons, if_neg (show ¬ (nodeF x base k).rel = true by show ¬ decide _ = true; simp; omega)]
            exact ih2 (k + 1) (by omega)
        rw [hz m (k + 1) (by omega)]
        omega
  have := h (cntF x) 0 (by omega) (by omega)
  unfold baseO fitO
  simp only
  omega
end Go.Proofs.YtcpggmdiojaalaaGreatDoor.Od

/- Layer 8, plain: orders that are not right. -/
set_option linter.unusedVariables false
set_option linter.unusedSimpArgs false
namespace Go.Proofs.YtcpggmdiojaalaaGreatDoor.Od
open Go.RowKit Js

theorem nodes_get : ∀ {q : Int} {p : Bool} {l : List St}, nodesB q p l = true → ∀ k, k < l.length → numB (l.getD k st0).id = true ∧ (l.getD k st0).seq = q + 2 * k
  | _, _, [], _, k, hk => by simp at hk
  | q, p, y :: r, h, k, hk => by
    rw [nodesB] at h
    simp only [Bool.and_eq_true, beq_iff_eq] at h
    cases k with
    | zero => exact ⟨h.1, by rw [List.getD_cons_zero]; omega⟩
    | succ k =>
      have := nodes_get h.2.2.2.2 k (by simpa using hk)
      rw [List.getD_cons_succ]
      exact ⟨this.1, by rw [this.2]; omega⟩
theorem edges_get : ∀ {es l : List St}, edgesB es l = true → ∀ k, k < es.length → (es.getD k st0).rel = (l.getD (k + 1) st0).rel
  | [], _, _, k, hk => by simp at hk
  | e :: es, a :: b :: r, h, k, hk => by
    rw [edgesB] at h
    simp only [Bool.and_eq_true, beq_iff_eq] at h
    cases k with
    | zero => exact h.2.2.2.1
    | succ k =>
      have := edges_get h.2.2.2.2 k (by simpa using hk)
      rw [List.getD_cons_succ, List.getD_cons_succ]
      exact this
  | _ :: _, [], h, _, _ => by simp [edgesB] at h
  | _ :: _, [_], h, _, _ => by simp [edgesB] at h
/-- What a right order holds. -/
theorem right_all {nm : List UInt8 → Bool} {x : O} (h : rightO nm x = true) : nm x.v = true ∧ numB x.u = true ∧ 1 ≤ x.ns.length ∧ x.es.length + 1 = x.ns.length ∧ (x.ns.getD 0 st0).seq % 2 = 0 ∧ (x.ns.getD 0 st0).rel = true ∧
    nodesB (x.ns.getD 0 st0).seq true x.ns = true ∧ edgesB x.es x.ns = true := by
  unfold rightO at h
  simp only [Bool.and_eq_true, decide_eq_true_eq] at h
  obtain ⟨h1, h2, h3, h4, h5, h6, h7, h8, h9, h10, h11⟩ := h
  have e : x.ns.headD st0 = x.ns.getD 0 st0 := by cases x.ns <;> rfl
  rw [e] at h8 h9 h10
  exact ⟨h1, h4, h5, h7, h8, h9, h10, h11⟩
theorem not_right {nm : List UInt8 → Bool} {x : O} (h : rightO nm x = true → False) : rightO nm x = false := by
  cases e : rightO nm x
  · rfl
  · exact (h e).elim
theorem getD_set {l : List St} {k : Nat} (hk : k < l.length) (y : St) (i : Nat) : (l.set k y).getD i st0 = if i = k then y else l.getD i st0 := by
  rw [List.getD_eq_getElem?_getD, List.getD_eq_getElem?_getD, List.getElem?_set]
  by_cases e : k = i
  · subst e
    simp [hk]
  · rw [if_neg e, if_neg (fun h => e h.symm)]
section
variable {nm : List UInt8 → Bool} {x : O}
/-- A number that does not follow. -/
theorem wrong_seq (h : rightO nm x = true) {k : Nat} (hk : k < x.ns.length) : rightO nm { x with ns := x.ns.set k { x.ns.getD k st0 with seq := (x.ns.getD k st0).seq + 1 } } = false := not_right fun h' => by
  obtain ⟨_, _, _, _, a1, _, a2, _⟩ := right_all h
  obtain ⟨_, _, _, _, b1, _, b2, _⟩ := right_all h'
  simp only at b1 b2
  have c1 := (nodes_get a2 k hk).2
  have c2 := (nodes_get b2 k (by simpa using hk)).2
  rw [getD_set hk] at b1 c2
  rw [getD_set hk, if_pos rfl] at c2
  by_cases e : 0 = k
  · rw [if_pos e] at b1
    simp only at b1
    omega
  · rw [if_neg e] at c2
    simp only at c2
    omega
theorem wrong_first (h : rightO nm x = true) : rightO nm { x with ns := x.ns.set 0 { x.ns.getD 0 st0 with rel := false } } = false := not_right fun h' => by
  obtain ⟨_, _, a1, _⟩ := right_all h
  obtain ⟨_, _, _, _, _, b1, _, _⟩ := right_all h'
  simp only at b1
  rw [getD_set (by omega), if_pos rfl] at b1
  cases b1
theorem wrong_name {v : List UInt8} (hv : nm v = false) : rightO nm { x with v := v } = false := not_right fun h' => by
  have := (right_all h').1
  simp only at this
  rw [hv] at this
  cases this
theorem wrong_node (h : rightO nm x = true) {k : Nat} (hk : k < x.ns.length) {z : Int} (hz : numB z = false) : rightO nm { x with ns := x.ns.set k { x.ns.getD k st0 with id := z } } = false := not_right fun h' => by
  obtain ⟨_, _, _, _, _, _, b2, _⟩ := right_all h'
  simp only at b2
  have c2 := (nodes_get b2 k (by simpa using hk)).1
  rw [getD_set hk, if_pos rfl] at c2
  simp only at c2
  rw [hz] at c2
  cases c2
theorem wrong_edge_more (h : rightO nm x = true) (y : St) : rightO nm { x with es := x.es ++ [y] } = false := not_right fun h' => by
  obtain ⟨_, _, _, a1, _⟩ := right_all h
  obtain ⟨_, _, _, b1, _⟩ := right_all h'
  simp at b1
  omega
theorem wrong_edge (h : rightO nm x = true) {k : Nat} (hk : k < x.es.length) : rightO nm { x with es := x.es.set k { x.es.getD k st0 with rel := !(x.es.getD k st0).rel } } = false := not_right fun h' => by
  obtain ⟨_, _, _, _, _, _, _, a2⟩ := right_all h
  obtain ⟨_, _, _, _, _, _, _, b2⟩ := right_all h'
  simp only at b2
  have c1 := edges_get a2 k hk
  have c2 := edges_get b2 k (by simpa using hk)
  rw [getD_set hk, if_pos rfl] at c2
  simp only at c2
  rw [c1] at c2
  cases hh : (x.ns.getD (k + 1) st0).rel <;> rw [hh] at c2 <;> cases c2
theorem wrong_update {z : Int} (hz : numB z = false) : rightO nm { x with u := z } = false := not_right fun h' => by
  have := (right_all h').2.1
  simp only at this
  rw [hz] at this
  cases this
end
end Go.Proofs.YtcpggmdiojaalaaGreatDoor.Od

/- Layer 8, plain: an order's fields in another order, one more of them, one less. -/
set_option linter.unusedVariables false
set_option linter.unusedSimpArgs false
namespace Go.Proofs.YtcpggmdiojaalaaGreatDoor.Od
open Go.RowKit Js Lex

/-- Blanks ahead of a value's text and behind it. -/
theorem parse_pad {j : J} (h : rightJ 1 j = true) (hl : (printJ j).length + 2 ≤ 20000) : parseS (32 :: (printJ j ++ [10])) = (0, j, 0) := by
  have hs : scanL (32 :: (printJ j ++ [10])) 0 = .inr (toksJ 1 j ++ [⟨5, [], 0, 0, 1 + (printJ j).length + 1⟩]) := by
    rw [scanL_blank (by decide), scan_print j (0 + 1) [10] (good_right 1 j h) (fin_blank (c := 10) (by decide) []), scanL_blank (by decide), scanL_nil]
    rfl
  unfold parseS scanS
  rw [if_neg (by simp; omega), hs]
  dsimp only
  unfold parseT
  rw [val_toks 16 (by omega) j 1 _ h]
  rfl

/-- The fields of an order, the last one first, and one more. -/
def backN (n : List UInt8) : List (List UInt8) := [edgL, nodL, updL, ordL, serL, hdrL, 120 :: n]
def backI (x : O) : List J := [.mk 6 0 0 [] [] (x.es.map (partJ eidL)), .mk 6 0 0 [] [] (x.ns.map (partJ nidL)), numJ x.u, numJ x.o, .mk 5 0 0 x.v [] [], numJ x.h, .mk 5 0 0 [121] [] []]
def backJ (x : O) (n : List UInt8) : J := .mk 7 0 0 [] (backN n) (backI x)
def lessJ (x : O) (n : List UInt8) (k : Nat) : J := .mk 7 0 0 [] ((backN n).eraseIdx k) ((backI x).eraseIdx k)

theorem back_told {nm : List UInt8 → Bool} {x : O} (h : rightO nm x = true) (n : List UInt8) : takeJ nm (backJ x n) = some x := by
  have hr := h
  unfold rightO at h
  simp only [Bool.and_eq_true, decide_eq_true_eq] at h
  obtain ⟨h1, h2, h3, h4, h5, h6, h7, h8, h9, h10, h11⟩ := h
  have g : ∀ (i : Nat) (m : List UInt8) (y : J), plcL m (backN n) 0 7 = (i : Int) → (backI x).getD i j0 = y → getS (backJ x n) m = (y, true) := by
    intro i m y hp hy
    have hpl : plc (backJ x n) m = (i : Int) := by
      unfold plc
      rw [if_pos (show (backJ x n).k = 7 from rfl)]
      exact hp
    unfold getS
    rw [hpl, if_neg (by omega), Int.toNat_natCast, ← hy]
    rfl
  have g0 := g 5 hdrL _ (by simp [plcL, backN, hdrL, edgL, nodL, updL, ordL, serL]) rfl
  have g1 := g 4 serL _ (by simp [plcL, backN, hdrL, edgL, nodL, updL, ordL, serL]) rfl
  have g2 := g 3 ordL _ (by simp [plcL, backN, hdrL, edgL, nodL, updL, ordL, serL]) rfl
  have g3 := g 2 updL _ (by simp [plcL, backN, hdrL, edgL, nodL, updL, ordL, serL]) rfl
  have g4 := g 1 nodL _ (by simp [plcL, backN, hdrL, edgL, nodL, updL, ordL, serL]) rfl
  have g5 := g 0 edgL _ (by simp [plcL, backN, hdrL, edgL, nodL, updL, ordL, serL]) rfl
  simp only [backI, List.getD_cons_zero, List.getD_cons_succ] at g0 g1 g2 g3 g4 g5
  have t : toldJ (backJ x n) = some x := by
    unfold toldJ fieldS
    rw [g0, g1, g2, g3, g4, g5]
    simp only [(num_told h2).1, (num_told h3).1, (num_told h4).1, if_true]
    have e1 : txtS (J.mk 5 0 0 x.v [] []) = (x.v, true) := rfl
    have e2 : ∀ l, lstS (J.mk 6 0 0 [] [] l) = (l, true) := fun l => rfl
    simp only [e1, e2, if_true, parts_told (show nidL ≠ seqL by decide) (show nidL ≠ relL by decide) (nodes_nums h10), parts_told (show eidL ≠ seqL by decide) (show eidL ≠ relL by decide) (edges_nums h11)]
  unfold takeJ
  rw [t]
  simp only
  rw [if_pos hr]

theorem field_none {α : Type} {f : J → α × Bool} {j : J} {m : List UInt8} (h : (getS j m).2 = false) : fieldS f j m = none := by
  unfold fieldS; rw [if_neg (by rw [h]; decide)]
theorem get_none {x : O} {n : List UInt8} {k : Nat} {m : List UInt8} (h : plcL m ((backN n).eraseIdx k) 0 ((backI x).eraseIdx k).length = -1) : (getS (lessJ x n k) m).2 = false := by
  have hpl : plc (lessJ x n k) m = -1 := by
    unfold plc
    rw [if_pos (show (lessJ x n k).k = 7 from rfl)]
    exact h
  unfold getS
  rw [hpl, if_pos (by decide)]
/-- A field less is no order. -/
theorem less_told (nm : List UInt8 → Bool) (x : O) (n : List UInt8) {k : Nat} (hk : k < 6) : takeJ nm (lessJ x n k) = none := by
  have t : toldJ (lessJ x n k) = none := by
    obtain rfl | rfl | rfl | rfl | rfl | rfl : k = 0 ∨ k = 1 ∨ k = 2 ∨ k = 3 ∨ k = 4 ∨ k = 5 := by omega
    · have e := field_none (f := lstS) (get_none (x := x) (n := n) (k := 0) (m := edgL) (by simp [plcL, backN, backI, hdrL, edgL, nodL, updL, ordL, serL]))
      unfold toldJ; rw [e]; split <;> simp_all
    · have e := field_none (f := lstS) (get_none (x := x) (n := n) (k := 1) (m := nodL) (by simp [plcL, backN, backI, hdrL, edgL, nodL, updL, ordL, serL]))
      unfold toldJ; rw [e]; split <;> simp_all
    · have e := field_none (f := numS) (get_none (x := x) (n := n) (k := 2) (m := updL) (by simp [plcL, backN, backI, hdrL, edgL, nodL, updL, ordL, serL]))
      unfold toldJ; rw [e]; split <;> simp_all
    · have e := field_none (f := numS) (get_none (x := x) (n := n) (k := 3) (m := ordL) (by simp [plcL, backN, backI, hdrL, edgL, nodL, updL, ordL, serL]))
      unfold toldJ; rw [e]; split <;> simp_all
    · have e := field_none (f := txtS) (get_none (x := x) (n := n) (k := 4) (m := serL) (by simp [plcL, backN, backI, hdrL, edgL, nodL, updL, ordL, serL]))
      unfold toldJ; rw [e]; split <;> simp_all
    · have e := field_none (f := numS) (get_none (x := x) (n := n) (k := 5) (m := hdrL) (by simp [plcL, backN, backI, hdrL, edgL, nodL, updL, ordL, serL]))
      unfold toldJ; rw [e]; try (split <;> simp_all)
  unfold takeJ
  rw [t]
end Go.Proofs.YtcpggmdiojaalaaGreatDoor.Od

/- Layer 8, plain: Take of an order's fields in another order, one more of them, one less. -/
set_option linter.unusedVariables false
set_option linter.unusedSimpArgs false
namespace Go.Proofs.YtcpggmdiojaalaaGreatDoor.Od
open Go.RowKit Js Lex

/-- A name of one more field. -/
def MoreOk (n : List UInt8) : Prop := asciiB (120 :: n) = true ∧ n.length ≤ 100
theorem obj_right {d : Nat} (hd : d ≤ 16) {ns : List (List UInt8)} {is : List J} (h1 : ns.length = is.length) (h2 : namesB [] ns = true) (h3 : rightL (d + 1) is = true) : rightJ d (.mk 7 0 0 [] ns is) = true := by
  rw [rightJ, h3]
  simp [hd, bareB, formB, h1, h2]
theorem rights_of {d : Nat} : ∀ {l : List J}, (∀ x ∈ l, rightJ d x = true) → rightL d l = true
  | [], _ => by rw [rightL]
  | x :: r, h => by rw [rightL, h x (List.mem_cons_self ..), rights_of fun y hy => h y (List.mem_cons_of_mem _ hy)]; rfl
def sizeL : List (List UInt8) → List J → Nat
  | n :: ns, x :: r => (Quo.quoteL n).length + (printJ x).length + 2 + sizeL ns r
  | _, _ => 0
theorem obj_size : ∀ (ns : List (List UInt8)) (is : List J) (f : Bool), ns.length = is.length → (printL true f ns is).length ≤ sizeL ns is
  | [], [], f, _ => by rw [printL]; exact Nat.zero_le _
  | n :: ns, x :: r, f, h => by
    have ih := obj_size ns r false (by simpa using h)
    rw [printL, sizeL]
    simp only [List.headD_cons, List.tail_cons, List.length_append, if_true, List.length_cons, List.length_nil]
    cases f <;> simp <;> omega
  | [], _ :: _, _, h => by simp at h
  | _ :: _, [], _, h => by simp at h
theorem obj_len {ns : List (List UInt8)} {is : List J} (h : ns.length = is.length) : (printJ (.mk 7 0 0 [] ns is)).length ≤ sizeL ns is + 2 := by
  have := obj_size ns is true h
  rw [printJ, if_neg (by decide), if_neg (by decide), if_neg (by decide), if_neg (by decide), if_neg (by decide), if_neg (by decide), if_pos rfl]
  simp only [List.length_cons, List.length_append, List.length_nil]
  omega
theorem size_erase : ∀ (ns : List (List UInt8)) (is : List J) (k : Nat), sizeL (ns.eraseIdx k) (is.eraseIdx k) ≤ sizeL ns is
  | [], [], k => by simp
  | n :: ns, x :: r, 0 => by simp only [List.eraseIdx_cons_zero]; rw [sizeL]; omega
  | n :: ns, x :: r, k + 1 => by
    have ih := size_erase ns r k
    simp only [List.eraseIdx_cons_succ]
    rw [sizeL, sizeL]; omega
  | [], x :: r, k => by simp [sizeL]
  | n :: ns, [], k => by
    cases k with
    | zero => simp only [List.eraseIdx_cons_zero, List.eraseIdx_nil]; cases ns <;> simp [sizeL]
    | succ k => simp [sizeL]
section
variable {nm : List UInt8 → Bool} {x : O} {n : List UInt8}
theorem back_items (hn : NameOk nm) (h : rightO nm x = true) : ∀ y ∈ backI x, rightJ 2 y = true := by
  obtain ⟨h1, h2, h3, h4, _, _, _, h8, h9⟩ := rightO_parts h
  have r1 := arr_right (d := 2) (by omega) (parts_right (nm := nidL) (by decide) (by decide) (by decide) 3 (by omega) h8)
  have r2 := arr_right (d := 2) (by omega) (parts_right (nm := eidL) (by decide) (by decide) (by decide) 3 (by omega) h9)
  have rt : ∀ t, asciiB t = true → rightJ 2 (.mk 5 0 0 t [] []) = true := fun t ht => by
    rw [rightJ, rightL]
    simp [bareB, formB, ascii_whole ht]
  intro y hy
  unfold backI at hy
  simp only [List.mem_cons, List.not_mem_nil, or_false] at hy
  rcases hy with rfl | rfl | rfl | rfl | rfl | rfl | rfl
  · exact r2
  · exact r1
  · exact num_right 2 (by omega) h4
  · exact num_right 2 (by omega) h3
  · exact rt _ (hn _ h1).1
  · exact num_right 2 (by omega) h2
  · exact rt _ (by decide)
theorem back_size (hn : NameOk nm) (h : rightO nm x = true) (hm : MoreOk n) : sizeL (backN n) (backI x) + 4 ≤ 20000 := by
  obtain ⟨h1, h2, h3, h4, h5, h6, h7, h8, h9⟩ := rightO_parts h
  obtain ⟨v1, v2⟩ := hn _ h1
  obtain ⟨m1, m2⟩ := hm
  have l1 := num_len h2
  have l2 := num_len h3
  have l3 := num_len h4
  have l4 := quote_size v1
  have l5 := parts_len (nm := nidL) (by decide) true h8
  have l6 := parts_len (nm := eidL) (by decide) true h9
  have a1 : nidL.length = 6 := rfl
  have a2 : eidL.length = 6 := rfl
  rw [a1] at l5
  rw [a2] at l6
  have q1 := quote_size (l := hdrL) (by decide)
  have q2 := quote_size (l := serL) (by decide)
  have q3 := quote_size (l := ordL) (by decide)
  have q4 := quote_size (l := updL) (by decide)
  have q5 := quote_size (l := nodL) (by decide)
  have q6 := quote_size (l := edgL) (by decide)
  have q7 := quote_size m1
  have q8 := quote_size (l := [121]) (by decide)
  have b1 : hdrL.length = 8 := rfl
  have b2 : serL.length = 12 := rfl
  have b3 : ordL.length = 7 := rfl
  have b4 : updL.length = 13 := rfl
  have b5 : nodL.length = 5 := rfl
  have b6 : edgL.length = 5 := rfl
  have p5 : ∀ t, (printJ (.mk 5 0 0 t [] [])).length = (Quo.quoteL t).length := fun t => by rw [printJ, if_neg (by decide), if_neg (by decide), if_neg (by decide), if_neg (by decide), if_pos rfl]
  have p6 : ∀ l, (printJ (.mk 6 0 0 [] [] l)).length = (printL false true [] l).length + 2 := fun l => by
    rw [printJ, if_neg (by decide), if_neg (by decide), if_neg (by decide), if_neg (by decide), if_neg (by decide), if_pos rfl]; simp
  have p7 := p6 (x.ns.map (partJ nidL))
  have p8 := p6 (x.es.map (partJ eidL))
  simp only [backN, backI, sizeL, p5]
  simp only [List.length_cons, List.length_nil] at q7 q8
  omega
theorem back_right (hn : NameOk nm) (h : rightO nm x = true) (hm : MoreOk n) : rightJ 1 (backJ x n) = true := by
  refine obj_right (by omega) rfl ?_ (rights_of (back_items hn h))
  simp only [backN, namesB, ascii_whole hm.1, ascii_whole (show asciiB hdrL = true by decide), ascii_whole (show asciiB serL = true by decide), ascii_whole (show asciiB ordL = true by decide), ascii_whole (show asciiB updL = true by decide), ascii_whole (show asciiB nodL = true by decide), ascii_whole (show asciiB edgL = true by decide)]
  simp [hdrL, edgL, nodL, updL, ordL, serL]
theorem less_right (hn : NameOk nm) (h : rightO nm x = true) (hm : MoreOk n) {k : Nat} (hk : k < 6) : rightJ 1 (lessJ x n k) = true := by
  refine obj_right (by omega) ?_ ?_ (rights_of fun y hy => back_items hn h y (List.mem_of_mem_eraseIdx hy))
  · rw [List.length_eraseIdx, List.length_eraseIdx]; rfl
  · obtain rfl | rfl | rfl | rfl | rfl | rfl : k = 0 ∨ k = 1 ∨ k = 2 ∨ k = 3 ∨ k = 4 ∨ k = 5 := by omega
    all_goals
      simp only [backN, List.eraseIdx_cons_zero, List.eraseIdx_cons_succ, namesB, ascii_whole hm.1, ascii_whole (show asciiB hdrL = true by decide), ascii_whole (show asciiB serL = true by decide), ascii_whole (show asciiB ordL = true by decide), ascii_whole (show asciiB updL = true by decide), ascii_whole (show asciiB nodL = true by decide), ascii_whole (show asciiB edgL = true by decide)]
      simp [hdrL, edgL, nodL, updL, ordL, serL]
/-- Fields in another order, and more of them, count for nothing. -/
theorem takeS_back (hn : NameOk nm) (h : rightO nm x = true) (hm : MoreOk n) : takeS nm (Se.sealS (32 :: (printJ (backJ x n) ++ [10]))) = (0, some x) := by
  have hs := back_size hn h hm
  have hl : (printJ (backJ x n)).length ≤ sizeL (backN n) (backI x) + 2 := obj_len (ns := backN n) (is := backI x) rfl
  unfold takeS
  rw [Se.open_seal]
  simp only
  rw [parse_pad (back_right hn h hm) (by omega), if_pos rfl, back_told h]
/-- A field less is no order. -/
theorem takeS_less (hn : NameOk nm) (h : rightO nm x = true) (hm : MoreOk n) {k : Nat} (hk : k < 6) : takeS nm (Se.sealS (printJ (lessJ x n k))) = (80, none) := by
  have hs := back_size hn h hm
  have he := size_erase (backN n) (backI x) k
  have hl : (printJ (lessJ x n k)).length ≤ sizeL ((backN n).eraseIdx k) ((backI x).eraseIdx k) + 2 := obj_len (by rw [List.length_eraseIdx, List.length_eraseIdx]; rfl)
  unfold takeS
  rw [Se.open_seal]
  simp only
  rw [parse_print (less_right hn h hm hk) (by omega), if_pos rfl, less_told nm x n hk]
end
end Go.Proofs.YtcpggmdiojaalaaGreatDoor.Od
