import Derived.Test.YtnpbkjmlmdpggaaYa
/- Layer 8's words, plain, without layer 4's values (for a seat that has no json): cut out of o/XOa, o/XOd. -/
set_option linter.unusedVariables false
set_option linter.unusedSimpArgs false
namespace Go.Proofs.Ytnpbkjmlmdpggaa.Od

/-- A stop, or a way: its node or edge, its number in the order, whether it is released. -/
structure St where
  id : Int
  seq : Int
  rel : Bool
def st0 : St := ⟨0, 0, false⟩
structure O where
  h : Int
  v : List UInt8
  o : Int
  u : Int
  ns : List St
  es : List St

def numB (n : Int) : Bool := decide (0 ≤ n) && decide (n ≤ 1000000000)
/-- Nodes, numbered from a number on; what is released stands ahead. -/
def nodesB : Int → Bool → List St → Bool
  | _, _, [] => true
  | q, prev, x :: r => numB x.id && (numB x.seq && (x.seq == q && ((!x.rel || prev) && nodesB (q + 2) x.rel r)))
/-- Edges, each between two nodes. -/
def edgesB : List St → List St → Bool
  | e :: es, a :: b :: r => numB e.id && (numB e.seq && (e.seq == a.seq + 1 && (e.rel == b.rel && edgesB es (b :: r))))
  | [], _ => true
  | _ :: _, [] => false
  | _ :: _, [_] => false
def rightO (nm : List UInt8 → Bool) (x : O) : Bool :=
  nm x.v && (numB x.h && (numB x.o && (numB x.u && (decide (1 ≤ x.ns.length) && (decide (x.ns.length ≤ 64) && (decide (x.es.length + 1 = x.ns.length) &&
    (decide ((x.ns.headD st0).seq % 2 = 0) && ((x.ns.headD st0).rel && (nodesB (x.ns.headD st0).seq true x.ns && edgesB x.es x.ns)))))))))
def baseO (x : O) : Nat := (x.ns.filter (·.rel)).length
def stB (a b : St) : Bool := a.id == b.id && (a.seq == b.seq && a.rel == b.rel)
def stsB : List St → List St → Bool
  | [], [] => true
  | a :: r, b :: s => stB a b && stsB r s
  | [], _ :: _ => false
  | _ :: _, [] => false
def sameO (a b : O) : Bool := a.h == b.h && (a.v == b.v && (a.o == b.o && (a.u == b.u && (stsB a.ns b.ns && stsB a.es b.es))))
theorem stB_iff {a b : St} : stB a b = true ↔ a = b := by
  obtain ⟨i, q, r⟩ := a
  obtain ⟨i', q', r'⟩ := b
  unfold stB
  simp
theorem stsB_iff : ∀ {l m : List St}, stsB l m = true ↔ l = m
  | [], [] => by simp [stsB]
  | a :: r, b :: s => by rw [stsB, Bool.and_eq_true, stB_iff, stsB_iff]; simp
  | [], _ :: _ => by simp [stsB]
  | _ :: _, [] => by simp [stsB]
theorem sameO_iff {a b : O} : sameO a b = true ↔ a = b := by
  obtain ⟨h, v, o, u, ns, es⟩ := a
  obtain ⟨h', v', o', u', ns', es'⟩ := b
  unfold sameO
  simp only [Bool.and_eq_true, stsB_iff, beq_iff_eq, O.mk.injEq]

theorem numB_iff {n : Int} (h : numB n = true) : 0 ≤ n ∧ n ≤ 1000000000 := by unfold numB at h; simpa using h
theorem nodes_nums : ∀ {q : Int} {p : Bool} {l : List St}, nodesB q p l = true → ∀ x ∈ l, numB x.id = true ∧ numB x.seq = true
  | _, _, [], _, x, hx => by simp at hx
  | q, p, y :: r, h, x, hx => by
    rw [nodesB] at h
    simp only [Bool.and_eq_true] at h
    rcases List.mem_cons.1 hx with rfl | hx
    · exact ⟨h.1, h.2.1⟩
    · exact nodes_nums h.2.2.2.2 x hx
theorem edges_nums : ∀ {es l : List St}, edgesB es l = true → ∀ x ∈ es, numB x.id = true ∧ numB x.seq = true
  | [], _, _, x, hx => by simp at hx
  | e :: es, a :: b :: r, h, x, hx => by
    rw [edgesB] at h
    simp only [Bool.and_eq_true] at h
    rcases List.mem_cons.1 hx with rfl | hx
    · exact ⟨h.1, h.2.1⟩
    · exact edges_nums h.2.2.2.2 x hx
  | _ :: _, [], h, _, _ => by simp [edgesB] at h
  | _ :: _, [_], h, _, _ => by simp [edgesB] at h
/-- The empty order. -/
def o0 : O := ⟨0, [], 0, 0, [], []⟩
/-- Lists, an element each: for loops. -/
theorem nodesB_step {q : Int} {p : Bool} {l : List St} {k : Nat} (hk : k < l.length) : nodesB q p (l.drop k) = (numB (l.getD k st0).id && (numB (l.getD k st0).seq && ((l.getD k st0).seq == q && ((!(l.getD k st0).rel || p) && nodesB (q + 2) (l.getD k st0).rel (l.drop (k + 1)))))) := by
  rw [List.drop_eq_getElem_cons hk, nodesB, List.getD_eq_getElem?_getD, List.getElem?_eq_getElem hk]
  rfl
theorem stsB_step {l m : List St} {k : Nat} (h1 : k < l.length) (h2 : k < m.length) : stsB (l.drop k) (m.drop k) = (stB (l.getD k st0) (m.getD k st0) && stsB (l.drop (k + 1)) (m.drop (k + 1))) := by
  rw [List.drop_eq_getElem_cons h1, List.drop_eq_getElem_cons h2, stsB, List.getD_eq_getElem?_getD, List.getElem?_eq_getElem h1, List.getD_eq_getElem?_getD, List.getElem?_eq_getElem h2]
  rfl
theorem stsB_len : ∀ {l m : List St}, l.length ≠ m.length → stsB l m = false
  | [], [], h => absurd rfl h
  | a :: r, b :: s, h => by rw [stsB, stsB_len (l := r) (m := s) (by simpa using h), Bool.and_false]
  | [], _ :: _, _ => rfl
  | _ :: _, [], _ => rfl
theorem base_step {l : List St} {k : Nat} (hk : k < l.length) : ((l.drop k).filter (·.rel)).length = (if (l.getD k st0).rel = true then 1 else 0) + ((l.drop (k + 1)).filter (·.rel)).length := by
  rw [List.drop_eq_getElem_cons hk, List.getD_eq_getElem?_getD, List.getElem?_eq_getElem hk]
  simp only [List.filter_cons, Option.getD_some]
  split
  · rw [List.length_cons]; omega
  · omega
end Go.Proofs.Ytnpbkjmlmdpggaa.Od
