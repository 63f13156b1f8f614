import Derived.Test.YtnpbkjmlmdpggaaKd
/- An order's line: out of o/XOi. -/
set_option linter.unusedVariables false
set_option linter.unusedSimpArgs false
namespace Go.Proofs.Ytnpbkjmlmdpggaa.Od
open Go.RowKit Js

/-- An edge, and the node behind it, follow a node. -/
def stepB (a e b : St) : Bool := (numB e.id && (numB e.seq && (numB b.id && numB b.seq))) && (e.seq == a.seq + 1 && (b.seq == e.seq + 1 && (b.rel == e.rel && (a.rel || !e.rel))))
def stepsB : List St → List St → Bool
  | e :: es, a :: b :: r => stepB a e b && stepsB es (b :: r)
  | [], _ => true
  | _ :: _, [] => false
  | _ :: _, [_] => false
def firstB (a : St) : Bool := numB a.id && (numB a.seq && (decide (a.seq % 2 = 0) && a.rel))
def lineB (ns es : List St) : Bool := decide (1 ≤ ns.length) && (decide (ns.length ≤ 64) && (decide (es.length + 1 = ns.length) && (firstB (ns.headD st0) && stepsB es ns)))
theorem steps_nodes : ∀ {es r : List St} {a : St}, es.length = r.length → stepsB es (a :: r) = (nodesB (a.seq + 2) a.rel r && edgesB es (a :: r))
  | [], [], a, _ => by simp [stepsB, nodesB, edgesB]
  | e :: es, b :: r, a, h => by
    rw [stepsB, nodesB, edgesB, steps_nodes (es := es) (r := r) (a := b) (by simpa using h)]
    by_cases hs : b.seq = a.seq + 2
    · rw [hs]
      have e1 : (a.seq + 2 == a.seq + 2) = true := by simp
      have e2 : (a.seq + 2 == e.seq + 1) = (e.seq == a.seq + 1) := by
        rw [Bool.eq_iff_iff]; simp; omega
      unfold stepB
      rw [hs, e1, e2]
      have e3 : (b.rel == e.rel) = (e.rel == b.rel) := by cases b.rel <;> cases e.rel <;> rfl
      rw [e3]
      generalize numB e.id = x1
      generalize numB e.seq = x2
      generalize numB b.id = x3
      generalize numB (a.seq + 2) = x4
      generalize (e.seq == a.seq + 1) = x5
      generalize nodesB (a.seq + 2 + 2) b.rel r = x6
      generalize edgesB es (b :: r) = x7
      generalize a.rel = y1
      generalize b.rel = y2
      generalize e.rel = y3
      revert x1 x2 x3 x4 x5 x6 x7 y1 y2 y3
      decide
    · have e1 : (b.seq == a.seq + 2) = false := by simpa using hs
      have e2 : (e.seq == a.seq + 1 && b.seq == e.seq + 1) = false := by
        rw [Bool.eq_false_iff]; simp; omega
      have e3 : stepB a e b = false := by
        unfold stepB
        rw [← Bool.and_assoc (e.seq == a.seq + 1), e2]
        simp
      rw [e1, e3]
      simp
  | [], _ :: _, _, h => by simp at h
  | _ :: _, [], _, h => by simp at h
theorem line_right (nm : List UInt8 → Bool) (x : O) : rightO nm x = ((numB x.h && (numB x.o && numB x.u)) && (nm x.v && lineB x.ns x.es)) := by
  obtain ⟨h, v, o, u, ns, es⟩ := x
  unfold rightO lineB
  simp only
  by_cases hl : 1 ≤ ns.length ∧ es.length + 1 = ns.length
  · obtain ⟨h1, h2⟩ := hl
    match ns, h1 with
    | a :: r, _ =>
      have h3 : es.length = r.length := by simpa using h2
      rw [steps_nodes h3, nodesB]
      have hd : (a :: r).headD st0 = a := rfl
      have h2' : decide (es.length + 1 = (a :: r).length) = true := by simpa using h3
      rw [hd, h2']
      have e1 : (a.seq == a.seq) = true := by simp
      have e2 : (!a.rel || true) = true := by simp
      rw [e1, e2]
      unfold firstB
      generalize nm v = x0
      generalize numB h = x1
      generalize numB o = x2
      generalize numB u = x3
      generalize decide (1 ≤ (a :: r).length) = x4
      generalize decide ((a :: r).length ≤ 64) = x5
      generalize numB a.id = x6
      generalize numB a.seq = x7
      generalize decide (a.seq % 2 = 0) = x8
      generalize a.rel = x9
      generalize nodesB (a.seq + 2) x9 r = y1
      generalize edgesB es (a :: r) = y2
      cases x0 <;> cases x1 <;> cases x2 <;> cases x3 <;> cases x4 <;> cases x5 <;> cases x6 <;> cases x7 <;> cases x8 <;> cases x9 <;> simp
  · have hf : (decide (1 ≤ ns.length) && decide (es.length + 1 = ns.length)) = false := by
      rw [Bool.eq_false_iff]; simpa using hl
    generalize decide (1 ≤ ns.length) = x4 at *
    generalize decide (es.length + 1 = ns.length) = x5 at *
    cases x4
    · simp
    · cases x5
      · simp
      · simp at hf
theorem stepsB_step {es ns : List St} {k : Nat} (h1 : k < es.length) (h2 : k + 1 < ns.length) : stepsB (es.drop k) (ns.drop k) = (stepB (ns.getD k st0) (es.getD k st0) (ns.getD (k + 1) st0) && stepsB (es.drop (k + 1)) (ns.drop (k + 1))) := by
  rw [drop_getD0 st0 h1, drop_getD0 st0 (show k < ns.length by omega), drop_getD0 st0 h2, stepsB]
theorem edgesB_step {es ns : List St} {k : Nat} (h1 : k < es.length) (h2 : k + 1 < ns.length) : edgesB (es.drop k) (ns.drop k) = (numB (es.getD k st0).id && (numB (es.getD k st0).seq && ((es.getD k st0).seq == (ns.getD k st0).seq + 1 && ((es.getD k st0).rel == (ns.getD (k + 1) st0).rel && edgesB (es.drop (k + 1)) (ns.drop (k + 1)))))) := by
  rw [drop_getD0 st0 h1, drop_getD0 st0 (show k < ns.length by omega), drop_getD0 st0 h2, edgesB]
theorem stepsB_nil (ns : List St) : stepsB [] ns = true := by cases ns <;> rfl
theorem edgesB_nil (ns : List St) : edgesB [] ns = true := by cases ns <;> rfl

end Go.Proofs.Ytnpbkjmlmdpggaa.Od
