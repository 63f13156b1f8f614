import Derived.Test.YtkmiemaigalgpaaFl
/- Layer 5: fields of one's own; the walk of the law FieldMissing. -/
set_option linter.unusedVariables false
set_option linter.unusedSimpArgs false
namespace Go.Proofs.Ytkmiemaigalgpaa.Js
open Go.RowKit Lex

theorem field_info : (Try.prog.info? 50).map (fun i => (i.zero, i.size, i.bytes)) = some (some (.agg #[.string ⟨#[]⟩, .int .i64 0, .int .i64 0, .int .i64 0, .bool false]), 5, 48) := by kernel_rfl
/-- The cells of fields. -/
def fdL (f : Fd) : List Value := [.string ⟨f.nm.toArray⟩, .int .i64 f.k, .int .i64 f.lo, .int .i64 f.hi, .bool f.fr]
def flds (fs : List Fd) : List Value := fs.flatMap fdL
theorem flds_len : ∀ fs : List Fd, (flds fs).length = fs.length * 5
  | [] => rfl
  | f :: r => by
    have := flds_len r
    unfold flds at this ⊢
    rw [List.flatMap_cons, List.length_append, this]
    simp [fdL]; omega
theorem flds_get : ∀ (fs : List Fd) (i q : Nat), i < fs.length → q < 5 → (flds fs)[i * 5 + q]? = (fdL (fs.getD i fd0))[q]?
  | [], i, q, h, _ => by simp at h
  | f :: r, i, q, h, hq => by
    unfold flds
    rw [List.flatMap_cons]
    cases i with
    | zero => rw [Nat.zero_mul, Nat.zero_add, List.getElem?_append_left (by simp [fdL]; omega)]; rfl
    | succ i =>
      rw [List.getElem?_append_right (by simp [fdL]; omega)]
      have := flds_get r i q (by simpa using h) hq
      unfold flds at this
      rw [show (fdL f).length = 5 from rfl, show (i + 1) * 5 + q - 5 = i * 5 + q by omega, this]
      rfl
theorem flds_set : ∀ (fs : List Fd) (i : Nat), i < fs.length → (flds fs).set (i * 5 + 4) (.bool true) = flds (fs.set i { fs.getD i fd0 with fr := true })
  | [], i, h => by simp at h
  | f :: r, i, h => by
    unfold flds
    cases i with
    | zero => simp [fdL, List.flatMap_cons]
    | succ i =>
      have := flds_set r i (by simpa using h)
      unfold flds at this
      rw [List.flatMap_cons, List.set_append, if_neg (by simp [fdL]; omega), show (fdL f).length = 5 from rfl, show (i + 1) * 5 + 4 - 5 = i * 5 + 4 by omega, this, List.set_cons_succ, List.flatMap_cons]
      rfl
/-- A row of fields of one's own reads as them. -/
theorem fds_own {w : World} {base : Nat} {v : Value} {fs : List Fd} (h : w.ownsRow base 50 5 v fs.length (flds fs)) (hl : fs.length ≤ 1000000) (hg : ∀ f ∈ fs, f.good) : FdsAt w v fs := by
  obtain ⟨ao, cap, rfl⟩ := own_slice h
  rcases h.2 with ⟨e, h0⟩ | ⟨g, cp, cur, hv, hbg, hgg, hnc, hcm, hcs, htake⟩
  · exact ⟨ao, cap, rfl, by omega, by omega, hg, fun hp => by omega⟩
  · cases hv
    refine ⟨_, _, rfl, hnc, by omega, hg, fun _ => ⟨g, 0, rfl, Own.block_lt hgg, fun i hi q c hq => ?_⟩⟩
    have hq5 : q < 5 := by have := (List.getElem?_eq_some_iff.1 hq).1; simpa [aggC, fdV] using this
    rw [Nat.zero_add, h.cellAt (i * 5 + q) (by omega), flds_get fs i q hi hq5, ← hq]
    simp [aggC, fdV, fdL]

/-- The first fields of a schema, in memory of one's own. -/
def SOwn (w : World) (base : Nat) (fs : List Fd) (sv : Value) (wx : World) : Prop := Below w.heap.size w wx ∧ w.heap.size ≤ base ∧ wx.ownsRow base 50 5 sv fs.length (flds fs)
/-- An object without fields. -/
def jE : J := .mk 7 0 0 [] [] []
theorem hasE (f : Fd) : hasB jE f = f.fr := by
  unfold hasB getS plc jE J.k J.ns plcL
  simp
theorem chkE (fs : List Fd) (q : Nat) (h : q < fs.length) : chkL jE (fs.drop q) q = if (fs.getD q fd0).fr = true then chkL jE (fs.drop (q + 1)) (q + 1) else q := by
  rw [drop_getD0 fd0 h, chkL, hasE]
  by_cases hf : (fs.getD q fd0).fr = true
  · rw [if_pos ⟨rfl, hf⟩, if_pos hf]
  · rw [if_neg (fun h => hf h.2), if_neg hf]
theorem chkE_all : ∀ (fs : List Fd) (q : Nat), (∀ f ∈ fs, f.fr = true) → chkL jE fs q = -1
  | [], q, _ => rfl
  | f :: r, q, h => by rw [chkL, if_pos ⟨rfl, by rw [hasE]; exact h f (by simp)⟩, chkE_all r (q + 1) (fun x hx => h x (by simp [hx]))]
end Go.Proofs.Ytkmiemaigalgpaa.Js
