import Derived.Test.YtafmnoeljefpaaaFv
import Derived.Deep.DeepCutAuto
import Derived.Deep.CutRange
import Derived.Deep.CutBlock
import Derived.Lib.QuietBelow
import Derived.Test.YtafmnoeljefpaaaMx
import Derived.Test.YtafmnoeljefpaaaBare
/- The walk of the law FieldChecks: it answers true. -/
set_option linter.unusedVariables false
set_option linter.unusedSimpArgs false
namespace Go.Proofs.Ytafmnoeljefpaaa.Js
open Go.RowKit Lex

theorem FdsAt.take8 {w : World} {ao : Option Addr} {cap : Nat} {fs : List Fd} (h : FdsAt w (.slice ao fs.length cap) fs) (k : Nat) (hk : k ≤ fs.length) : FdsAt w (.slice ao k cap) (fs.take k) := by
  obtain ⟨_, _, e, hc, hm, hg, hcl⟩ := h
  cases e
  have hl : (fs.take k).length = k := by simp; omega
  refine ⟨ao, cap, by rw [hl], by omega, by omega, fun f hf => hg f (List.mem_of_mem_take hf), fun hp => ?_⟩
  obtain ⟨b, off, e1, e2, e3⟩ := hcl (by omega)
  refine ⟨b, off, e1, e2, fun i hi => ?_⟩
  rw [hl] at hi
  rw [List.getD_eq_getElem?_getD, List.getElem?_take, if_pos hi, ← List.getD_eq_getElem?_getD]
  exact e3 i (by omega)
def nms (fs : List Fd) : List (List UInt8) := fs.map Fd.nm
theorem nms_snoc {fs : List Fd} {q : Nat} (h : q < fs.length) : nms (fs.take (q + 1)) = nms (fs.take q) ++ [(fs.getD q fd0).nm] := by
  unfold nms
  rw [List.take_succ_eq_append_getElem h, List.map_append, List.getD_eq_getElem?_getD, List.getElem?_eq_getElem h]; rfl
/-- The state of the names' and items' loop. -/
def TL (w : World) (base : Nat) (fs : List Fd) (rs : List RT) (q : Nat) (nv iv : Value) (wr : World) : Prop := TI w base (nms (fs.take q)) (its (rs.take q)) nv iv wr

/-- The same, and a field in a box. -/
structure YI (w : World) (bb : Nat) (X : Array Value) (jv : J) (fb : Nat) (F : Array Value) (wr : World) : Prop where
  vi : VI w bb X jv wr
  fbox : wr.heap[fb]? = some (.cells F 31 (0, 0))
theorem YI.below {w : World} {bb : Nat} {X : Array Value} {jv : J} {fb : Nat} {F : Array Value} {wr w' : World} (h : YI w bb X jv fb F wr) (hb : Below wr.heap.size wr w') : YI w bb X jv fb F w' :=
  ⟨h.vi.below hb, (hb.block _ (Own.block_lt h.fbox)).trans h.fbox⟩
theorem told_of {α : Type} (z : α) (f : J → α × Bool) (j : J) (nm : List UInt8) (h : (getS j nm).2 = true) : tellG z f j nm = f (getS j nm).1 := by
  unfold getS tellG at *
  by_cases hp : plc j nm < 0
  · rw [if_pos hp] at h; cases h
  · rw [if_neg hp, if_neg hp]
theorem inB_iff {n : Int} {f : Fd} (h : inB n f = true) : f.lo ≤ n ∧ n ≤ f.hi := by
  unfold inB at h
  simpa using h
/-- What a field that is there must be. -/
theorem fitB_of {x : J} {nm : List UInt8} {fk lo hi : Int} {fr : Bool} (h : fitB x ⟨nm, fk, lo, hi, fr⟩ = true) :
    (fk = 8 → (flagS x).2 = true) ∧ (fk = 4 → (numS x).2 = true ∧ lo ≤ (numS x).1 ∧ (numS x).1 ≤ hi) ∧ (fk = 5 → (txtS x).2 = true ∧ lo ≤ (txtS x).1.length ∧ ((txtS x).1.length : Int) ≤ hi) ∧ (fk = 6 → (lstS x).2 = true ∧ lo ≤ (lstS x).1.length ∧ ((lstS x).1.length : Int) ≤ hi) := by
  unfold fitB at h
  by_cases h8 : fk = 8
  · rw [if_pos h8] at h
    exact ⟨fun _ => h, fun e => by omega, fun e => by omega, fun e => by omega⟩
  · rw [if_neg h8] at h
    by_cases hk : x.k = fk
    · rw [if_neg (show ¬ (x.k ≠ fk) from fun e => e hk)] at h
      by_cases h4 : fk = 4
      · rw [if_pos h4, Bool.and_eq_true] at h
        exact ⟨fun e => by omega, fun _ => ⟨h.1, inB_iff h.2⟩, fun e => by omega, fun e => by omega⟩
      · rw [if_neg h4] at h
        by_cases h5 : fk = 5
        · rw [if_pos h5] at h
          have ht : txtS x = (x.t, true) := by unfold txtS; rw [if_pos (hk.trans h5)]
          exact ⟨fun e => by omega, fun e => by omega, fun _ => ⟨by rw [ht], by rw [ht]; exact inB_iff h⟩, fun e => by omega⟩
        · rw [if_neg h5] at h
          by_cases h6 : fk = 6
          · rw [if_pos h6] at h
            have ht : lstS x = (x.is, true) := by unfold lstS; rw [if_pos (hk.trans h6)]
            exact ⟨fun e => by omega, fun e => by omega, fun e => by omega, fun _ => ⟨by rw [ht], by rw [ht]; exact inB_iff h⟩⟩
          · exact ⟨fun e => by omega, fun e => by omega, fun e => by omega, fun e => by omega⟩
    · rw [if_pos hk] at h; cases h
/-- What Check tells of a schema of n fields. -/
def CK (jv : J) (fs : List Fd) (n : Nat) (K : Int) (l : Nat) : Prop :=
  chkL jv fs 0 = K ∧ (∀ q, q < l → jv.k = 7 ∧ hasB jv (fs.getD q fd0) = true) ∧ (0 ≤ K → ¬ (jv.k = 7 ∧ hasB jv (fs.getD l fd0) = true))
theorem ck_of (jv : J) (fs : List Fd) : ∃ (K : Int) (l : Nat), CK jv fs fs.length K l ∧ -1 ≤ K ∧ K < fs.length ∧ l ≤ fs.length ∧ ((K = -1 ∧ l = fs.length) ∨ K = l ∧ l < fs.length) := by
  rcases chkL_lt jv fs 0 with ⟨h1, h2⟩ | ⟨p, h1, h2, h3, h4⟩
  · exact ⟨-1, fs.length, ⟨h1, fun q hq => h2 _ (by rw [List.getD_eq_getElem?_getD, List.getElem?_eq_getElem hq]; exact List.getElem_mem _), fun h => by omega⟩, by omega, by omega, Nat.le_refl _, .inl ⟨rfl, rfl⟩⟩
  · exact ⟨p, p, ⟨by rw [h2]; omega, h3, fun _ => h4⟩, by omega, by omega, by omega, .inr ⟨rfl, h1⟩⟩

end Go.Proofs.Ytafmnoeljefpaaa.Js
