import Derived.Test.YtafmnoeljefpaaaFp
/- Layer 5, plain: what Get tells of what Make put together. -/
set_option linter.unusedVariables false
set_option linter.unusedSimpArgs false
namespace Go.Proofs.Ytafmnoeljefpaaa.Js
open Go.RowKit Lex

def asc : List (List UInt8) → List J → List UInt8 → Option J
  | x :: r, y :: s, nm => if x = nm then some y else asc r s nm
  | [], _, _ => none
  | _ :: _, [], _ => none
theorem asc_snoc : ∀ (ns : List (List UInt8)) (is : List J), ns.length = is.length → ∀ (x : List UInt8) (y : J) (nm : List UInt8), asc (ns ++ [x]) (is ++ [y]) nm = (asc ns is nm).or (if x = nm then some y else none)
  | [], [], _, x, y, nm => by simp [asc]
  | a :: r, b :: s, h, x, y, nm => by
    simp only [List.cons_append, asc]
    by_cases e : a = nm
    · simp [e]
    · rw [if_neg e, if_neg e]; exact asc_snoc r s (by simpa using h) x y nm
  | [], b :: s, h, _, _, _ => by simp at h
  | a :: r, [], h, _, _, _ => by simp at h
theorem asc_mem : ∀ (ns : List (List UInt8)) (is : List J), ns.length = is.length → ∀ nm, nm ∈ ns → (asc ns is nm).isSome = true
  | [], _, _, nm, h => by simp at h
  | a :: r, b :: s, hl, nm, h => by
    rw [asc]
    by_cases e : a = nm
    · simp [e]
    · rw [if_neg e]; exact asc_mem r s (by simpa using hl) nm (by simpa [Ne.symm e] using h)
  | a :: r, [], hl, _, _ => by simp at hl
theorem mkL_asc : ∀ (xs : List (List UInt8)) (ys : List J) (ns : List (List UInt8)) (is : List J), ns.length = is.length → (mkL xs ys ns is).1.length = (mkL xs ys ns is).2.length ∧ ∀ nm, asc (mkL xs ys ns is).1 (mkL xs ys ns is).2 nm = (asc ns is nm).or (asc xs ys nm)
  | [], ys, ns, is, h => by rw [mkL]; exact ⟨h, fun nm => by rw [asc]; simp⟩
  | x :: r, [], ns, is, h => by rw [mkL]; exact ⟨h, fun nm => by rw [asc]; simp⟩
  | x :: r, y :: s, ns, is, h => by
    rw [mkL]
    by_cases hc : ns.contains x = true
    · rw [if_pos hc]
      obtain ⟨h1, h2⟩ := mkL_asc r s ns is h
      refine ⟨h1, fun nm => ?_⟩
      rw [h2 nm]
      by_cases e : x = nm
      · subst e
        have := asc_mem ns is h x (by simpa using hc)
        obtain ⟨v, hv⟩ := Option.isSome_iff_exists.1 this
        rw [hv]; rfl
      · rw [asc, if_neg e]
    · rw [if_neg hc]
      obtain ⟨h1, h2⟩ := mkL_asc r s (ns ++ [x]) (is ++ [y]) (by simp [h])
      refine ⟨h1, fun nm => ?_⟩
      rw [h2 nm, asc_snoc ns is h, asc]
      by_cases e : x = nm
      · simp [e]
      · simp [e]
theorem plcL_asc (nm : List UInt8) : ∀ (l : List (List UInt8)) (s : List J) (i : Nat), l.length = s.length → (∃ p y, p < s.length ∧ plcL nm l i (i + l.length) = ((i + p : Nat) : Int) ∧ asc l s nm = some y ∧ s.getD p j0 = y) ∨ (plcL nm l i (i + l.length) = -1 ∧ asc l s nm = none)
  | [], s, i, h => .inr ⟨by rw [plcL], by rw [asc]⟩
  | x :: r, y :: s, i, h => by
    rw [plcL, if_pos (by simp), asc]
    by_cases e : x = nm
    · rw [if_pos e, if_pos e]
      exact .inl ⟨0, y, by simp, by simp, rfl, rfl⟩
    · rw [if_neg e, if_neg e, show i + (x :: r).length = i + 1 + r.length by simp; omega]
      rcases plcL_asc nm r s (i + 1) (by simpa using h) with ⟨p, v, h1, h2, h3, h4⟩ | h
      · exact .inl ⟨p + 1, v, by simp; omega, by rw [h2]; omega, h3, by simpa using h4⟩
      · exact .inr h
  | x :: r, [], i, h => by simp at h
theorem getS_asc (ns : List (List UInt8)) (is : List J) (h : ns.length = is.length) (nm : List UInt8) : getS (.mk 7 0 0 [] ns is) nm = ((asc ns is nm).getD j0, (asc ns is nm).isSome) := by
  have e : plc (.mk 7 0 0 [] ns is) nm = plcL nm ns 0 is.length := by unfold plc; rw [if_pos (show (J.mk 7 0 0 [] ns is).k = 7 from rfl)]; rfl
  unfold getS
  rw [e, ← h]
  have := plcL_asc nm ns is 0 h
  rw [Nat.zero_add] at this
  rcases this with ⟨p, y, h1, h2, h3, h4⟩ | ⟨h1, h2⟩
  · rw [h2, h3, if_neg (by omega)]
    show (is.getD ((0 + p : Nat) : Int).toNat j0, true) = _
    rw [show ((0 + p : Nat) : Int).toNat = p by omega, h4]; rfl
  · rw [h1, h2, if_pos (by omega)]; rfl
theorem getS_make (xs : List (List UInt8)) (ys : List J) (nm : List UInt8) : getS (mkJ xs ys) nm = ((asc xs ys nm).getD j0, (asc xs ys nm).isSome) := by
  unfold mkJ
  obtain ⟨h1, h2⟩ := mkL_asc xs ys [] [] rfl
  rw [getS_asc _ _ h1, h2 nm]
  rfl
theorem asc_first : ∀ (xs : List (List UInt8)) (ys : List J) (nm : List UInt8) (F : Nat), F < xs.length → F < ys.length → xs.getD F [] = nm → (∀ p, p < F → xs.getD p [] ≠ nm) → asc xs ys nm = some (ys.getD F j0)
  | [], _, _, F, h, _, _, _ => by simp at h
  | _ :: _, [], _, F, _, h, _, _ => by simp at h
  | x :: r, y :: s, nm, 0, _, _, h, _ => by rw [asc, if_pos (by simpa using h)]; rfl
  | x :: r, y :: s, nm, F + 1, h1, h2, h3, h4 => by
    rw [asc, if_neg (by simpa using h4 0 (by omega)), asc_first r s nm F (by simpa using h1) (by simpa using h2) (by simpa using h3) (fun p hp => by simpa using h4 (p + 1) (by omega))]
    rfl
theorem asc_some : ∀ (xs : List (List UInt8)) (ys : List J) (nm : List UInt8), (asc xs ys nm).isSome = (xs.take (min xs.length ys.length)).contains nm
  | [], _, _ => by simp [asc]
  | _ :: _, [], _ => by simp [asc]
  | x :: r, y :: s, nm => by
    rw [asc, show min (x :: r).length (y :: s).length = min r.length s.length + 1 by simp only [List.length_cons]; omega, List.take_succ_cons, List.contains_cons]
    by_cases e : x = nm
    · rw [if_pos e]; simp [e]
    · rw [if_neg e, asc_some r s nm]
      have : (nm == x) = false := by simpa using Ne.symm e
      rw [this, Bool.false_or]
theorem mkJ_form (xs : List (List UInt8)) (ys : List J) : (mkJ xs ys).k = 7 ∧ (mkJ xs ys).ns.length = (mkJ xs ys).is.length := ⟨rfl, (mkL_asc xs ys [] [] rfl).1⟩
theorem contains_snoc {xs : List (List UInt8)} {q : Nat} (h : q < xs.length) (nm : List UInt8) : (xs.take (q + 1)).contains nm = ((xs.take q).contains nm || (xs.getD q [] == nm)) := by
  rw [List.take_succ_eq_append_getElem h, List.getD_eq_getElem?_getD, List.getElem?_eq_getElem h]
  rw [Bool.eq_iff_iff]
  simp only [List.contains_iff_mem, List.mem_append, List.mem_singleton, Bool.or_eq_true, beq_iff_eq]
  constructor
  · rintro (h | h)
    · exact .inl h
    · exact .inr h.symm
  · rintro (h | h)
    · exact .inl h
    · exact .inr h.symm
/-- The first place of a name, looked for from behind. -/
def FP (xs : List (List UInt8)) (i : Nat) (k : Int) (F : Nat) : Prop := F ≤ i ∧ xs.getD F [] = xs.getD i [] ∧ ∀ p : Nat, k < p → p < F → xs.getD p [] ≠ xs.getD i []
theorem FP.begin (xs : List (List UInt8)) (i : Nat) : FP xs i i i := ⟨Nat.le_refl _, rfl, fun p h1 h2 => by omega⟩
theorem FP.yes {xs : List (List UInt8)} {i k F : Nat} (h : FP xs i k F) (hk : k ≤ i) (e : xs.getD k [] = xs.getD i []) : FP xs i ((k : Int) - 1) k := ⟨hk, e, fun p h1 h2 => by omega⟩
theorem FP.no {xs : List (List UInt8)} {i k F : Nat} (h : FP xs i k F) (e : xs.getD k [] ≠ xs.getD i []) : FP xs i ((k : Int) - 1) F := ⟨h.1, h.2.1, fun p h1 h2 => by
  by_cases hp : p = k
  · subst hp; exact e
  · exact h.2.2 p (by omega) h2⟩
theorem FP.done {xs : List (List UInt8)} {ys : List J} {i F : Nat} (h : FP xs i (-1) F) (h1 : i < xs.length) (h2 : i < ys.length) : getS (mkJ xs ys) (xs.getD i []) = (ys.getD F j0, true) := by
  rw [getS_make, asc_first xs ys _ F (by have := h.1; omega) (by have := h.1; omega) h.2.1 (fun p hp => h.2.2 p (by omega) hp)]
  rfl
def its (rs : List RT) : List J := rs.map (fitJ 14)
theorem its_snoc {rs : List RT} {q : Nat} (h : q < rs.length) : its (rs.take (q + 1)) = its (rs.take q) ++ [fitJ 14 (rs.getD q rt0)] := by
  unfold its
  rw [List.take_succ_eq_append_getElem h, List.map_append, List.getD_eq_getElem?_getD, List.getElem?_eq_getElem h]; rfl
end Go.Proofs.Ytafmnoeljefpaaa.Js
