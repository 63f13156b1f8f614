import Derived.Test.YtnjcfnmdelpecaaTh
/- Layer 7: texts of parts, put together; the walk of the law TopicParts. -/
set_option linter.unusedVariables false
set_option linter.unusedSimpArgs false
namespace Go.Proofs.Ytnjcfnmdelpecaa.Tp
open Go.RowKit

/-- Parts with slashes between. -/
def joinL : List (List UInt8) → List UInt8
  | [] => []
  | [p] => p
  | p :: q :: r => p ++ 47 :: joinL (q :: r)
theorem joinL_cons (p : List UInt8) {r : List (List UInt8)} (h : r ≠ []) : joinL (p :: r) = p ++ 47 :: joinL r := by
  cases r with
  | nil => exact absurd rfl h
  | cons q r => rfl
theorem joinL_snoc : ∀ (ps : List (List UInt8)) (p : List UInt8), ps ≠ [] → joinL (ps ++ [p]) = joinL ps ++ 47 :: p
  | [], _, h => absurd rfl h
  | [q], p, _ => rfl
  | q :: q' :: r, p, _ => by
    rw [List.cons_append, joinL_cons q (by simp), joinL_cons q (by simp), joinL_snoc (q' :: r) p (by simp)]
    simp
theorem joinL_flat : ∀ (ps : List (List UInt8)) (p : List UInt8), joinL (ps ++ [p]) = ps.flatMap (· ++ [47]) ++ p
  | [], p => rfl
  | q :: r, p => by
    rw [List.cons_append, joinL_cons q (by simp), joinL_flat r p]
    simp
theorem joinL_parts : ∀ (ps : List (List UInt8)), ps ≠ [] → (∀ p ∈ ps, 47 ∉ p) → partsL (joinL ps) = ps
  | [], h, _ => absurd rfl h
  | [p], _, h => partsL_one p (h p (by simp))
  | p :: q :: r, _, h => by
    rw [joinL_cons p (by simp), partsL_head _ _ (h p (by simp)), joinL_parts (q :: r) (by simp) (fun x hx => h x (List.mem_cons_of_mem _ hx))]
theorem flat_len : ∀ (ps : List (List UInt8)), (∀ p ∈ ps, p.length ≤ 17) → (ps.flatMap (· ++ [47])).length ≤ 18 * ps.length
  | [], _ => by simp
  | p :: r, h => by
    have h1 := flat_len r (fun x hx => h x (List.mem_cons_of_mem _ hx))
    have h2 := h p (by simp)
    simp only [List.flatMap_cons, List.length_append, List.length_cons, List.length_nil]
    omega
/-- The same, as it is put together part by part: a slash behind each but the fifth. -/
def othL (Q : List (List UInt8)) (i : Nat) : List UInt8 := if i < 5 then (Q.take i).flatMap (· ++ [47]) else joinL Q
theorem othL_zero (Q : List (List UInt8)) : othL Q 0 = [] := rfl
theorem othL_five (Q : List (List UInt8)) : othL Q 5 = joinL Q := rfl
theorem othL_step {Q : List (List UInt8)} {i : Nat} (hQ : Q.length = 5) (h : i < 4) : othL Q (i + 1) = othL Q i ++ Q[i]'(by omega) ++ [47] := by
  unfold othL
  rw [if_pos (by omega), if_pos (by omega), List.take_add_one, List.getElem?_eq_getElem (by omega), List.flatMap_append, Option.toList_some, List.flatMap_singleton, List.append_assoc]
theorem othL_last {Q : List (List UInt8)} (hQ : Q.length = 5) : othL Q 5 = othL Q 4 ++ Q[4]'(by omega) := by
  rw [othL_five]
  unfold othL
  rw [if_pos (by omega)]
  have e : Q = Q.take 4 ++ [Q[4]'(by omega)] := by
    conv => lhs; rw [← List.take_of_length_le (i := 5) (by omega : Q.length ≤ 5)]
    rw [List.take_add_one, List.getElem?_eq_getElem (by omega)]
    rfl
  conv => lhs; rw [e]
  exact joinL_flat _ _
theorem othL_len {Q : List (List UInt8)} {i : Nat} (hQ : Q.length = 5) (h : ∀ p ∈ Q, p.length ≤ 17) (hi : i < 5) : (othL Q i).length ≤ 90 := by
  unfold othL
  rw [if_pos hi]
  have := flat_len (Q.take i) (fun p hp => h p (List.mem_of_mem_take hp))
  rw [List.length_take] at this
  omega

/-- A topic's parts. -/
def partsT (m s k : List UInt8) : List (List UInt8) := [uagvL, v2L, m, s, k]
theorem partsT_len (m s k : List UInt8) : (partsT m s k).length = 5 := rfl
theorem print_join (m s k : List UInt8) : printL m s k = joinL (partsT m s k) := by
  simp [printL, joinL, partsT, startL, uagvL, v2L]
theorem partsT_no {m s k : List UInt8} (h : okT m s k = true) : ∀ p ∈ partsT m s k, 47 ∉ p := by
  intro p hp
  simp only [partsT, List.mem_cons, List.not_mem_nil, or_false] at hp
  rcases hp with rfl | rfl | rfl | rfl | rfl
  · decide
  · decide
  · exact name_47 (okT_m h)
  · exact name_47 (okT_s h)
  · exact name_47 (kind_name (okT_k h))
theorem partsT_plain {m s k : List UInt8} (h : okT m s k = true) : ∀ p ∈ partsT m s k, plainP p := print_plain h
theorem partsT_small {m s k : List UInt8} (h : okT m s k = true) : ∀ p ∈ partsT m s k, 1 ≤ p.length ∧ p.length ≤ 16 := by
  intro p hp
  simp only [partsT, List.mem_cons, List.not_mem_nil, or_false] at hp
  rcases hp with rfl | rfl | rfl | rfl | rfl
  · decide
  · decide
  · exact name_len (okT_m h)
  · exact name_len (okT_s h)
  · exact name_len (kind_name (okT_k h))
theorem last_not {ps : List (List UInt8)} (h : ∀ p ∈ ps, plainP p) : ps.getLast? ≠ some [35] := fun e => (h _ (List.mem_of_getLast? e)).2 rfl
/-- What a filter of other parts is held against a topic's text. -/
theorem match_joined {P : List (List UInt8)} {m s k : List UInt8} (h : okT m s k = true) (hP : P ≠ []) (hn : ∀ p ∈ P, 47 ∉ p) : matchS (joinL P) (printL m s k) = matchP P (partsT m s k) := by
  unfold matchS
  rw [joinL_parts P hP hn, print_parts h]
  rfl
theorem match_back {P : List (List UInt8)} {m s k : List UInt8} (h : okT m s k = true) (hP : P ≠ []) (hn : ∀ p ∈ P, 47 ∉ p) : matchS (printL m s k) (joinL P) = matchP (partsT m s k) P := by
  unfold matchS
  rw [joinL_parts P hP hn, print_parts h]
  rfl
theorem take_ne {m s k : List UInt8} {j : Nat} (h : 1 ≤ j) : (partsT m s k).take j ≠ [] := by
  intro e
  have := congrArg List.length e
  rw [List.length_take, partsT_len] at this
  simp at this
  omega
theorem less_no {m s k : List UInt8} (h : okT m s k = true) {j : Nat} (h1 : 1 ≤ j) (h2 : j ≤ 4) : matchS (joinL ((partsT m s k).take j)) (printL m s k) = false := by
  rw [match_joined h (take_ne h1) (fun p hp => partsT_no h p (List.mem_of_mem_take hp))]
  refine matchP_len _ _ (last_not (fun p hp => partsT_plain h p (List.mem_of_mem_take hp))) ?_
  rw [List.length_take, partsT_len]
  omega
theorem less_back {m s k : List UInt8} (h : okT m s k = true) {j : Nat} (h1 : 1 ≤ j) (h2 : j ≤ 4) : matchS (printL m s k) (joinL ((partsT m s k).take j)) = false := by
  rw [match_back h (take_ne h1) (fun p hp => partsT_no h p (List.mem_of_mem_take hp))]
  refine matchP_len _ _ (last_not (partsT_plain h)) ?_
  rw [List.length_take, partsT_len]
  omega
theorem less_hash {m s k : List UInt8} (h : okT m s k = true) {j : Nat} (h1 : 1 ≤ j) : matchS (joinL ((partsT m s k).take j) ++ [47, 35]) (printL m s k) = true := by
  rw [show joinL ((partsT m s k).take j) ++ [47, 35] = joinL ((partsT m s k).take j ++ [[35]]) from (joinL_snoc _ _ (take_ne h1)).symm]
  rw [match_joined h (by simp) (fun p hp => by
    rcases List.mem_append.1 hp with hp | hp
    · exact partsT_no h p (List.mem_of_mem_take hp)
    · simp at hp; subst hp; decide)]
  have := matchP_hash ((partsT m s k).take j) ((partsT m s k).drop j)
  rwa [List.take_append_drop] at this
theorem more_no {m s k q : List UInt8} (h : okT m s k = true) (h1 : 47 ∉ q) (h2 : q ≠ [35]) : matchS (printL m s k ++ 47 :: q) (printL m s k) = false := by
  rw [show printL m s k ++ 47 :: q = joinL (partsT m s k ++ [q]) by rw [joinL_snoc _ _ (by simp [partsT]), ← print_join]]
  rw [match_joined h (by simp) (fun p hp => by
    rcases List.mem_append.1 hp with hp | hp
    · exact partsT_no h p hp
    · simp at hp; subst hp; exact h1)]
  refine matchP_len _ _ (by simpa using h2) ?_
  rw [List.length_append, partsT_len]
  simp
theorem more_back {m s k q : List UInt8} (h : okT m s k = true) (h1 : 47 ∉ q) : matchS (printL m s k) (printL m s k ++ 47 :: q) = false := by
  rw [show printL m s k ++ 47 :: q = joinL (partsT m s k ++ [q]) by rw [joinL_snoc _ _ (by simp [partsT]), ← print_join]]
  rw [match_back h (by simp) (fun p hp => by
    rcases List.mem_append.1 hp with hp | hp
    · exact partsT_no h p hp
    · simp at hp; subst hp; exact h1)]
  refine matchP_len _ _ (last_not (partsT_plain h)) ?_
  rw [List.length_append, partsT_len]
  simp
/-- With another part in a place. -/
theorem other_no {m s k : List UInt8} (h : okT m s k = true) {j : Nat} (hj : j < 5) : matchS (joinL ((partsT m s k).set j ((partsT m s k)[j]'hj ++ [43]))) (printL m s k) = false := by
  have hs := partsT_small h _ (List.getElem_mem (l := partsT m s k) hj)
  have hno : ∀ p ∈ (partsT m s k).set j ((partsT m s k)[j]'hj ++ [43]), 47 ∉ p := fun p hp => by
    rcases List.mem_or_eq_of_mem_set hp with hp | rfl
    · exact partsT_no h p hp
    · intro e
      rcases List.mem_append.1 e with e | e
      · exact partsT_no h _ (List.getElem_mem hj) e
      · simp at e
  rw [match_joined h (by intro e; have := congrArg List.length e; simp [partsT] at this) hno, matchP_plain]
  · rw [decide_eq_false_iff_not]
    intro e
    have e2 := congrArg (fun l => l[j]?) e
    have hj' : j < (partsT m s k).length := hj
    simp only [List.getElem?_set_self hj', List.getElem?_eq_getElem hj', Option.some.injEq] at e2
    have := congrArg List.length e2
    rw [List.length_append] at this
    have h2 : _ + 1 = _ := this
    omega
  · intro p hp
    rcases List.mem_or_eq_of_mem_set hp with hp | rfl
    · exact partsT_plain h p hp
    · constructor
      · intro e
        have := congrArg List.length e
        rw [List.length_append] at this
        have h2 : _ + 1 = 1 := this
        omega
      · intro e
        have := congrArg List.length e
        rw [List.length_append] at this
        have h2 : _ + 1 = 1 := this
        omega
end Go.Proofs.Ytnjcfnmdelpecaa.Tp
