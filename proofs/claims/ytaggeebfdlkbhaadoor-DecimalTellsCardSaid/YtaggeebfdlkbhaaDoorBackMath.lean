/- Plain: a printed decimal's parts; what Parse makes of them, with more noughts or another power. -/
import Derived.Test.YtaggeebfdlkbhaaDoorText
set_option linter.unusedSimpArgs false
set_option linter.unusedVariables false
namespace Go.Proofs.YtaggeebfdlkbhaaDoor

def sg (b : Bool) : List UInt8 := if b = true then [45] else []
def NonDig (t : List UInt8) : Prop := ∀ x r, t = x :: r → isDig x = false
theorem nonDig_nil : NonDig [] := fun _ _ h => by cases h
theorem nonDig_cons {x : UInt8} {r : List UInt8} (h : isDig x = false) : NonDig (x :: r) := fun _ _ e => by cases e; exact h

theorem heads {W t : List UInt8} (hW : Digs W) (ht : NonDig t) : headD (W ++ t) = W ∧ restD (W ++ t) = t := by
  induction W with
  | nil =>
    cases t with
    | nil => exact ⟨rfl, rfl⟩
    | cons x r =>
      have := ht x r rfl
      unfold headD restD
      simp [this]
  | cons c W ih =>
    have hc := hW c (by simp)
    obtain ⟨h1, h2⟩ := ih (fun x hx => hW x (by simp [hx]))
    unfold headD restD at *
    simp only [List.cons_append, List.takeWhile_cons, List.dropWhile_cons, hc, if_true]
    exact ⟨by rw [h1], h2⟩
theorem cut_sg {b : Bool} {W : List UInt8} (t : List UInt8) (hW : Digs W) (hne : W ≠ []) : pre (sg b ++ (W ++ t)) 45 = b ∧ cutp (sg b ++ (W ++ t)) 45 = W ++ t := by
  cases b with
  | true => exact ⟨rfl, rfl⟩
  | false =>
    cases W with
    | nil => exact absurd rfl hne
    | cons c W =>
      have hc := dig_le (hW c (by simp))
      have h : (c == 45) = false := by
        rw [beq_eq_false_iff_ne]
        intro e
        rw [e] at hc
        exact absurd hc.1 (by decide)
      have hp : pre (sg false ++ (c :: W ++ t)) 45 = false := h
      exact ⟨hp, by unfold cutp; rw [hp]; rfl⟩
theorem good_ne {W : List UInt8} (h : badW W = false) : W ≠ [] := by
  rintro rfl; cases h

/-- A text without a point behind its whole part. -/
theorem split_none {b : Bool} {W t : List UInt8} (hW : Digs W) (hg : badW W = false) (ht : NonDig t) (hp : pre t 46 = false) : splitS (sg b ++ (W ++ t)) = tailS b W [] t := by
  obtain ⟨h1, h2⟩ := cut_sg (b := b) t hW (good_ne hg)
  obtain ⟨h3, h4⟩ := heads hW ht
  unfold splitS
  simp only [h1, h2, h3, h4, hg, hp, Bool.false_eq_true, if_false]
  have : cutp t 46 = t := by unfold cutp; rw [hp]; rfl
  rw [this]
theorem split_some {b : Bool} {W Fr t : List UInt8} (hW : Digs W) (hg : badW W = false) (hF : Digs Fr) (hne : Fr ≠ []) (ht : NonDig t) : splitS (sg b ++ (W ++ 46 :: (Fr ++ t))) = tailS b W Fr t := by
  obtain ⟨h1, h2⟩ := cut_sg (b := b) (46 :: (Fr ++ t)) hW (good_ne hg)
  obtain ⟨h3, h4⟩ := heads hW (nonDig_cons (x := 46) (r := Fr ++ t) (by decide))
  obtain ⟨h5, h6⟩ := heads hF ht
  have hp : pre (46 :: (Fr ++ t)) 46 = true := rfl
  have hc : cutp (46 :: (Fr ++ t)) 46 = Fr ++ t := rfl
  have he : Fr.isEmpty = false := by cases Fr with | nil => exact absurd rfl hne | cons => rfl
  unfold splitS
  simp only [h1, h2, h3, h4, hg, hp, hc, h5, h6, he, Bool.false_eq_true, if_false, if_true]

/-- Digits of a number. -/
theorem decDigits_digs (u : Nat) : Digs (Lib.decDigits u) := by
  induction u using Nat.strongRecOn with
  | _ u ih =>
    have one : ∀ v, v < 10 → isDig (UInt8.ofNat (48 + v)) = true := by
      intro v hv
      unfold isDig
      have : (UInt8.ofNat (48 + v)).toNat = 48 + v := by simp; omega
      rw [this]; simp; omega
    rw [Lib.decDigits]
    split
    · rename_i h
      intro c hc; rw [List.mem_singleton.1 hc]; exact one u h
    · exact digs_append (ih (u / 10) (by omega)) (fun c hc => by rw [List.mem_singleton.1 hc]; exact one _ (by omega))
theorem dig_val (v : Nat) (h : v < 10) : (UInt8.ofNat (48 + v)).toNat - 48 = v := by
  have : (UInt8.ofNat (48 + v)).toNat = 48 + v := by simp; omega
  omega
theorem decDigits_val (u : Nat) : valD (Lib.decDigits u) = u := by
  induction u using Nat.strongRecOn with
  | _ u ih =>
    rw [Lib.decDigits]
    split
    · rename_i h; rw [valD_cons, dig_val u h]; simp [valD]
    · rename_i h
      rw [valD_snoc, ih (u / 10) (by omega), dig_val _ (by omega)]
      omega
theorem decDigits_head (u : Nat) (h : u ≠ 0) : ∃ c r, Lib.decDigits u = c :: r ∧ c ≠ 48 := by
  induction u using Nat.strongRecOn with
  | _ u ih =>
    rw [Lib.decDigits]
    split
    · rename_i hl
      refine ⟨_, [], rfl, ?_⟩
      intro e
      have := dig_val u hl
      rw [e] at this
      exact h this.symm
    · rename_i hl
      obtain ⟨c, r, h1, h2⟩ := ih (u / 10) (by omega) (by omega)
      exact ⟨c, r ++ [UInt8.ofNat (48 + u % 10)], by rw [h1]; rfl, h2⟩
theorem decDigits_last (u : Nat) (h : u % 10 ≠ 0) : ∃ r c, Lib.decDigits u = r ++ [c] ∧ c ≠ 48 := by
  have hne : ∀ v, v < 10 → v ≠ 0 → UInt8.ofNat (48 + v) ≠ 48 := by
    intro v hv h0 e
    have := dig_val v hv
    rw [e] at this
    exact h0 this.symm
  rw [Lib.decDigits]
  split
  · rename_i hl; exact ⟨[], _, rfl, hne u hl (by omega)⟩
  · exact ⟨_, _, rfl, hne _ (by omega) h⟩
theorem decDigits_ne (u : Nat) : Lib.decDigits u ≠ [] := by
  intro h
  have := Lib.decDigits_length u
  have h2 := Lib.nDigits_pos u
  rw [h] at this
  simp at this
  omega
theorem good_of_head {W : List UInt8} (h : ∃ c r, W = c :: r ∧ c ≠ 48) : badW W = false := by
  obtain ⟨c, r, rfl, hc⟩ := h
  unfold badW pre
  simp [hc]

def ptl (Fr : List UInt8) : List UInt8 := if Fr = [] then [] else 46 :: Fr
/-- What Print lays: a sign or none, digits, and, if there are any behind a point, these. -/
structure Parts (m e : Int) (b : Bool) (W Fr : List UInt8) : Prop where
  text : printS m e = sg b ++ (W ++ ptl Fr)
  good : badW W = false
  dW : Digs W
  dF : Digs Fr
  val : ∀ j : Int, mk (sgn b (valD (W ++ Fr))) (j - Fr.length) = mk m (e + j)
  len : W.length + Fr.length ≤ 30
  last : Fr = [] ∨ ∃ r c, Fr = r ++ [c] ∧ c ≠ 48
theorem sgn_abs (m : Int) : sgn (decide (m < 0)) (m.natAbs : Int) = m := by
  unfold sgn
  by_cases h : m < 0
  · rw [if_pos (by simp [h])]; omega
  · rw [if_neg (by simp [h])]; omega
theorem digs_zeros (k : Nat) : Digs (zeros k) := fun c hc => by
  have := List.eq_of_mem_replicate hc
  subst this; decide

theorem print_parts {m e : Int} (h : rightB m e = true) : ∃ W Fr, Parts m e (decide (m < 0)) W Fr := by
  have hb := rightB_bounds h
  have hlen := decDigits_le hb.1 hb.2.1
  have htext : printS m e = if 0 ≤ e then Lib.itoa m ++ zeros e.toNat else (if m < 0 then [45] else []) ++ ((figsL m e).take ((figsL m e).length - (-e).toNat) ++ 46 :: (figsL m e).drop ((figsL m e).length - (-e).toNat)) := by
    unfold printS; rw [if_pos h]
  have hsg : sg (decide (m < 0)) = if m < 0 then [45] else [] := by unfold sg; simp
  by_cases he : 0 ≤ e
  · refine ⟨Lib.decDigits m.natAbs ++ zeros e.toNat, [], ?_⟩
    rw [if_pos he] at htext
    refine ⟨?_, ?_, digs_append (decDigits_digs _) (digs_zeros _), digs_nil, fun j => ?_, ?_, .inl rfl⟩
    · rw [htext, hsg, show ptl [] = [] from rfl, List.append_nil, ← List.append_assoc]
      congr 1
      unfold Lib.itoa
      by_cases hm : m < 0
      · rw [if_pos hm, if_pos hm]; rfl
      · rw [if_neg hm, if_neg hm, show m.toNat = m.natAbs by omega]; rfl
    · by_cases hm : m = 0
      · have he0 : e = 0 := by
          unfold rightB at h; simp only [decide_eq_true_eq] at h; omega
        subst hm he0
        have : Lib.decDigits (0 : Int).natAbs = [48] := by rw [Lib.decDigits]; rfl
        rw [this]; rfl
      · obtain ⟨c, r, h1, h2⟩ := decDigits_head m.natAbs (by omega)
        exact good_of_head ⟨c, r ++ zeros e.toNat, by rw [h1]; rfl, h2⟩
    · rw [List.append_nil, valD_append_zeros, decDigits_val, Int.natCast_mul, Int.natCast_pow, show ((10 : Nat) : Int) = 10 from rfl, sgn_mul, sgn_abs, mk_pow]
      congr 1
      simp
      omega
    · simp [zeros_length]; omega
  · rw [if_neg he] at htext
    have hm : m ≠ 0 := by
      unfold rightB at h; simp only [decide_eq_true_eq] at h; omega
    have hm10 : m % 10 ≠ 0 := by
      unfold rightB at h; simp only [decide_eq_true_eq] at h; omega
    have hDn : 1 ≤ (Lib.decDigits m.natAbs).length := by rw [Lib.decDigits_length]; exact Lib.nDigits_pos _
    obtain ⟨c0, r0, hc0, hc48⟩ := decDigits_head m.natAbs (by omega)
    obtain ⟨r1, c1, hc1, hc148⟩ := decDigits_last m.natAbs (by omega)
    have hFl : (figsL m e).length = (1 - e - (Lib.decDigits m.natAbs).length).toNat + (Lib.decDigits m.natAbs).length := by
      unfold figsL; rw [List.length_append, zeros_length]
    have hFv : valD (figsL m e) = m.natAbs := by unfold figsL; rw [valD_zeros_append, decDigits_val]
    have hFd : Digs (figsL m e) := by unfold figsL; exact digs_append (digs_zeros _) (decDigits_digs _)
    have hFlast : figsL m e = (zeros (1 - e - (Lib.decDigits m.natAbs).length).toNat ++ r1) ++ [c1] := by unfold figsL; rw [hc1]; simp
    have hFhead : (figsL m e).length = (1 - e).toNat ∨ ∃ c r, figsL m e = c :: r ∧ c ≠ 48 := by
      by_cases hz : (1 - e - ((Lib.decDigits m.natAbs).length : Int)).toNat = 0
      · right
        refine ⟨c0, r0, ?_, hc48⟩
        unfold figsL
        rw [hz, hc0]; rfl
      · left; rw [hFl]; omega
    generalize figsL m e = F at *
    have hp : (-e).toNat + 1 ≤ F.length := by rw [hFl]; omega
    refine ⟨F.take (F.length - (-e).toNat), F.drop (F.length - (-e).toNat), ?_⟩
    have hdl : (F.drop (F.length - (-e).toNat)).length = (-e).toNat := by rw [List.length_drop]; omega
    have hdne : F.drop (F.length - (-e).toNat) ≠ [] := by
      intro h0; rw [h0] at hdl; simp at hdl; omega
    refine ⟨?_, ?_, fun c hc => hFd c (List.mem_of_mem_take hc), fun c hc => hFd c (List.mem_of_mem_drop hc), fun j => ?_, ?_, .inr ?_⟩
    · rw [htext, hsg]
      unfold ptl
      rw [if_neg hdne]
    · rcases hFhead with hh | ⟨c, r, hh, hc⟩
      · have : (F.take (F.length - (-e).toNat)).length = 1 := by rw [List.length_take]; omega
        unfold badW
        rw [this]
        cases hq : F.take (F.length - (-e).toNat) with
        | nil => rw [hq] at this; cases this
        | cons => rfl
      · apply good_of_head
        refine ⟨c, r.take (F.length - (-e).toNat - 1), ?_, hc⟩
        rw [hh]
        have : 1 ≤ (c :: r).length - (-e).toNat := by rw [← hh]; omega
        generalize (c :: r).length - (-e).toNat = p at *
        cases p with
        | zero => omega
        | succ p => rfl
    · rw [List.take_append_drop, hFv, sgn_abs, hdl]
      congr 1
      omega
    · rw [List.length_take, List.length_drop]; omega
    · have : (-e).toNat ≠ 0 := by omega
      refine ⟨((zeros (1 - e - (Lib.decDigits m.natAbs).length).toNat ++ r1)).drop (F.length - (-e).toNat), c1, ?_, hc148⟩
      have h2 : F.length - (-e).toNat ≤ (zeros (1 - e - (Lib.decDigits m.natAbs).length).toNat ++ r1).length := by
        have := congrArg List.length hFlast
        rw [List.length_append] at this
        simp only [List.length_cons, List.length_nil] at this
        omega
      conv => lhs; rw [hFlast]
      rw [List.drop_append_of_le_length]
      · rw [← hFlast]
      · rw [← hFlast]; exact h2

/-- A printed decimal with a tail behind it that tells a power. -/
theorem parse_tail {m e : Int} {b : Bool} {W Fr t : List UInt8} (h : Parts m e b W Fr) (ht : NonDig t) (hp : pre t 46 = false) (hl : t.length ≤ 100) :
    parseS (printS m e ++ t) = match (if t.isEmpty = true then some 0 else powS t) with | none => (0, 0, false) | some E => mk m (e + E) := by
  have hlen := h.len
  have hbs : (sg b).length ≤ 1 := by unfold sg; split <;> simp
  have tl : ∀ Fr', Fr' = Fr → valS (tailS b W Fr' t) = match (if t.isEmpty = true then some 0 else powS t) with | none => (0, 0, false) | some E => mk m (e + E) := by
    rintro _ rfl
    unfold tailS
    split
    · exact h.val 0
    · cases powS t with
      | none => rfl
      | some E => exact h.val E
  rw [h.text]
  unfold ptl
  by_cases hF : Fr = []
  · rw [if_pos hF, List.append_nil, List.append_assoc]
    unfold parseS
    rw [if_neg (by simp only [List.length_append]; omega), split_none h.dW h.good ht hp]
    exact tl [] hF.symm
  · rw [if_neg hF]
    rw [show sg b ++ (W ++ 46 :: Fr) ++ t = sg b ++ (W ++ 46 :: (Fr ++ t)) by simp]
    unfold parseS
    rw [if_neg (by simp only [List.length_append, List.length_cons]; omega), split_some h.dW h.good h.dF hF ht]
    exact tl Fr rfl
theorem parse_print {m e : Int} (h : rightB m e = true) : parseS (printS m e) = (m, e, true) := by
  obtain ⟨W, Fr, hp⟩ := print_parts h
  have := parse_tail hp nonDig_nil rfl (by simp)
  rw [List.append_nil] at this
  rw [this]
  show mk m (e + 0) = _
  rw [Int.add_zero]
  exact mk_right m e h
end Go.Proofs.YtaggeebfdlkbhaaDoor
