import Derived.Test.YthmblgfcjbiomaaHh
/- The heap's calls: New, Push, Pop, Len. -/
set_option linter.unusedVariables false
set_option linter.unusedSimpArgs false
namespace Go.Proofs.Ythmblgfcjbiomaa.Hp
open Go.RowKit

/-- A heap that holds what a list in order says. -/
def HpIs (base : Nat) (w : World) (b : Nat) (v : Value) (s : List Pr) : Prop := ∃ l, HpAt base w b v l ∧ Pile l ∧ l.Perm s ∧ Asc s
theorem HpIs.below {base b : Nat} {w w' : World} {v : Value} {s : List Pr} (h : HpIs base w b v s) (hb : Below w.heap.size w w') : HpIs base w' b v s := by
  obtain ⟨l, h1, h2⟩ := h
  exact ⟨l, h1.below hb, h2⟩
theorem HpIs.keep {base b : Nat} {w w' : World} {v : Value} {s : List Pr} (h : HpIs base w b v s) (hb : w'.heap[b]? = w.heap[b]?) (hr : ∀ g, v.ownBlock = some g → w'.heap[g]? = w.heap[g]?) : HpIs base w' b v s := by
  obtain ⟨l, h1, h2⟩ := h
  exact ⟨l, h1.keep hb hr, h2⟩
theorem HpIs.at {base b : Nat} {w : World} {v : Value} {s : List Pr} (h : HpIs base w b v s) : base ≤ b ∧ b < w.heap.size ∧ v.ownBlock ≠ some b ∧ (∀ g, v.ownBlock = some g → base ≤ g ∧ g < w.heap.size) := by
  obtain ⟨l, h1, h2⟩ := h
  exact ⟨h1.ge, h1.lt, h1.ne, h1.row.lt⟩
def PushRet (base : Nat) (w : World) (b : Nat) (v : Value) (s : List Pr) (x : Pr) (e : Ending) (w' : World) : Prop :=
  e = .returned (.tuple #[]) ∧ ∃ v', HpIs base w' b v' (insP x s) ∧ Only b v.ownBlock v'.ownBlock w w'
def PopRet (base : Nat) (w : World) (b : Nat) (v : Value) (s : List Pr) (e : Ending) (w' : World) : Prop :=
  e = .returned (.tuple #[.int .i64 (at' s 0).1, .int .i64 (at' s 0).2, .bool (!s.isEmpty)]) ∧ ∃ v', HpIs base w' b v' s.tail ∧ Only b v.ownBlock v'.ownBlock w w'

theorem new_any (w : World) : Calls Try.prog 35 #[] w (fun e w' => e = .returned (.pointer (some ⟨w.heap.size, 0, none⟩)) ∧ w' = w.alloc (.cells #[.slice none 0 0] 72)) := by
  go_enter Try.func35, Try.ntmps35
  go_wp2
  go_ret
  exact ⟨rfl, rfl⟩
theorem new_is {base : Nat} {w : World} (h : base ≤ w.heap.size) : HpIs base (w.alloc (.cells #[.slice none 0 0] 72)) w.heap.size (.slice none 0 0) [] :=
  ⟨[], ⟨h, heap_alloc_new w _, World.ownsRow_nil _ _ _ _, by simp⟩, fun i _ h => by simp at h, List.Perm.refl _, List.Pairwise.nil⟩
theorem push_any {base : Nat} {w : World} {b : Nat} {v : Value} {s : List Pr} (h : HpIs base w b v s) (hs : s.length ≤ 999) (k t : Int) :
    Calls Try.prog 39 #[.pointer (some ⟨b, 0, none⟩), .int .i64 k, .int .i64 t] w (PushRet base w b v s (k, t)) := by
  obtain ⟨l, h1, h2, h3, h4⟩ := h
  have C := Lib.hid (put_any h1 h2 (by rw [h3.length_eq]; exact hs) (k, t))
  have hP := Lib.hid h3
  obtain ⟨Q, HQ⟩ : ∃ Q, Hid (PushRet base w b v s (k, t) = Q) := ⟨_, rfl⟩
  rw [HQ.out]
  clear h1 h2 h3
  go_enter Try.func39, Try.ntmps39
  go_wp2_with (go_at_call 42; (with_reducible refine (C.out).mono ?_); rintro e w1 ⟨rfl, v', l', k1, k2, k3, k4⟩)
  go_end0
  rw [← HQ.out]
  exact ⟨rfl, v', ⟨l', k1, k2, k3.trans ((hP.out.cons _).trans (perm_ins _ _).symm), asc_ins _ h4⟩, k4⟩
/-- The least one of a pile is the first one in order. -/
theorem pile_head {l s : List Pr} (hp : Pile l) (h : l.Perm s) (ha : Asc s) : at' l 0 = at' s 0 ∧ l.isEmpty = s.isEmpty ∧ ∀ l', l.Perm (at' l 0 :: l') → l'.Perm s.tail := by
  cases s with
  | nil =>
    have := h.eq_nil
    subst this
    exact ⟨rfl, rfl, fun l' h => by simpa using h.length_eq⟩
  | cons x r =>
    have ha := List.pairwise_cons.1 ha
    have h0 : 0 < l.length := by rw [h.length_eq]; simp
    have e : at' l 0 = x := by
      have h1 : LeP (at' l 0) x := by
        obtain ⟨i, hi, hx⟩ := List.mem_iff_getElem.1 (h.mem_iff.2 (List.mem_cons_self ..))
        rw [← hx, ← at_lt hi]
        exact hp.least i hi
      have h2 : at' l 0 ∈ x :: r := by
        rw [at_lt h0]
        exact h.mem_iff.1 (List.getElem_mem h0)
      rcases List.mem_cons.1 h2 with e | e
      · exact e
      · exact h1.anti (ha.1 _ e)
    refine ⟨e, ?_, fun l' hl => ?_⟩
    · cases l with
      | nil => simp at h0
      | cons => rfl
    · rw [e] at hl
      exact (List.perm_cons x).1 (hl.symm.trans h)
theorem take_any {base : Nat} {w : World} {b : Nat} {v : Value} {l : List Pr} (h : HpAt base w b v l) (hp : Pile l) : Calls Try.prog 40 #[.pointer (some ⟨b, 0, none⟩)] w (TakeRet base w b v l) := by
  cases l with
  | nil => exact take_none h
  | cons x r => exact take_some h hp (by simp)
set_option maxHeartbeats 4000000 in
theorem pop_any {base : Nat} {w : World} {b : Nat} {v : Value} {s : List Pr} (h : HpIs base w b v s) : Calls Try.prog 37 #[.pointer (some ⟨b, 0, none⟩)] w (PopRet base w b v s) := by
  obtain ⟨l, h1, h2, h3, h4⟩ := h
  have C := Lib.hid (take_any h1 h2)
  obtain ⟨p1, p2, p3⟩ := pile_head h2 h3 h4
  have hlt := h1.lt
  have hlen := h3.length_eq
  obtain ⟨Q, HQ⟩ : ∃ Q, Hid (PopRet base w b v s = Q) := ⟨_, rfl⟩
  rw [HQ.out]
  have P1 := Lib.hid p1
  have P2 := Lib.hid p2
  have P3 := Lib.hid p3
  have H1 := Lib.hid h1
  have HL := Lib.hid hlen
  clear p1 p2 p3 h1 h2 h3 hlen
  unfold TakeRet at C
  generalize hk : (at' l 0).1 = k at C
  generalize ht : (at' l 0).2 = t at C
  generalize ho : (!l.isEmpty) = o at C
  have HK := Lib.hid hk
  have HT := Lib.hid ht
  have HO := Lib.hid ho
  clear hk ht ho
  go_enter Try.func37, Try.ntmps37
  go_wp2_with (go_at_call 40; (with_reducible refine (C.out).mono ?_); rintro e w1 ⟨rfl, v', l', k1, k2, k3, k4⟩)
  go_region
  go_wp2_with fail
  go_ret3
  rw [← HQ.out]
  have hB : Below w1.heap.size w1 (w1.alloc (Obj.cells #[.int .i64 k, .int .i64 t] 75)).drew := ((Below.refl _ w1).alloc (Nat.le_refl _) _).drew
  refine ⟨?_, v', ⟨l', k1.below hB, k2, ?_, ?_⟩, k4.below (hB.mono k4.size)⟩
  · rw [← P1.out, ← P2.out, HK.out, HT.out, HO.out]
    rfl
  · rcases k3 with ⟨rfl, rfl⟩ | k3
    · have := HL.out
      cases s with
      | nil => exact List.Perm.refl _
      | cons => simp at this
    · exact P3.out l' k3
  · cases s with
    | nil => exact h4
    | cons x r => exact (List.pairwise_cons.1 h4).2
end Go.Proofs.Ythmblgfcjbiomaa.Hp
