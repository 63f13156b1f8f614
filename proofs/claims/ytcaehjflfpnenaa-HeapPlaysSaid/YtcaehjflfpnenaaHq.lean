import Derived.Test.YtcaehjflfpnenaaHp
import Derived.Test.YtcaehjflfpnenaaHg
/- The calls of the document's heap. -/
set_option linter.unusedVariables false
set_option linter.unusedSimpArgs false
namespace Go.Proofs.Ytcaehjflfpnenaa.Hp
open Go.RowKit

section
variable {base b : Nat} {w w' : World} {v : Value} {s : List Pr}
theorem RfAt.lt (h : RfAt base w b v s) : b < w.heap.size := (Array.getElem?_eq_some_iff.1 h.cell).1
theorem RfAt.get (h : RfAt base w b v s) : w.cell? ⟨b, 0, none⟩ = some v := by
  rw [cell_of_row w b 0 _ _ _ h.cell]
  rfl
theorem RfAt.thaw (h : RfAt base w b v s) : w.frozen? ⟨b, 0, none⟩ = false := frozen_of_row w b 0 _ _ h.cell
theorem RfAt.below (h : RfAt base w b v s) (hb : Below w.heap.size w w') : RfAt base w' b v s := ⟨h.ge, (hb.block b h.lt).trans h.cell, h.row.below hb, h.short⟩
theorem RfAt.form (h : RfAt base w b v s) (h0 : 0 < s.length) : ∃ g o c, v = .slice (some ⟨g, o, none⟩) s.length c ∧ s.length ≤ c ∧ g ≠ b ∧ g < w.heap.size := by
  rcases h.row with ⟨_, h1, _⟩ | ⟨g, o, c, cur, fr, hv, hc, _, hg, _⟩
  · omega
  · refine ⟨g, o, c, hv, hc, fun e => ?_, (Array.getElem?_eq_some_iff.1 hg).1⟩
    subst e
    have := h.cell
    rw [hg] at this
    simp at this
theorem RfAt.form0 (h : RfAt base w b v s) : ∃ ao c, v = .slice ao s.length c := by
  rcases h.row with ⟨hv, h1, _⟩ | ⟨g, o, c, cur, fr, hv, hc, _, hg, _⟩
  · exact ⟨none, 0, by rw [hv, h1]⟩
  · exact ⟨_, c, hv⟩
end
theorem rnew_any (w : World) : Calls Try.prog 10 #[] w (fun e w' => e = .returned (.pointer (some ⟨w.heap.size, 0, none⟩)) ∧ w' = w.alloc (.cells #[.slice none 0 0] 44)) := by
  go_enter Try.func10, Try.ntmps10
  go_wp2
  go_ret
  exact ⟨rfl, rfl⟩
theorem rnew_is {base : Nat} {w : World} (h : base ≤ w.heap.size) : RfAt base (w.alloc (.cells #[.slice none 0 0] 44)) w.heap.size (.slice none 0 0) [] :=
  ⟨h, heap_alloc_new w _, .inl ⟨rfl, rfl, rfl⟩, by simp⟩
theorem rlen_any {base : Nat} {w : World} {b : Nat} {v : Value} {s : List Pr} (h : RfAt base w b v s) : Calls Try.prog 16 #[.pointer (some ⟨b, 0, none⟩)] w (fun e w' => e = .returned (.int .i64 s.length) ∧ w = w') := by
  obtain ⟨ao, cap, rfl⟩ := h.form0
  have hc := h.get
  clear h
  go_enter Try.func16, Try.ntmps16
  go_wp2_with fail
  go_ret
  exact ⟨rfl, rfl⟩
theorem rf_set {base b : Nat} {w : World} {v v' : Value} {s s' : List Pr} (h : RfAt base w b v s) (hs : Src w v' s'.length s') (hv : v'.ownBlock ≠ some b) (hsh : s'.length ≤ 1000) : RfAt base (w.setCell ⟨b, 0, none⟩ v') b v' s' ∧ Only b none none w (w.setCell ⟨b, 0, none⟩ v') := by
  refine ⟨⟨h.ge, ?_, hs.keep (fun g cur fr _ hg => heap_setCell_other w ⟨b, 0, none⟩ g _ (fun e => hv (by rw [hg, e]))), hsh⟩, (Only.refl b none w).setb 0 v'⟩
  rw [heap_setCell_same w b 0 _ _ _ h.cell]
  rfl
theorem src_cast {w : World} {v v' : Value} {m m' : Nat} {T T' : List Pr} (h : Src w v m T) (h1 : v = v') (h2 : m = m') (h3 : T = T') : Src w v' m' T' := by
  subst h1 h2 h3
  exact h
def RPopRet (base : Nat) (w : World) (b : Nat) (s : List Pr) (e : Ending) (w' : World) : Prop :=
  e = .returned (.tuple #[.int .i64 (at' s 0).1, .int .i64 (at' s 0).2, .bool (!s.isEmpty)]) ∧ ∃ v', RfAt base w' b v' s.tail ∧ Only b none none w w'
set_option maxHeartbeats 4000000 in
theorem rpop_any {base : Nat} {w : World} {b : Nat} {v : Value} {s : List Pr} (h : RfAt base w b v s) : Calls Try.prog 12 #[.pointer (some ⟨b, 0, none⟩)] w (RPopRet base w b s) := by
  obtain ⟨Q, HQ⟩ : ∃ Q, Hid (RPopRet base w b s = Q) := ⟨_, rfl⟩
  rw [HQ.out]
  cases s with
  | nil =>
    obtain ⟨ao, cap, rfl⟩ := h.form0
    have hc := h.get
    have H := Lib.hid h
    clear h
    simp only [List.length_nil] at hc
    go_enter Try.func12, Try.ntmps12
    go_wp2_with fail
    go_ret3
    rw [← HQ.out]
    exact ⟨rfl, _, H.out, Only.refl _ _ _⟩
  | cons x r =>
    obtain ⟨g, o, c, rfl, hnc, hgb, hgs⟩ := h.form (by simp)
    have hc := h.get
    have hf := h.thaw
    have hlt := h.lt
    have hsh := h.short
    obtain ⟨c1, c2⟩ := Src.get (i := 0) h.row (by simp)
    have hD := Lib.hid (Src.drop (k := 1) h.row (by simp))
    have H := Lib.hid h
    clear h
    obtain ⟨x1, x2⟩ := x
    simp only [List.length_cons, Nat.zero_mul, Nat.add_zero] at *
    have e0 : at' ((x1, x2) :: r) 0 = (x1, x2) := rfl
    rw [e0] at c1 c2
    clear e0
    dsimp only at c1 c2
    have hne1 : b ≠ w.heap.size := by omega
    have hne2 : g ≠ w.heap.size := by omega
    have hk1 : 1 ≤ r.length + 1 := by omega
    have hk2 : 1 ≤ c := by omega
    by_cases hcap : c = 1
    · subst hcap
      have hr0 : r = [] := List.length_eq_zero_iff.1 (by omega)
      subst hr0
      have hR := Lib.hid (rf_set (s' := []) H.out (src_cast hD.out (v' := .slice (some ⟨g, o, none⟩) 0 0) (by simp) (by simp) rfl) (by simp only [Value.ownBlock, ne_eq, Option.some.injEq]; exact hgb) (by simp))
      go_enter Try.func12, Try.ntmps12
      go_wp2_with fail
      go_region
      go_wp2_with fail
      go_ret3
      rw [← HQ.out]
      have hB := ((Below.refl _ (w.setCell ⟨b, 0, none⟩ (.slice (some ⟨g, o, none⟩) 0 0))).alloc (Nat.le_refl _) (.cells #[.int .i64 x1, .int .i64 x2] 32)).drew
      exact ⟨rfl, _, hR.out.1.below hB, hR.out.2.below (hB.mono hR.out.2.size)⟩
    · have hR := Lib.hid (rf_set (s' := r) H.out (src_cast hD.out (v' := .slice (some ⟨g, o + 2, none⟩) r.length (c - 1)) (by simp [hcap]) (by simp) rfl) (by simp only [Value.ownBlock, ne_eq, Option.some.injEq]; exact hgb) (by omega))
      go_enter Try.func12, Try.ntmps12
      go_wp2_with fail
      go_region
      go_wp2_with fail
      go_ret3
      rw [← HQ.out]
      have hB := ((Below.refl _ (w.setCell ⟨b, 0, none⟩ (.slice (some ⟨g, o + 2, none⟩) r.length (c - 1)))).alloc (Nat.le_refl _) (.cells #[.int .i64 x1, .int .i64 x2] 32)).drew
      exact ⟨rfl, _, hR.out.1.below hB, hR.out.2.below (hB.mono hR.out.2.size)⟩
end Go.Proofs.Ytcaehjflfpnenaa.Hp
