/- The contract of Parse: it is parseS. -/
import Derived.Test.YtaggeebfdlkbhaaDoorSplit3
set_option linter.unusedSimpArgs false
set_option linter.unusedVariables false
namespace Go.Proofs.YtaggeebfdlkbhaaDoor
open Go.RowKit Go.Sort

/-- What the program makes of the parts. -/
def partsS (o : Option Numeral) : Int × Int × Bool :=
  match o with
  | none => (0, 0, false)
  | some (b, W, Fr, E) => formS b Fr.length (clampE E) (Lib.trimLeftB (W ++ Fr) 48) (Lib.trimRightB (Lib.trimLeftB (W ++ Fr) 48) 48)

theorem headD_digs (l : List UInt8) : Digs (headD l) := fun c hc => by
  have := List.all_takeWhile (p := isDig) (l := l)
  rw [List.all_eq_true] at this
  exact this _ hc
theorem digs_nil : Digs [] := fun _ h => by cases h
theorem digs_append {a b : List UInt8} (ha : Digs a) (hb : Digs b) : Digs (a ++ b) := fun c hc => (List.mem_append.1 hc).elim (ha c) (hb c)
theorem headD_len (l : List UInt8) : (headD l).length + (restD l).length = l.length := by
  have := congrArg List.length (head_rest l); rw [List.length_append] at this; exact this

/-- What split leaves: digits, no more than there were. -/
theorem split_parts {l : List UInt8} {b : Bool} {W Fr : List UInt8} {E : Int} (h : splitS l = some (b, W, Fr, E)) : Digs W ∧ Digs Fr ∧ W.length + Fr.length ≤ l.length := by
  have tail : ∀ {neg : Bool} {W0 Fr0 S4 : List UInt8}, tailS neg W0 Fr0 S4 = some (b, W, Fr, E) → W0 = W ∧ Fr0 = Fr := by
    intro neg W0 Fr0 S4 h
    unfold tailS at h
    split at h
    · simp at h; exact ⟨h.2.1, h.2.2.1⟩
    · split at h
      · cases h
      · simp at h; exact ⟨h.2.1, h.2.2.1⟩
  have l1 := cutp_len l 45
  have l2 := headD_len (cutp l 45)
  have l3 := cutp_len (restD (cutp l 45)) 46
  have l4 := headD_len (cutp (restD (cutp l 45)) 46)
  unfold splitS at h
  simp only at h
  split at h
  · cases h
  · split at h
    · split at h
      · cases h
      · obtain ⟨rfl, rfl⟩ := tail h
        exact ⟨headD_digs _, headD_digs _, by omega⟩
    · obtain ⟨rfl, rfl⟩ := tail h
      exact ⟨headD_digs _, digs_nil, by simp; omega⟩

set_option maxHeartbeats 1000000 in
theorem parse_core (l : List UInt8) (w : World) (o : Option Numeral) (hl : l.length ≤ 400) (HO : Hid (splitS l = o)) :
    Calls Tryd.prog 13 #[.string ⟨l.toArray⟩] w (Ret (mkV (partsS o)) w) := by
  go_enter Tryd.func13, Tryd.ntmps13
  go_wp2_with fail
  (with_reducible refine (split_any _ _ hl).mono ?_)
  rintro e1 w1 ⟨rfl, hb⟩
  rw [HO.out]
  obtain ⟨hc, hf⟩ := bcell hb
  have hz : w.heap.size < w1.heap.size := by have := hb.size; simp at this; omega
  have c0 : w1.cell? ⟨w.heap.size, 0, none⟩ = some (.int .i64 0) := by rw [hc _ _ (by simp)]; simp
  have c1 : w1.cell? ⟨w.heap.size, 1, none⟩ = some (.int .i64 0) := by rw [hc _ _ (by simp)]; simp
  have fr : ∀ o, w1.frozen? ⟨w.heap.size, o, none⟩ = false := fun o => by rw [hf _ _ (by simp)]; simp
  have hbb := below_call hb
  clear hb hc hf
  rcases o with _ | ⟨b, W, Fr, E⟩
  · unfold splV
    go_wp2_with fail
    have q0 : ∀ o, (((w1.setCell ⟨w.heap.size, 0, none⟩ (.int .i64 0)).setCell ⟨w.heap.size, 1, none⟩ (.int .i64 0)).alloc o).cell? ⟨w.heap.size, 0, none⟩ = some (.int .i64 0) := fun o => by
      rw [World.cell?_alloc_lt _ _ _ (by simpa [World.setCell] using hz), World.cell?_setCell_other _ _ _ _ (by simp), World.cell?_setCell_same _ _ _ c0]
    have q1 : ∀ o, (((w1.setCell ⟨w.heap.size, 0, none⟩ (.int .i64 0)).setCell ⟨w.heap.size, 1, none⟩ (.int .i64 0)).alloc o).cell? ⟨w.heap.size, 1, none⟩ = some (.int .i64 0) := fun o => by
      rw [World.cell?_alloc_lt _ _ _ (by simpa [World.setCell] using hz), World.cell?_setCell_same (u := .int .i64 0) _ _ _ (by rw [World.cell?_setCell_other _ _ _ _ (by simp)]; exact c1)]
    exact bodyPost_ret (v := mkV (0, 0, false)) (by simp [mkV, results, Tryd.results13, go_sem, q0, q1]) rfl ⟨rfl, by repeat (first | exact hbb | refine Below.setCell ?_ (by simp) _ | refine Below.alloc ?_ (by simpa [World.setCell] using hbb.size) _)⟩
  · unfold splV
    obtain ⟨d1, d2, d3⟩ := split_parts HO.out
    have D12 := Lib.hid (digs_append d1 d2)
    clear d1 d2
    have hE0 : -1000 ≤ clampE E := by unfold clampE; omega
    have hE1 : clampE E ≤ 1000 := by unfold clampE; omega
    go_wp2_with fail
    (with_reducible refine (form_any _ _ _ _ _ (by omega) D12.out hE0 hE1 _ _ (Lib.hid rfl) (Lib.hid rfl)).mono ?_)
    rintro e2 w2 ⟨rfl, hb2⟩
    have a1 : formS b Fr.length (clampE E) (Lib.trimLeftB (W ++ Fr) 48) (Lib.trimRightB (Lib.trimLeftB (W ++ Fr) 48) 48) = partsS (some (b, W, Fr, E)) := rfl
    rw [a1]
    clear a1
    generalize partsS (some (b, W, Fr, E)) = res at *
    obtain ⟨x1, x2, x3⟩ := res
    unfold mkV at *
    have d0 : w2.cell? ⟨w.heap.size, 0, none⟩ = some (.int .i64 0) := by rw [(bcell hb2).1 _ _ (by simp; omega), World.cell?_alloc_lt _ _ _ hz]; exact c0
    have d1 : w2.cell? ⟨w.heap.size, 1, none⟩ = some (.int .i64 0) := by rw [(bcell hb2).1 _ _ (by simp; omega), World.cell?_alloc_lt _ _ _ hz]; exact c1
    have fr2 : ∀ o, w2.frozen? ⟨w.heap.size, o, none⟩ = false := fun o => by
      rw [(bcell hb2).2 _ _ (by simp; omega), ((Below.refl _ _).alloc (Nat.le_refl _) _).frozen (p := ⟨w.heap.size, o, none⟩) hz]
      exact fr o
    have hbb2 : Below w.heap.size w w2 := (hbb.alloc hbb.size _).trans (hb2.mono (by simp; omega))
    clear c0 c1 fr hb2
    go_wp2_with fail
    exact bodyPost_ret (v := mkV (x1, x2, x3)) (by simp [mkV, results, Tryd.results13, go_sem, d0, d1]) rfl ⟨rfl, by repeat (first | exact hbb2 | refine Below.setCell ?_ (by simp) _)⟩

set_option maxHeartbeats 1000000 in
theorem parse_long (s : ByteArray) (w : World) (hl : 400 < s.size) (hs : s.size ≤ maxLen) :
    Calls Tryd.prog 13 #[.string s] w (Ret (mkV (0, 0, false)) w) := by
  unfold maxLen at hs
  go_enter Tryd.func13, Tryd.ntmps13
  go_wp2_with fail
  exact bodyPost_ret (v := mkV (0, 0, false)) (by simp [mkV, results, Tryd.results13, go_sem]) rfl ⟨rfl, (Below.refl _ _).alloc (Nat.le_refl _) _⟩
end Go.Proofs.YtaggeebfdlkbhaaDoor
