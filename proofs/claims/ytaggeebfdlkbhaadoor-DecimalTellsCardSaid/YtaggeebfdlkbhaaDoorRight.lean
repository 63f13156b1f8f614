/- Contracts of Right, raise and Int of the program, and of the document's answer. -/
import Derived.Test.YtaggeebfdlkbhaaDoorMake
namespace Go.Proofs.YtaggeebfdlkbhaaDoor
open Go.RowKit

theorem bne_of {a b : Bool} {q : Int} (h : (q == 0) = a) (hb : b = !a) : (q != 0) = b := by simp [bne, h, hb]

/-- Right, as the program reckons it. -/
theorem rightB_zero {m e : Int} (h : m = 0) : rightB m e = (e == 0) := by
  subst h; unfold rightB; rw [Bool.eq_iff_iff]; simp
theorem rightB_some {m e : Int} (h : m ≠ 0) : rightB m e = (!(m.tmod 10 == 0) && (withinB m 1000000000000000 && withinB e 9)) := by
  have := tmod10 m
  unfold rightB withinB p15
  rw [Bool.eq_iff_iff]
  simp [this]
  omega

set_option maxHeartbeats 400000 in
theorem right_any (m e : Int) (w : World) :
    Calls Tryd.prog 20 #[.agg #[.int .i64 m, .int .i64 e]] w (Ret (.bool (rightB m e)) w) := by
  by_cases h0 : m = 0
  · have hb : (m == 0) = true := by simpa using h0
    rw [rightB_zero h0]
    clear h0
    go_enter Tryd.func20, Tryd.ntmps20
    go_wp2_with (go_at_call 29; refine (within_any _ _ _ (by omega) (by omega)).mono ?_; rintro e w' ⟨rfl, rfl⟩)
    go_ret
    exact ⟨rfl, (Below.refl _ _).alloc (Nat.le_refl _) _⟩
  · have hb : (m == 0) = false := by simpa using h0
    rw [rightB_some h0]
    clear h0
    rcases h1 : (m.tmod 10 == 0) with _ | _
    · have h1' : (m.tmod 10 != 0) = true := by simp [bne, h1]
      rcases h2 : withinB m 1000000000000000 with _ | _
      all_goals
        go_enter Tryd.func20, Tryd.ntmps20
        go_wp2_with (go_at_call 29; refine (within_any _ _ _ (by omega) (by omega)).mono ?_; rintro e w' ⟨rfl, rfl⟩)
        go_ret
        exact ⟨ret_bool (by simp), (Below.refl _ _).alloc (Nat.le_refl _) _⟩
    · have h1' : (m.tmod 10 != 0) = false := by simp [bne, h1]
      go_enter Tryd.func20, Tryd.ntmps20
      go_wp2_with (go_at_call 29; refine (within_any _ _ _ (by omega) (by omega)).mono ?_; rintro e w' ⟨rfl, rfl⟩)
      go_ret
      exact ⟨ret_bool (by simp), (Below.refl _ _).alloc (Nat.le_refl _) _⟩

theorem rightB_mk (m e : Int) : rightB m e = ((mk m e).2.2 && ((mk m e).1 == m && (mk m e).2.1 == e)) := by
  rw [Bool.eq_iff_iff]
  constructor
  · intro h; rw [mk_right m e h]; simp
  · intro h
    simp at h
    have := mk_is_right m e h.1
    rw [h.2.1, h.2.2] at this
    exact this

set_option maxHeartbeats 400000 in
theorem rright_any (m e : Int) (w : World) (hm0 : -9223372036854775808 ≤ m) (hm1 : m ≤ 9223372036854775807) (he0 : -9223372036854775808 ≤ e) (he1 : e ≤ 9223372036854775807) :
    Calls Tryd.prog 21 #[.agg #[.int .i64 m, .int .i64 e]] w (Ret (.bool (rightB m e)) w) := by
  rw [rightB_mk]
  generalize hr : mk m e = r
  have HR := Lib.hid hr
  clear hr
  obtain ⟨a, b, c⟩ := r
  go_enter Tryd.func21, Tryd.ntmps21
  go_wp2_with fail
  (with_reducible refine (rmake_any _ _ _ hm0 hm1 he0 he1).mono ?_)
  rintro e1 w1 ⟨rfl, hb⟩
  rw [HR.out]
  unfold mkV
  obtain ⟨hc, hf⟩ := bcell hb
  have hz : w.heap.size < w1.heap.size := by have := hb.size; simp at this; omega
  have hbb := below_call hb
  clear hb
  cases c
  · go_wp2
    go_ret
    exact ⟨ret_bool (by simp), hbb.alloc hbb.size _⟩
  · go_wp2
    all_goals go_ret
    all_goals exact ⟨ret_bool (by simp [*]), hbb.alloc hbb.size _⟩
end Go.Proofs.YtaggeebfdlkbhaaDoor
