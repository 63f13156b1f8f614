/- Contracts of Make, of the program and of the document's answer: both are mk. -/
import Derived.Test.YtaggeebfdlkbhaaDoorBase
import Derived.Test.YtaggeebfdlkbhaaDoorMath
import Derived.Below
namespace Go.Proofs.YtaggeebfdlkbhaaDoor
open Go.RowKit

/-- A decimal as a value. -/
def dv (m e : Int) : Value := .agg #[.int .i64 m, .int .i64 e]
def Ret (v : Value) (w : World) (e : Ending) (w' : World) : Prop := e = .returned v ∧ Below w.heap.size w w'
def mkV (r : Int × Int × Bool) : Value := .tuple #[.agg #[.int .i64 r.1, .int .i64 r.2.1], .bool r.2.2]

def StripTo (m q : Int) (k : Nat) : Prop := strip m = ((strip q).1, (strip q).2 + k)
theorem stripTo_refl (m : Int) : StripTo m m 0 := rfl
theorem stripTo_step {m q : Int} {k : Nat} (h : StripTo m q k) (h0 : q ≠ 0) (h1 : q % 10 = 0) : StripTo m (q / 10) (k + 1) := by
  unfold StripTo at h ⊢
  rw [h, strip_step h0 h1]
  simp only [Prod.mk.injEq, true_and]
  omega

theorem withinB_t {n b : Int} (h1 : -b ≤ n) (h2 : n ≤ b) : withinB n b = true := by unfold withinB; simp [h1, h2]
theorem withinB_iff {n b : Int} : withinB n b = true ↔ -b ≤ n ∧ n ≤ b := by unfold withinB; simp
theorem mk_at {m q e : Int} {k : Nat} (hm : m ≠ 0) (hs : StripTo m q k) (hq : q % 10 ≠ 0) :
    mk m e = if withinB q 1000000000000000 = true then (if withinB (e + k) 9 = true then (q, e + k, true) else (0, 0, false)) else (0, 0, false) := by
  unfold StripTo at hs
  rw [strip_stop (.inr hq)] at hs
  unfold mk
  rw [if_neg hm, hs]
  simp only [withinB_iff, p15, Nat.zero_add]
  by_cases h1 : -1000000000000000 ≤ q ∧ q ≤ 1000000000000000
  · rw [if_pos h1]
    by_cases h2 : -9 ≤ e + (k : Int) ∧ e + (k : Int) ≤ 9
    · rw [if_pos h2, if_pos (by omega)]
    · rw [if_neg h2, if_neg (by omega)]
  · rw [if_neg h1, if_neg (by omega)]
theorem mk_no {m q e : Int} {k : Nat} (hm : m ≠ 0) (hs : StripTo m q k) (hq : q % 10 ≠ 0) (h : ¬ (q ≤ 1000000000000000 ∧ -1000000000000000 ≤ q ∧ e + k ≤ 9 ∧ -9 ≤ e + k)) : mk m e = (0, 0, false) := by
  rw [mk_at hm hs hq]
  simp only [withinB_iff]
  by_cases h1 : -1000000000000000 ≤ q ∧ q ≤ 1000000000000000
  · rw [if_pos h1, if_neg (by omega)]
  · rw [if_neg h1]
theorem mk_far {m q e : Int} {k : Nat} (hm : m ≠ 0) (hs : StripTo m q k) (he : 9 < e + k) : mk m e = (0, 0, false) := by
  unfold StripTo at hs
  unfold mk
  rw [if_neg hm, hs, if_neg]
  simp only
  omega
theorem mk_great {m e : Int} (hm : m ≠ 0) (he : 9 < e) : mk m e = (0, 0, false) := mk_far hm (stripTo_refl m) (by simpa using he)

set_option maxHeartbeats 400000 in
theorem make_zero (e : Int) (w : World) :
    Calls Tryd.prog 11 #[.int .i64 0, .int .i64 e] w (Ret (mkV (0, 0, true)) w) := by
  go_enter Tryd.func11, Tryd.ntmps11
  go_wp2
  exact bodyPost_ret (v := mkV (0, 0, true)) (by simp [mkV, results, Tryd.results11, go_sem]) rfl ⟨rfl, (Below.refl _ _).alloc (Nat.le_refl _) _⟩

set_option maxHeartbeats 400000 in
theorem make_great (m e : Int) (w : World) (h : (m == 0) = false) (he : 9 < e) :
    Calls Tryd.prog 11 #[.int .i64 m, .int .i64 e] w (Ret (mkV (0, 0, false)) w) := by
  go_enter Tryd.func11, Tryd.ntmps11
  go_wp2
  exact bodyPost_ret (v := mkV (0, 0, false)) (by simp [mkV, results, Tryd.results11, go_sem]) rfl ⟨rfl, (Below.refl _ _).alloc (Nat.le_refl _) _⟩

set_option maxHeartbeats 400000 in
theorem make_small (m e : Int) (w : World) (h : (m == 0) = false) (he : e ≤ 9) (he0 : -9223372036854775808 ≤ e) (hm0 : -9223372036854775808 ≤ m) (hm1 : m ≤ 9223372036854775807) :
    Calls Tryd.prog 11 #[.int .i64 m, .int .i64 e] w (Ret (mkV (mk m e)) w) := by
  have hne : m ≠ 0 := by simpa using h
  have hc : cmpI e 9 ≤ 0 := cmpI_le (by omega)
  go_enter Tryd.func11, Tryd.ntmps11
  go_wp2_with (go_at_call 28; refine (compareI_any _ _ _).mono ?_; rintro e1 w' ⟨rfl, rfl⟩)
  go_loop [0, 1] (fun a b => ∃ (q : Int) (k : Nat), a = .int .i64 q ∧ b = .int .i64 (e + k) ∧ q ≠ 0 ∧ 9 * k + q.natAbs ≤ m.natAbs ∧ StripTo m q k) (fun a _ => (intOf a).natAbs)
  case atStart => exact ⟨m, 0, rfl, by simp, hne, by omega, stripTo_refl m⟩
  case round =>
    obtain ⟨q, k, rfl, rfl, hq, hk, hs⟩ := hrel
    by_cases h10 : q % 10 = 0
    · have ht := tmod10_t h10
      have hd := tdiv10 h10
      have H10 := Lib.hid h10
      clear h10
      go_wp2
      go_round
      case rel => exact ⟨q / 10, k + 1, rfl, by simp; omega, by have := H10.out; omega, by have := H10.out; omega, stripTo_step hs hq H10.out⟩
      case measure => simp [intOf]; have := H10.out; omega
    · have ht := tmod10_f h10
      have H10 := Lib.hid h10
      clear h10
      have a1 := mk_at hne hs H10.out (e := e)
      have A1 := Lib.hid a1
      clear a1
      rcases hw1 : withinB q 1000000000000000 with _ | _
      · go_wp2_with (go_at_call 29; refine (within_any _ _ _ (by omega) (by omega)).mono ?_; rintro e w' ⟨rfl, rfl⟩)
        rw [A1.out, hw1]
        exact bodyPost_ret (v := mkV (0, 0, false)) (by simp [mkV, results, Tryd.results11, go_sem]) rfl ⟨rfl, (Below.refl _ _).alloc (Nat.le_refl _) _⟩
      · rcases hw2 : withinB (e + k) 9 with _ | _
        · go_wp2_with (go_at_call 29; refine (within_any _ _ _ (by omega) (by omega)).mono ?_; rintro e w' ⟨rfl, rfl⟩)
          rw [A1.out, hw1, hw2]
          exact bodyPost_ret (v := mkV (0, 0, false)) (by simp [mkV, results, Tryd.results11, go_sem]) rfl ⟨rfl, (Below.refl _ _).alloc (Nat.le_refl _) _⟩
        · go_wp2_with (go_at_call 29; refine (within_any _ _ _ (by omega) (by omega)).mono ?_; rintro e w' ⟨rfl, rfl⟩)
          rw [A1.out, hw1, hw2]
          exact bodyPost_ret (v := mkV (q, e + k, true)) (by simp [mkV, results, Tryd.results11, go_sem]) rfl ⟨rfl, (Below.refl _ _).alloc (Nat.le_refl _) _⟩

theorem make_any (m e : Int) (w : World) (hm0 : -9223372036854775808 ≤ m) (hm1 : m ≤ 9223372036854775807) (he0 : -9223372036854775808 ≤ e) :
    Calls Tryd.prog 11 #[.int .i64 m, .int .i64 e] w (Ret (mkV (mk m e)) w) := by
  by_cases h0 : m = 0
  · subst h0; rw [mk_zero]; exact make_zero e w
  · have hb : (m == 0) = false := by simpa using h0
    by_cases he : e ≤ 9
    · exact make_small m e w hb he he0 hm0 hm1
    · rw [mk_great h0 (by omega)]
      exact make_great m e w hb (by omega)

set_option maxHeartbeats 400000 in
theorem rmake_zero (e : Int) (w : World) :
    Calls Tryd.prog 12 #[.int .i64 0, .int .i64 e] w (Ret (mkV (0, 0, true)) w) := by
  go_enter Tryd.func12, Tryd.ntmps12
  go_wp2
  exact bodyPost_ret (v := mkV (0, 0, true)) (by simp [mkV, results, Tryd.results12, go_sem]) rfl ⟨rfl, (Below.refl _ _).alloc (Nat.le_refl _) _⟩

set_option maxHeartbeats 400000 in
theorem rmake_some (m e : Int) (w : World) (h : (m == 0) = false) (he0 : -9223372036854775808 ≤ e) (he1 : e ≤ 9223372036854775807) (hm0 : -9223372036854775808 ≤ m) (hm1 : m ≤ 9223372036854775807) :
    Calls Tryd.prog 12 #[.int .i64 m, .int .i64 e] w (Ret (mkV (mk m e)) w) := by
  have hne : m ≠ 0 := by simpa using h
  go_enter Tryd.func12, Tryd.ntmps12
  go_wp2
  go_loop [0, 1] (fun a b => ∃ (q : Int) (k : Nat), a = .int .i64 q ∧ b = .int .i64 (e + k) ∧ q ≠ 0 ∧ 9 * k + q.natAbs ≤ m.natAbs ∧ StripTo m q k ∧ e + k ≤ 9223372036854775807) (fun a _ => (intOf a).natAbs)
  case atStart => exact ⟨m, 0, rfl, by simp, hne, by omega, stripTo_refl m, by omega⟩
  case round =>
    obtain ⟨q, k, rfl, rfl, hq, hk, hs, hek⟩ := hrel
    by_cases h10 : q % 10 = 0
    · have ht := tmod10_t h10
      have hd := tdiv10 h10
      have H10 := Lib.hid h10
      clear h10
      by_cases hbig : e + k ≤ 1099511627776
      · go_wp2
        go_round
        case rel => exact ⟨q / 10, k + 1, rfl, by simp; omega, by have := H10.out; omega, by have := H10.out; omega, stripTo_step hs hq H10.out, by omega⟩
        case measure => simp [intOf]; have := H10.out; omega
      · go_wp2
        rw [mk_far hne hs (by omega)]
        exact bodyPost_ret (v := mkV (0, 0, false)) (by simp [mkV, results, Tryd.results12, go_sem]) rfl ⟨rfl, (Below.refl _ _).alloc (Nat.le_refl _) _⟩
    · have ht := tmod10_f h10
      have H10 := Lib.hid h10
      clear h10
      have a1 := mk_at hne hs H10.out (e := e)
      have A1 := Lib.hid a1
      clear a1
      by_cases hw1 : q ≤ 1000000000000000 ∧ -1000000000000000 ≤ q ∧ e + k ≤ 9 ∧ -9 ≤ e + k
      · obtain ⟨q1, q2, q3, q4⟩ := hw1
        go_wp2
        rw [A1.out, withinB_t q2 q1, withinB_t q4 q3]
        exact bodyPost_ret (v := mkV (q, e + k, true)) (by simp [mkV, results, Tryd.results12, go_sem]) rfl ⟨rfl, (Below.refl _ _).alloc (Nat.le_refl _) _⟩
      · have HW := Lib.hid hw1
        clear hw1
        have a2 := mk_no hne hs H10.out HW.out
        have A2 := Lib.hid a2
        clear a2
        go_wp2
        all_goals first
          | (exfalso; have := HW.out; omega)
          | (rw [A2.out]
             exact bodyPost_ret (v := mkV (0, 0, false)) (by simp [mkV, results, Tryd.results12, go_sem]) rfl ⟨rfl, (Below.refl _ _).alloc (Nat.le_refl _) _⟩)

theorem rmake_any (m e : Int) (w : World) (hm0 : -9223372036854775808 ≤ m) (hm1 : m ≤ 9223372036854775807) (he0 : -9223372036854775808 ≤ e) (he1 : e ≤ 9223372036854775807) :
    Calls Tryd.prog 12 #[.int .i64 m, .int .i64 e] w (Ret (mkV (mk m e)) w) := by
  by_cases h0 : m = 0
  · subst h0; rw [mk_zero]; exact rmake_zero e w
  · exact rmake_some m e w (by simpa using h0) he0 he1 hm0 hm1
end Go.Proofs.YtaggeebfdlkbhaaDoor
