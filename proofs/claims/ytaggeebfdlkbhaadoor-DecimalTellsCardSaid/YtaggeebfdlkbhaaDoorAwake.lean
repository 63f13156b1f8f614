/- The contract of awake: chapter 1's examples come out true. -/
import Derived.Test.YtaggeebfdlkbhaaDoorText
set_option linter.unusedSimpArgs false
set_option linter.unusedVariables false
namespace Go.Proofs.YtaggeebfdlkbhaaDoor
open Go.RowKit Go.Sort

/-- A decimal in a block of its own. -/
structure DecAt (w : World) (b : Nat) (m e : Int) : Prop where
  c0 : w.cell? ⟨b, 0, none⟩ = some (.int .i64 m)
  c1 : w.cell? ⟨b, 1, none⟩ = some (.int .i64 e)
  fz : ∀ o, w.frozen? ⟨b, o, none⟩ = false
  lt : b < w.heap.size
theorem DecAt.below {w w' : World} {b : Nat} {m e : Int} (h : DecAt w b m e) (hb : Below w.heap.size w w') : DecAt w' b m e :=
  ⟨by rw [(bcell hb).1 _ _ h.lt]; exact h.c0, by rw [(bcell hb).1 _ _ h.lt]; exact h.c1, fun o => by rw [(bcell hb).2 _ _ h.lt]; exact h.fz o, Nat.lt_of_lt_of_le h.lt hb.size⟩
theorem DecAt.alloc {w : World} {b : Nat} {m e : Int} (h : DecAt w b m e) (o : Obj) : DecAt (w.alloc o) b m e := h.below ((Below.refl _ _).alloc (Nat.le_refl _) o)
theorem DecAt.new (w : World) (m e : Int) (t : TypeId) : DecAt (w.alloc (.cells #[.int .i64 m, .int .i64 e] t)) w.heap.size m e :=
  ⟨by simp, by simp, fun o => by simp, by simp⟩

theorem ex_parse : parseS [45, 49, 46, 53, 48, 101, 49] = (-15, 0, true) := by
  have h1 : splitS [45, 49, 46, 53, 48, 101, 49] = some (true, [49], [53, 48], 1) := by decide +kernel
  unfold parseS
  rw [h1, if_neg (by decide)]
  have h2 : valS (some (true, [49], [53, 48], 1)) = mk (-15 * 10) (-1) := rfl
  rw [h2, mk_mul]
  exact mk_right (-15) 0 (by decide +kernel)
theorem ex_make : mk 1200 (-1) = (12, 1, true) := by
  rw [show (1200 : Int) = 12 * 10 * 10 from rfl, mk_mul, mk_mul]
  exact mk_right 12 1 (by decide +kernel)
theorem ex_int : intS (-15) 0 = (-15, true) := by decide +kernel
theorem ex_print : printS 25 (-3) = [48, 46, 48, 50, 53] := by
  have h : Lib.decDigits 25 = [50, 53] := Lib.decDigits_two (by decide) (by decide)
  have hf : figsL 25 (-3) = [48, 48, 50, 53] := by
    unfold figsL
    rw [show (25 : Int).natAbs = 25 from rfl, h]
    rfl
  unfold printS
  rw [if_pos (by decide +kernel), if_neg (by decide), hf]
  rfl
theorem ex_right : rightB (-15) 0 = true := by decide +kernel

set_option maxHeartbeats 1000000 in
theorem awake_any (w : World) (ht : Tab w) :
    Calls Tryd.prog 10 #[] w (Ret (.bool true) w) := by
  have HT := Lib.hid ht
  clear ht
  go_enter Tryd.func10, Tryd.ntmps10
  go_wp2_with fail
  (with_reducible refine (parse_any _ _ (by decide)).mono ?_)
  rintro e1 w1 ⟨rfl, hb1⟩
  rw [ex_parse]
  unfold mkV
  go_wp2_with fail
  (with_reducible refine (make_any _ _ _ (by decide) (by decide) (by decide)).mono ?_)
  rintro e1 w2 ⟨rfl, hb2⟩
  rw [ex_make]
  unfold mkV
  have D1 := (DecAt.new w1 (-15) 0 _).below hb2
  obtain ⟨p0, p1, pf, pl⟩ := D1
  have hbb2 : Below w.heap.size w w2 := (hb1.alloc hb1.size _).trans (hb2.mono (by have := hb1.size; simp; omega))
  clear hb1 hb2
  go_wp2_with fail
  (with_reducible refine (int_any _ _ _).mono ?_)
  rintro e1 w3 ⟨rfl, hb3⟩
  rw [ex_int]
  unfold rsV
  have D1 := ((⟨p0, p1, pf, pl⟩ : DecAt w2 w1.heap.size (-15) 0).alloc _).below hb3
  have D2 := (DecAt.new w2 12 1 _).below hb3
  have hbb3 : Below w.heap.size w w3 := (hbb2.alloc hbb2.size _).trans (hb3.mono (by have := hbb2.size; simp; omega))
  clear p0 p1 pf pl hb3 hbb2
  obtain ⟨p0, p1, pf, pl⟩ := D1
  obtain ⟨q0, q1, qf, ql⟩ := D2
  go_wp2_with fail
  (with_reducible refine (print_any _ _ _ (HT.out.below hbb3)).mono ?_)
  rintro e1 w4 ⟨rfl, hb4⟩
  rw [ex_print]
  have D1 := (⟨p0, p1, pf, pl⟩ : DecAt w3 w1.heap.size (-15) 0).below hb4
  have hbb4 : Below w.heap.size w w4 := hbb3.trans (hb4.mono hbb3.size)
  clear p0 p1 pf pl q0 q1 qf ql hb4 hbb3
  obtain ⟨p0, p1, pf, pl⟩ := D1
  go_wp2_with fail
  (with_reducible refine (right_any _ _ _).mono ?_)
  rintro e1 w5 ⟨rfl, hb5⟩
  rw [ex_right]
  have hbb5 : Below w.heap.size w w5 := hbb4.trans (hb5.mono hbb4.size)
  clear p0 p1 pf pl hb5 hbb4
  go_wp2_with fail
  go_ret
  exact ⟨ret_bool (by simp), hbb5⟩
end Go.Proofs.YtaggeebfdlkbhaaDoor
