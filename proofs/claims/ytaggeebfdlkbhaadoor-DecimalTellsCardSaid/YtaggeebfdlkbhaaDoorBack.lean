/- The walk of the law DecimalBack: it answers true. -/
import Derived.Test.YtaggeebfdlkbhaaDoorAwake
import Derived.Test.YtaggeebfdlkbhaaDoorFit
import Derived.Test.YtaggeebfdlkbhaaDoorBackMath
set_option linter.unusedSimpArgs false
set_option linter.unusedVariables false
namespace Go.Proofs.YtaggeebfdlkbhaaDoor
open Go.RowKit Go.Sort

theorem fit_of (mant ex : Int) (w : World) (hm0 : -9223372036854775808 ≤ mant) (hm1 : mant ≤ 9223372036854775807) (he0 : -9223372036854775808 ≤ ex) (he1 : ex ≤ 9223372036854775807) :
    Calls Tryd.prog 15 #[.int .i64 mant, .int .i64 ex] w (Ret (.agg #[.int .i64 (fitM mant), .int .i64 (fitE mant ex)]) w) := fit_any mant ex w hm0 hm1 he0 he1

theorem print_len {m e : Int} (h : rightB m e = true) : (printS m e).length ≤ 40 ∧ printS m e ≠ [] := by
  obtain ⟨W, Fr, hp⟩ := print_parts h
  have h1 := hp.len
  have h2 := good_ne hp.good
  rw [hp.text]
  constructor
  · unfold sg ptl
    split <;> split <;> simp <;> omega
  · intro h0
    simp at h0
    exact h2 h0.2.1

set_option maxHeartbeats 1000000 in
theorem back_walk (mant ex : Int) (w : World) (ht : Tab w) (hm0 : -9223372036854775808 ≤ mant) (hm1 : mant ≤ 9223372036854775807) (he0 : -9223372036854775808 ≤ ex) (he1 : ex ≤ 9223372036854775807) :
    Calls Tryd.prog 4 #[.int .i64 mant, .int .i64 ex] w (Ret (.bool true) w) := by
  have p1 := Lib.hid (fun w => fit_of mant ex w hm0 hm1 he0 he1)
  have hr := fit_right mant ex
  generalize fitM mant = m at *
  generalize fitE mant ex = e at *
  obtain ⟨b1, b2, b3, b4⟩ := rightB_bounds hr
  have hpp := parse_print hr
  obtain ⟨hpl, hpn⟩ := print_len hr
  have hpe : (printS m e).isEmpty = false := by
    cases hh : printS m e with
    | nil => exact absurd hh hpn
    | cons => rfl
  have pr := Lib.hid (fun w h => print_any m e w h)
  generalize printS m e = L at *
  have HPP := Lib.hid hpp
  have HT := Lib.hid ht
  have HR := Lib.hid hr
  clear ht hm0 hm1 he0 he1 hpn hpp hr
  go_enter Tryd.func4, Tryd.ntmps4
  go_wp2_with fail
  (with_reducible refine (awake_any _ HT.out).mono ?_)
  rintro e1 w1 ⟨rfl, hb1⟩
  go_wp2_with fail
  (with_reducible refine (p1.out _).mono ?_)
  rintro e1 w2 ⟨rfl, hb2⟩
  have hbb2 : Below w.heap.size w w2 := hb1.trans (hb2.mono hb1.size)
  clear hb1 hb2
  go_wp2_with fail
  (with_reducible refine (pr.out _ ((HT.out.below hbb2).alloc _)).mono ?_)
  rintro e1 w3 ⟨rfl, hb3⟩
  have D1 := (DecAt.new w2 m e _).below hb3
  have hbb3 : Below w.heap.size w w3 := (hbb2.alloc hbb2.size _).trans (hb3.mono (by have := hbb2.size; simp; omega))
  clear hb3
  go_wp2_with fail
  (with_reducible refine (parse_any _ _ (by omega)).mono ?_)
  rintro e1 w4 ⟨rfl, hb4⟩
  rw [HPP.out]
  unfold mkV
  have D2 := D1.below hb4
  have hbb4 : Below w.heap.size w w4 := hbb3.trans (hb4.mono hbb3.size)
  clear hb4 D1
  obtain ⟨d0, d1, df, dl⟩ := D2
  go_wp2_with fail
  (with_reducible refine (right_any _ _ _).mono ?_)
  rintro e1 w5 ⟨rfl, hb5⟩
  rw [HR.out]
  have D3 := ((⟨d0, d1, df, dl⟩ : DecAt w4 w2.heap.size m e).alloc _).below hb5
  have D4 := (DecAt.new w4 m e _).below hb5
  have hbb5 : Below w.heap.size w w5 := (hbb4.alloc hbb4.size _).trans (hb5.mono (by have := hbb4.size; simp; omega))
  clear hb5 d0 d1 df dl
  obtain ⟨d0, d1, df, dl⟩ := D3
  obtain ⟨f0, f1, ff, fl⟩ := D4
  go_wp2_with fail
  go_ret
  exact ⟨ret_bool (by simp), hbb5⟩
end Go.Proofs.YtaggeebfdlkbhaaDoor
