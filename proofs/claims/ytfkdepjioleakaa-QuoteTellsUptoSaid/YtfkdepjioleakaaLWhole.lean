/- The walk of the law QuoteWhole. -/
import Derived.Test.YtfkdepjioleakaaAwake
set_option linter.unusedVariables false
set_option linter.unusedSimpArgs false
namespace Go.Proofs.Ytfkdepjioleakaa
open Go.RowKit

theorem whole_at (x : ByteArray) (L : List UInt8) (hx : x.data.toList = L) (w : World) (hs : x.size ≤ 140737488355328) (b : Bool) (hb : wholeB L = b) :
    Calls Try.prog 17 #[.string x] w (Ret (.bool b) w) := by
  have := whole_any x w hs
  rwa [hx, hb] at this
theorem below2 {w w1 w2 : World} (h1 : Below w.heap.size w w1) (h2 : Below w1.heap.size w1 w2) : Below w.heap.size w w2 := h1.trans (h2.mono h1.size)

set_option maxHeartbeats 2000000 in
set_option maxRecDepth 100000 in
theorem lwhole_walk (s : ByteArray) (v : Value) (zs : List Int) (w : World) (hs : s.size ≤ 140737488351232) (hv : IntsAt w v zs) :
    Calls Try.prog 9 #[.string s, v] w (Ret (.bool true) w) := by
  have HV := Lib.hid hv
  have hT := textR_len zs
  have hvr := textR_vr zs
  have TX := Lib.hid (fun u (h : IntsAt u v zs) => text_any v zs u h)
  have e1 := Lib.hid (wholeB_flat' hvr)
  have e2 := Lib.hid (wholeB_flat hvr s.data.toList)
  have e3 := Lib.hid (wholeB_behind s.data.toList 97 (by decide) hvr)
  generalize flat (textR zs) = T at *
  clear hv hvr
  generalize hB : wholeB s.data.toList = B at *
  have C1 := Lib.hid (fun u => whole_at ⟨T.toArray⟩ T (by simp) u (by rw [bs_size]; omega) true e1.out)
  have C2 := Lib.hid (fun u => whole_at (⟨T.toArray⟩ ++ s) (T ++ s.data.toList) (by simp) u (by rw [ByteArray.size_append, bs_size]; omega) B e2.out)
  have C3 := Lib.hid (fun u => whole_at s s.data.toList rfl u (by omega) B hB)
  have C4 := Lib.hid (fun u => whole_at (s ++ ⟨#[97]⟩ ++ ⟨T.toArray⟩) (s.data.toList ++ 97 :: T) (by simp) u (by rw [ByteArray.size_append, ByteArray.size_append, bs_size]; show s.size + 1 + T.length ≤ _; omega) B e3.out)
  clear hB e1 e2 e3
  go_enter Try.func9, Try.ntmps9
  go_wp2_with (go_at_call 10; (with_reducible refine (awake_any _).mono ?_); rintro e w1 ⟨rfl, hb1⟩)
  go_wp2_with (go_at_call 11; (with_reducible refine (TX.out _ (HV.out.below hb1)).mono ?_); rintro e w2 ⟨rfl, hb2⟩)
  have hbb := below2 hb1 hb2
  clear hb1 hb2
  go_wp2_with (go_at_call 17; (with_reducible refine (C1.out _).mono ?_); rintro e w3 ⟨rfl, hb3⟩)
  have hbb3 := below2 hbb hb3
  clear hbb hb3
  go_wp2_with (go_at_call 17; (with_reducible refine (C2.out _).mono ?_); rintro e w4 ⟨rfl, hb4⟩)
  have hbb4 := below2 hbb3 hb4
  clear hbb3 hb4
  go_wp2_with (go_at_call 17; (with_reducible refine (C3.out _).mono ?_); rintro e w5 ⟨rfl, hb5⟩)
  have hbb5 := below2 hbb4 hb5
  clear hbb4 hb5
  go_wp2_with (go_at_call 17; (with_reducible refine (C4.out _).mono ?_); rintro e w6 ⟨rfl, hb6⟩)
  have hbb6 := below2 hbb5 hb6
  clear hbb5 hb6
  go_wp2_with (go_at_call 17; (with_reducible refine (C3.out _).mono ?_); rintro e w7 ⟨rfl, hb7⟩)
  go_ret
  exact ⟨ret_bool (by cases B <;> rfl), below2 hbb6 hb7⟩
end Go.Proofs.Ytfkdepjioleakaa
