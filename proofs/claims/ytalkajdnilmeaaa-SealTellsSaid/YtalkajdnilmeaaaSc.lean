import Derived.Test.YtalkajdnilmeaaaSb
/- Layer 6: awake; the laws SealBack and SealTwice. -/
set_option linter.unusedVariables false
set_option linter.unusedSimpArgs false
namespace Go.Proofs.Ytalkajdnilmeaaa.Se
open Go.RowKit

theorem below2 {w w1 w2 : World} (h1 : Below w.heap.size w w1) (h2 : Below w1.heap.size w1 w2) : Below w.heap.size w w2 := h1.trans (h2.mono h1.size)
theorem seal_l (L : List UInt8) (w : World) (hs : L.length ≤ 281474976710656) :
    Calls Try.prog 14 #[.string ⟨L.toArray⟩] w (Ret (.string ⟨(sealS L).toArray⟩) w) := by
  have := seal_any ⟨L.toArray⟩ w (by rw [bs_size]; exact hs)
  exact this
theorem sum_l (L : List UInt8) (w : World) (hs : L.length ≤ 281474976710656) :
    Calls Try.prog 15 #[.string ⟨L.toArray⟩] w (fun e w' => e = .returned (.int .u32 (sumS L)) ∧ w = w') := by
  have := sum_any ⟨L.toArray⟩ w (by rw [bs_size]; exact hs)
  exact this
theorem open_some {L U : List UInt8} (h : openS L = some U) (w : World) (hs : L.length ≤ 281474976710656) :
    Calls Try.prog 12 #[.string ⟨L.toArray⟩] w (Ret (.tuple #[.string ⟨U.toArray⟩, .int .i64 0]) w) := by
  have := open_any L w hs
  rw [h] at this
  exact this
theorem open_none {L : List UInt8} (h : openS L = none) (w : World) (hs : L.length ≤ 281474976710656) :
    Calls Try.prog 12 #[.string ⟨L.toArray⟩] w (Ret (.tuple #[.string ⟨#[]⟩, .int .i64 60]) w) := by
  have := open_any L w hs
  rw [h] at this
  exact this

set_option maxHeartbeats 1000000 in
set_option maxRecDepth 100000 in
theorem awake_any (w : World) : Calls Try.prog 9 #[] w (Ret (.bool true) w) := by
  have C1 := Lib.hid (fun u => open_some (L := [97, 35, 101, 52, 48, 99, 50, 57, 50, 99]) (U := [97]) (by decide +kernel) u (by decide))
  have C2 := Lib.hid (fun u => open_none (L := [98, 35, 101, 52, 48, 99, 50, 57, 50, 99]) (by decide +kernel) u (by decide))
  have C3 := Lib.hid (fun u => sum_l [] u (by decide))
  have C4 := Lib.hid (fun u => seal_l [97] u (by decide))
  rw [show sealS [97] = [97, 35, 101, 52, 48, 99, 50, 57, 50, 99] by decide +kernel] at C4
  rw [show sumS [] = 2166136261 by decide +kernel] at C3
  go_enter Try.func9, Try.ntmps9
  go_wp2_with (go_at_call 12; (with_reducible refine (C1.out _).mono ?_); rintro e w1 ⟨rfl, hb1⟩)
  go_wp2_with (go_at_call 12; (with_reducible refine (C2.out _).mono ?_); rintro e w2 ⟨rfl, hb2⟩)
  go_wp2_with (first | (go_at_call 15; (with_reducible refine (C3.out _).mono ?_); rintro e w3 ⟨rfl, rfl⟩) | (go_at_call 14; (with_reducible refine (C4.out _).mono ?_); rintro e w4 ⟨rfl, hb4⟩))
  go_ret
  exact ⟨rfl, below2 (below2 hb1 hb2) hb4⟩

set_option maxHeartbeats 1000000 in
set_option maxRecDepth 100000 in
theorem lback_walk (t : List UInt8) (w : World) (h : t.length ≤ 140737488351232) :
    Calls Try.prog 4 #[.string ⟨t.toArray⟩] w (Ret (.bool true) w) := by
  have C1 := Lib.hid (fun u => seal_l t u (by omega))
  have C2 := Lib.hid (fun u => open_some (open_seal t) u (by rw [sealS_len]; omega))
  have hq : (⟨(sealS t).toArray⟩ : ByteArray).size = t.length + 9 := by rw [bs_size, sealS_len]
  have hs : (⟨t.toArray⟩ : ByteArray).size = t.length := bs_size t
  generalize (⟨(sealS t).toArray⟩ : ByteArray) = q at *
  generalize (⟨t.toArray⟩ : ByteArray) = s at *
  generalize t.length = n at *
  go_enter Try.func4, Try.ntmps4
  go_wp2_with (go_at_call 9; (with_reducible refine (awake_any _).mono ?_); rintro e w1 ⟨rfl, hb1⟩)
  go_wp2_with (go_at_call 14; (with_reducible refine (C1.out _).mono ?_); rintro e w2 ⟨rfl, hb2⟩)
  go_wp2_with (go_at_call 12; (with_reducible refine (C2.out _).mono ?_); rintro e w3 ⟨rfl, hb3⟩)
  go_ret
  exact ⟨ret_bool (by simp), below2 (below2 hb1 hb2) hb3⟩

theorem str_ne {a b : List UInt8} (h : a ≠ b) : ((⟨a.toArray⟩ : ByteArray).toList == (⟨b.toArray⟩ : ByteArray).toList) = false := by
  rw [tl_eq, tl_eq]
  simpa using h
set_option maxHeartbeats 2000000 in
set_option maxRecDepth 100000 in
theorem ltwice_walk (t u : List UInt8) (w : World) (h : t.length ≤ 140737488351232) (h2 : u.length ≤ 140737488351232) :
    Calls Try.prog 8 #[.string ⟨t.toArray⟩, .string ⟨u.toArray⟩] w (Ret (.bool true) w) := by
  have C1 := Lib.hid (fun v => seal_l t v (by omega))
  have C2 := Lib.hid (fun v => seal_l (sealS t) v (by rw [sealS_len]; omega))
  have C3 := Lib.hid (fun v => open_some (open_seal (sealS t)) v (by rw [sealS_len, sealS_len]; omega))
  have C4 := Lib.hid (fun v => open_some (open_seal t) v (by rw [sealS_len]; omega))
  have C5 := Lib.hid (fun v => seal_l u v (by omega))
  by_cases htu : t = u
  · subst htu
    clear C5
    generalize (⟨(sealS (sealS t)).toArray⟩ : ByteArray) = qq at *
    generalize (⟨(sealS t).toArray⟩ : ByteArray) = q at *
    generalize (⟨t.toArray⟩ : ByteArray) = s at *
    clear h h2
    go_enter Try.func8, Try.ntmps8
    go_wp2_with (go_at_call 9; (with_reducible refine (awake_any _).mono ?_); rintro e w1 ⟨rfl, hb1⟩)
    go_wp2_with (first | (go_at_call 14; (with_reducible refine (C1.out _).mono ?_); rintro e w2 ⟨rfl, hb2⟩) | (go_at_call 14; (with_reducible refine (C2.out _).mono ?_); rintro e w3 ⟨rfl, hb3⟩) | (go_at_call 12; (with_reducible refine (C3.out _).mono ?_); rintro e w4 ⟨rfl, hb4⟩) | (go_at_call 12; (with_reducible refine (C4.out _).mono ?_); rintro e w5 ⟨rfl, hb5⟩))
    go_ret
    exact ⟨rfl, by repeat (first | exact Below.refl _ _ | refine below2 ?_ (by assumption))⟩
  · have n1 := str_ne htu
    have n2 := str_ne (fun h => htu (seal_inj h))
    clear h h2 htu
    generalize (⟨(sealS (sealS t)).toArray⟩ : ByteArray) = qq at *
    generalize (⟨(sealS t).toArray⟩ : ByteArray) = q at *
    generalize (⟨t.toArray⟩ : ByteArray) = s at *
    generalize (⟨(sealS u).toArray⟩ : ByteArray) = q2 at *
    generalize (⟨u.toArray⟩ : ByteArray) = s2 at *
    go_enter Try.func8, Try.ntmps8
    go_wp2_with (go_at_call 9; (with_reducible refine (awake_any _).mono ?_); rintro e w1 ⟨rfl, hb1⟩)
    go_wp2_with (first | (go_at_call 14; (with_reducible refine (C1.out _).mono ?_); rintro e w2 ⟨rfl, hb2⟩) | (go_at_call 14; (with_reducible refine (C2.out _).mono ?_); rintro e w3 ⟨rfl, hb3⟩) | (go_at_call 14; (with_reducible refine (C5.out _).mono ?_); rintro e w3 ⟨rfl, hb3⟩) | (go_at_call 12; (with_reducible refine (C3.out _).mono ?_); rintro e w4 ⟨rfl, hb4⟩) | (go_at_call 12; (with_reducible refine (C4.out _).mono ?_); rintro e w5 ⟨rfl, hb5⟩))
    go_ret
    exact ⟨rfl, by repeat (first | exact Below.refl _ _ | refine below2 ?_ (by assumption))⟩
end Go.Proofs.Ytalkajdnilmeaaa.Se
