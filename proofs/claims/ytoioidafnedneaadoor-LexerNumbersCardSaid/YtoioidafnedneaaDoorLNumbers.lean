import Derived.Test.YtoioidafnedneaaDoorAwake
import Derived.BigQuiet
/- The walk of the law LexerNumbers: it answers true. -/
set_option linter.unusedVariables false
set_option linter.unusedSimpArgs false
namespace Go.Proofs.YtoioidafnedneaaDoor.Lex
open Go.RowKit

theorem scan_num1 {m e : Int} (h : Dec.rightB m e = true) : scanS (Dec.printS m e) = .inr [⟨3, Dec.printS m e, m, e, 0⟩, ⟨5, [], 0, 0, (Dec.printS m e).length⟩] := by
  have hl := (Dec.print_len h).1
  unfold scanS
  rw [if_neg (by omega), ← List.append_nil (Dec.printS m e), scan_word (isW_num h) fin_nil, scanL_nil]
  simp [consR, Tok.at_]
theorem scan_num2 {m e : Int} (h : Dec.rightB m e = true) : scanS (91 :: (Dec.printS m e ++ [93])) = .inr [⟨1, [91], 0, 0, 0⟩, ⟨3, Dec.printS m e, m, e, 1⟩, ⟨1, [93], 0, 0, 1 + (Dec.printS m e).length⟩, ⟨5, [], 0, 0, 1 + (Dec.printS m e).length + 1⟩] := by
  have hl := (Dec.print_len h).1
  unfold scanS
  rw [if_neg (by simp; omega), scan_sign (by decide), scan_word (isW_num h) (fin_sign (by decide) _), scan_sign (by decide), scanL_nil]
  simp [consR, Tok.at_]

set_option maxHeartbeats 2000000 in
theorem numbers_walk (mant ex : Int) (w : World) (ht : Dec.Tab w) (hm0 : -9223372036854775808 ≤ mant) (hm1 : mant ≤ 9223372036854775807) (he0 : -9223372036854775808 ≤ ex) (he1 : ex ≤ 9223372036854775807) :
    Calls Tryd.prog 6 #[.int .i64 mant, .int .i64 ex] w (Ret (.bool true) w) := by
  have p1 := Lib.hid (fun w => Dec.fit_of mant ex w hm0 hm1 he0 he1)
  have hr := Dec.fit_right mant ex
  generalize Dec.fitM mant = m at *
  generalize Dec.fitE mant ex = e at *
  obtain ⟨hpl, hpn⟩ := Dec.print_len hr
  have pr := Lib.hid (fun w h => Dec.print_any m e w h)
  have E1 := Lib.hid (scan_num1 hr)
  have E2 := Lib.hid (scan_num2 hr)
  generalize Dec.printS m e = L at *
  have HT := Lib.hid ht
  clear ht hm0 hm1 he0 he1 hpn hr
  go_enter Tryd.func6, Tryd.ntmps6
  go_wp2_with fail
  (with_reducible refine (awake_any _).mono ?_)
  rintro e1 w1 ⟨rfl, hb1⟩
  go_wp2_with fail
  (with_reducible refine (p1.out _).mono ?_)
  rintro e1 w2 ⟨rfl, hb2⟩
  have hbb2 : Below w.heap.size w w2 := hb1.trans (hb2.mono hb1.size)
  clear hb1 hb2
  go_wp2_with fail
  (with_reducible refine (pr.out _ ((HT.out.below hbb2).alloc _)).mono ?_)
  rintro e1 w3 ⟨rfl, hb3⟩
  have D1 := (Dec.DecAt.new w2 m e _).below hb3
  have hbb3 : Below w.heap.size w w3 := (hbb2.alloc hbb2.size _).trans (hb3.mono (by have := hbb2.size; simp; omega))
  clear hb3
  go_wp2_with fail
  (with_reducible refine (scan_l L _ (by unfold maxLen; omega)).mono ?_)
  rw [E1.out]
  rintro e1 w4 ⟨v1, rfl, ho1, hb4⟩
  simp only [toksR, errR, placeR] at ho1 ⊢
  have D2 := D1.below hb4
  have hbb4 : Below w.heap.size w w4 := hbb3.trans (hb4.mono hbb3.size)
  have A1 := ToksOwn.at_ ho1
  clear hb4 D1 ho1
  go_wp2_with fail
  rw [show ((⟨#[91]⟩ : ByteArray) ++ ⟨L.toArray⟩ ++ ⟨#[93]⟩) = ⟨(91 :: (L ++ [93])).toArray⟩ from by rw [show (⟨#[91]⟩ : ByteArray) = ⟨[91].toArray⟩ from rfl, show (⟨#[93]⟩ : ByteArray) = ⟨[93].toArray⟩ from rfl, bs_app, bs_app]; rfl]
  (with_reducible refine (scan_l _ _ (by unfold maxLen; simp; omega)).mono ?_)
  rw [E2.out]
  rintro e1 w5 ⟨v2, rfl, ho2, hb5⟩
  simp only [toksR, errR, placeR] at ho2 ⊢
  have D3 := D2.below hb5
  have hbb5 : Below w.heap.size w w5 := hbb4.trans (hb5.mono hbb4.size)
  have A1 := A1.below hb5 (Nat.le_refl _)
  have A2 := ToksOwn.at_ ho2
  clear hb5 D2 ho2 E1 E2 hbb4 hbb3 hbb2 p1 pr
  rcases A1 with ⟨_, _, _, h⟩ | ⟨b, cap, hv, hc, _, hlt, hT⟩
  · cases h
  rcases A2 with ⟨_, _, _, h⟩ | ⟨b', cap', hv', hc', _, hlt', hT'⟩
  · cases h
  subst hv hv'
  obtain ⟨a0, a1, a2, a3, a4⟩ := hT 0 (by simp)
  obtain ⟨b0, b1, b2, b3, b4⟩ := hT 1 (by simp)
  obtain ⟨c0, c1, c2, c3, c4⟩ := hT' 1 (by simp)
  obtain ⟨d0, d1, d2, d3, d4⟩ := hT' 2 (by simp)
  obtain ⟨x0, x1, xf, xl⟩ := D3
  clear hT hT'
  simp at a0 a1 a2 a3 a4 b0 b1 b2 b3 b4 c0 c1 c2 c3 c4 d0 d1 d2 d3 d4 hc hc' ⊢
  go_wp2_with fail
  go_quiet (fail)
  go_wp2_with fail
  go_ret
  exact ⟨rfl, below_drewN hbb5 _⟩
end Go.Proofs.YtoioidafnedneaaDoor.Lex
