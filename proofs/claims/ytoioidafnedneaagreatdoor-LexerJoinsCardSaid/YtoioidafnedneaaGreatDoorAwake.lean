import Derived.Test.YtoioidafnedneaaGreatDoorToks
/- The contract of awake: chapter 3's examples come out true. -/
set_option linter.unusedVariables false
set_option linter.unusedSimpArgs false
namespace Go.Proofs.YtoioidafnedneaaGreatDoor.Lex
open Go.RowKit

theorem isW_one : IsW [49] ⟨3, [49], 1, 0, 0⟩ := by
  have h := isW_num (m := 1) (e := 0) (by decide +kernel)
  have hp : Dec.printS 1 0 = [49] := by
    have h : Lib.itoa 1 = [49] := by
      unfold Lib.itoa
      rw [if_neg (by decide)]
      exact Lib.decDigits_one (by decide)
    unfold Dec.printS
    rw [if_pos (by decide +kernel), if_pos (by decide), h]
    rfl
  rw [hp] at h
  exact h
theorem isW_a : IsW [34, 97, 34] ⟨2, [97], 0, 0, 0⟩ := by
  have h := isW_quote (rs := [97]) (by intro r hr; unfold Quo.vr; simp at hr; omega)
  rw [show Quo.flat [97] = [97] by decide +kernel] at h
  have hq : Quo.quoteL [97] = [34, 97, 34] := by
    unfold Quo.quoteL
    rw [show ([97] : List UInt8) = Quo.flat [97] by decide +kernel, Quo.qBody_flat' (by intro r hr; unfold Quo.vr; simp at hr; omega)]
    decide +kernel
  rw [hq] at h
  exact h
/-- A sign is a token whatever stands behind it. -/
theorem scan_sign {c : UInt8} (h : signB c = true) (rest : List UInt8) (n : Nat) : scanL (c :: rest) n = consR ⟨1, [c], 0, 0, n⟩ (scanL rest (n + 1)) := by
  have hf : firstL (c :: rest) = (⟨1, [c], 0, 0, 0⟩, 1) := by simp [firstL, h]
  rw [scanL_tok (l := c :: rest) (by simp) (sign_facts h).2.2 (by rw [hf]; simp), hf]
  rfl
theorem ex_scan : scanS [91, 49, 44, 32, 34, 97, 34, 93] = .inr [⟨1, [91], 0, 0, 0⟩, ⟨3, [49], 1, 0, 1⟩, ⟨1, [44], 0, 0, 2⟩, ⟨2, [97], 0, 0, 4⟩, ⟨1, [93], 0, 0, 7⟩, ⟨5, [], 0, 0, 8⟩] := by
  unfold scanS
  rw [if_neg (by decide)]
  rw [show ([91, 49, 44, 32, 34, 97, 34, 93] : List UInt8) = 91 :: ([49] ++ (44 :: (32 :: ([34, 97, 34] ++ (93 :: []))))) from rfl]
  rw [scan_sign (by decide), scan_word isW_one (by intro c r h; cases h; decide), scan_sign (by decide), scanL_blank blank32,
    scan_word isW_a (by intro c r h; cases h; decide), scan_sign (by decide), scanL_nil]
  rfl
theorem ex_tru : scanS [32, 116, 114, 117] = .inl 1 := by
  unfold scanS
  rw [if_neg (by decide), scanL_blank blank32, scanL_bad (by simp) (by decide) (by decide +kernel)]

set_option maxHeartbeats 1000000 in
set_option maxRecDepth 100000 in
theorem awake_any (w : World) : Calls Tryz.prog 5 #[] w (Ret (.bool true) w) := by
  have S1 := Lib.hid (fun w => scan_any ⟨#[91, 49, 44, 32, 34, 97, 34, 93]⟩ w (by decide))
  rw [show (⟨#[91, 49, 44, 32, 34, 97, 34, 93]⟩ : ByteArray).data.toList = [91, 49, 44, 32, 34, 97, 34, 93] from rfl, ex_scan] at S1
  have S2 := Lib.hid (fun w => scan_any ⟨#[32, 116, 114, 117]⟩ w (by decide))
  rw [show (⟨#[32, 116, 114, 117]⟩ : ByteArray).data.toList = [32, 116, 114, 117] from rfl, ex_tru] at S2
  unfold ScanRet at S1 S2
  go_enter Tryz.func5, Tryz.ntmps5
  go_wp2_with fail
  (with_reducible refine (S1.out _).mono ?_)
  rintro e1 w1 ⟨v1, rfl, ho1, hb1⟩
  simp only [toksR, errR, placeR] at ho1 ⊢
  go_wp2_with fail
  (with_reducible refine (S2.out _).mono ?_)
  rintro e1 w2 ⟨v2, rfl, ho2, hb2⟩
  simp only [toksR, errR, placeR] at ho2 ⊢
  have hbb : Below w.heap.size w w2 := hb1.trans (hb2.mono hb1.size)
  have A1 := (ToksOwn.at_ ho1).below hb2 (Nat.le_refl _)
  rcases A1 with ⟨_, _, _, h⟩ | ⟨b, cap, hv, hc, _, hlt, hT⟩
  · cases h
  · subst hv
    obtain ⟨a0, a1, a2, a3, a4⟩ := hT 1 (by simp)
    obtain ⟨d0, d1, d2, d3, d4⟩ := hT 3 (by simp)
    obtain ⟨g0, g1, g2, g3, g4⟩ := hT 5 (by simp)
    clear hT ho1 ho2 hb1 hb2 S1 S2
    simp at a0 a1 a2 a3 a4 d0 d1 d2 d3 d4 g0 g1 g2 g3 g4 hc ⊢
    go_wp2_with fail
    go_ret
    exact ⟨rfl, hbb⟩
end Go.Proofs.YtoioidafnedneaaGreatDoor.Lex
