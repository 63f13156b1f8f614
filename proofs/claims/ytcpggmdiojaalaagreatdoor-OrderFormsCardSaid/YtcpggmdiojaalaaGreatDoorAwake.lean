import Derived.Test.YtcpggmdiojaalaaGreatDoorToks
/- The contract of awake: chapter 3's examples come out true. -/
set_option linter.unusedVariables false
set_option linter.unusedSimpArgs false
namespace Go.Proofs.YtcpggmdiojaalaaGreatDoor.Lex
open Go.RowKit

theorem isW_one : IsW [49] ⟨3, [49], 1, 0, 0⟩ := by
  have h := isW_num (m := 1) (e := 0) (by decide +kernel)
  have hp : Dec.printS 1 0 = [49] := by
    have h : Lib.itoa 1 = [49] := by
      unfold Lib.itoa
      rw [if_neg (by decide)]
      exact Lib.decDigits_one (by decide)
    unfold Dec.printS
    rw [if_pos (by decide +kernel), if_pos (by decide), h]
    rfl
  rw [hp] at h
  exact h
theorem isW_a : IsW [34, 97, 34] ⟨2, [97], 0, 0, 0⟩ := by
  have h := isW_quote (rs := [97]) (by intro r hr; unfold Quo.vr; simp at hr; omega)
  rw [show Quo.flat [97] = [97] by decide +kernel] at h
  have hq : Quo.quoteL [97] = [34, 97, 34] := by
    unfold Quo.quoteL
    rw [show ([97] : List UInt8) = Quo.flat [97] by decide +kernel, Quo.qBody_flat' (by intro r hr; unfold Quo.vr; simp at hr; omega)]
    decide +kernel
  rw [hq] at h
  exact h
/-- A sign is a token whatever stands behind it. -/
theorem scan_sign {c : UInt8} (h : signB c = true) (rest : List UInt8) (n : Nat) : scanL (c :: rest) n = consR ⟨1, [c], 0, 0, n⟩ (scanL rest (n + 1)) := by
  have hf : firstL (c :: rest) = (⟨1, [c], 0, 0, 0⟩, 1) := by simp [firstL, h]
  rw [scanL_tok (l := c :: rest) (by simp) (sign_facts h).2.2 (by rw [hf]; simp), hf]
  rfl
theorem ex_scan : scanS [91, 49, 44, 32, 34, 97, 34, 93] = .inr [⟨1, [91], 0, 0, 0⟩, ⟨3, [49], 1, 0, 1⟩, ⟨1, [44], 0, 0, 2⟩, ⟨2, [97], 0, 0, 4⟩, ⟨1, [93], 0, 0, 7⟩, ⟨5, [], 0, 0, 8⟩] := by
  unfold scanS
  rw [if_neg (by decide)]
  rw [show ([91, 49, 44, 32, 34, 97, 34, 93] : List UInt8) = 91 :: ([49] ++ (44 :: (32 :: ([34, 97, 34] ++ (93 :: []))))) from rfl]
  rw [scan_sign (by decide), scan_word isW_one (by intro c r h; cases h; decide), scan_sign (by decide), scanL_blank blank32,
    scan_word isW_a (by intro c r h; cases h; decide), scan_sign (by decide), scanL_nil]
  rfl
theorem ex_tru : scanS [32, 116, 114, 117] = .inl 1 := by
  unfold scanS
  rw [if_neg (by decide), scanL_blank blank32, scanL_bad (by simp) (by decide) (by decide +kernel)]

end Go.Proofs.YtcpggmdiojaalaaGreatDoor.Lex
