import Derived.Test.YtoioidafnedneaaDoorRTok0
/- The contract of the document's token: none. -/
set_option linter.unusedVariables false
set_option linter.unusedSimpArgs false
namespace Go.Proofs.YtoioidafnedneaaDoor.Lex
open Go.RowKit

set_option maxHeartbeats 2000000 in
theorem rtok_none (s : ByteArray) (i : Nat) (w : World) (c : UInt8) (r : List UInt8) (hs : s.size ≤ 1000000) (hi : i < s.size) (hc : s[i] = c) (HL : Hid (s.data.toList.drop i = c :: r)) (hg : signB c = false) (h34 : c.toNat ≠ 34) (h45 : c.toNat ≠ 45) (hd : digB c = false) (hl : letB c = false) (R : Tok × Nat)
    (HR : Hid (firstL (c :: r) = R)) : Calls Tryd.prog 19 #[.string s, .int .i64 i] w (Ret (firV (atR R i)) w) := by
  have hx : ∀ u : World, (Instr.index 9 (.string s) (.int .i64 i)).run Tryd.prog u = .ok (.int .u8 c.toNat) u := Quo.run_byte s i hi c.toNat (by rw [hc])
  clear hc
  obtain rfl : (tok0, 0) = R := by rw [← HR.out]; simp [firstL, hg, h34, h45, hd, hl]
  obtain ⟨d1, d2, d3, d4, d5, d6⟩ := sign_no hg
  have b1 : ((c.toNat : Int) == 34) = false := by simp; omega
  have b2 : ((c.toNat : Int) == 45) = false := by simp; omega
  have q1 : (c.toNat : Int) < 48 ∨ 57 < (c.toNat : Int) := by unfold digB at hd; simp at hd; omega
  have q2 : (c.toNat : Int) < 97 ∨ 122 < (c.toNat : Int) := by unfold letB at hl; simp at hl; omega
  rw [show firV (atR (tok0, 0) i) = firV (tok0, 0) from rfl]
  clear HL HR hg h34 h45 hd hl
  generalize (c.toNat : Int) = z at *
  rcases (show z < 48 ∨ (57 < z ∧ z < 97) ∨ 122 < z from by omega) with q | ⟨q, q'⟩ | q
  all_goals
    clear q1 q2
    go_enter Tryd.func19, Tryd.ntmps19
    go_wp2_with fail
    exact bodyPost_ret (v := firV (tok0, 0)) (by simp [firV, tokV, tok0, results, Tryd.results19, go_sem]) rfl ⟨rfl, by repeat (first | exact (Below.refl _ _).alloc (Nat.le_refl _) _ | refine Below.setCell ?_ (by simp) _)⟩

end Go.Proofs.YtoioidafnedneaaDoor.Lex
