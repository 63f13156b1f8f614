import Derived.Test.YtoioidafnedneaaDoorRTok0
/- The contract of the document's token: sign. -/
set_option linter.unusedVariables false
set_option linter.unusedSimpArgs false
namespace Go.Proofs.YtoioidafnedneaaDoor.Lex
open Go.RowKit

set_option maxHeartbeats 2000000 in
theorem rtok_sign (s : ByteArray) (i : Nat) (w : World) (c : UInt8) (r : List UInt8) (hs : s.size ≤ 1000000) (hi : i < s.size) (hc : s[i] = c) (HL : Hid (s.data.toList.drop i = c :: r)) (hg : signB c = true) (R : Tok × Nat)
    (HR : Hid (firstL (c :: r) = R)) : Calls Tryd.prog 19 #[.string s, .int .i64 i] w (Ret (firV (atR R i)) w) := by
  have hx : ∀ u : World, (Instr.index 9 (.string s) (.int .i64 i)).run Tryd.prog u = .ok (.int .u8 c.toNat) u := Quo.run_byte s i hi c.toNat (by rw [hc])
  clear hc
  have HT : s.extract i (i + 1) = ⟨#[c]⟩ := by rw [ext_take s i 1 (by omega), HL.out]; rfl
  obtain rfl : (⟨1, [c], 0, 0, 0⟩, 1) = R := by rw [← HR.out]; simp [firstL, hg]
  have hz := sign_z hg
  have hv : firV (atR (⟨1, [c], 0, 0, 0⟩, 1) i) = firV (⟨1, [c], 0, 0, i⟩, 1) := rfl
  rw [hv]
  clear HL HR hg hv
  generalize (c.toNat : Int) = z at *
  rcases hz with rfl | rfl | rfl | rfl | rfl | rfl
  all_goals
    go_enter Tryd.func19, Tryd.ntmps19
    go_wp2_with fail
    exact bodyPost_ret (v := firV (⟨1, [c], 0, 0, i⟩, 1)) (by simp [firV, tokV, tok0, results, Tryd.results19, go_sem]) rfl ⟨rfl, by repeat (first | exact (Below.refl _ _).alloc (Nat.le_refl _) _ | refine Below.setCell ?_ (by simp) _)⟩

end Go.Proofs.YtoioidafnedneaaDoor.Lex
