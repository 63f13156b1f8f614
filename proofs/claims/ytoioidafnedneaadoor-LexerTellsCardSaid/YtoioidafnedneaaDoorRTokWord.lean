import Derived.Test.YtoioidafnedneaaDoorRTok0
/- The contract of the document's token: word. -/
set_option linter.unusedVariables false
set_option linter.unusedSimpArgs false
namespace Go.Proofs.YtoioidafnedneaaDoor.Lex
open Go.RowKit

set_option maxHeartbeats 2000000 in
theorem rtok_word (s : ByteArray) (i : Nat) (w : World) (c : UInt8) (r : List UInt8) (hs : s.size ≤ 1000000) (hi : i < s.size) (hc : s[i] = c) (HL : Hid (s.data.toList.drop i = c :: r)) (hg : signB c = false) (hl : letB c = true) (R : Tok × Nat)
    (HR : Hid (firstL (c :: r) = R)) : Calls Tryd.prog 19 #[.string s, .int .i64 i] w (Ret (firV (atR R i)) w) := by
  have hx : ∀ u : World, (Instr.index 9 (.string s) (.int .i64 i)).run Tryd.prog u = .ok (.int .u8 c.toNat) u := Quo.run_byte s i hi c.toNat (by rw [hc])
  clear hc
  obtain ⟨z1, z2⟩ : 97 ≤ (c.toNat : Int) ∧ (c.toNat : Int) ≤ 122 := by unfold letB at hl; simp at hl; omega
  have hr : wordL (c :: r) = R := by rw [← HR.out]; simp only [firstL]; rw [if_neg (by simp [hg]), if_neg (by omega), if_neg (by unfold digB; simp; omega), if_pos hl]
  obtain ⟨d1, d2, d3, d4, d5, d6⟩ := sign_no hg
  have b1 : ((c.toNat : Int) == 34) = false := by simp; omega
  have b2 : ((c.toNat : Int) == 45) = false := by simp; omega
  have WX := Lib.hid (fun w => rword_let s i w (by omega) hs)
  rw [HL.out] at WX
  unfold wordL spanN at hr
  generalize (c :: r).takeWhile letB = W at *
  clear HL HR hg hl
  generalize (c.toNat : Int) = z at *
  cases he1 : (W == [116, 114, 117, 101]) with
  | true =>
    obtain rfl : (⟨4, W, 0, 0, 0⟩, W.length) = R := by rw [← hr]; exact (if_pos (by unfold threeB; simp [*])).symm
    rw [show firV (atR (⟨4, W, 0, 0, 0⟩, W.length) i) = firV (⟨4, W, 0, 0, i⟩, W.length) from rfl]
    clear hr
    go_enter Tryd.func19, Tryd.ntmps19
    go_wp2_with (go_at_call 38; (with_reducible refine (WX.out _).mono ?_); rintro e1 w1 ⟨rfl, rfl⟩)
    exact bodyPost_ret (v := firV (⟨4, W, 0, 0, i⟩, W.length)) (by simp [firV, tokV, tok0, results, Tryd.results19, go_sem, bs_size]) rfl ⟨rfl, by repeat (first | exact (Below.refl _ _).alloc (Nat.le_refl _) _ | refine Below.setCell ?_ (by simp) _)⟩
  | false =>
    cases he2 : (W == [102, 97, 108, 115, 101]) with
    | true =>
      obtain rfl : (⟨4, W, 0, 0, 0⟩, W.length) = R := by rw [← hr]; exact (if_pos (by unfold threeB; simp [*])).symm
      rw [show firV (atR (⟨4, W, 0, 0, 0⟩, W.length) i) = firV (⟨4, W, 0, 0, i⟩, W.length) from rfl]
      clear hr
      go_enter Tryd.func19, Tryd.ntmps19
      go_wp2_with (go_at_call 38; (with_reducible refine (WX.out _).mono ?_); rintro e1 w1 ⟨rfl, rfl⟩)
      exact bodyPost_ret (v := firV (⟨4, W, 0, 0, i⟩, W.length)) (by simp [firV, tokV, tok0, results, Tryd.results19, go_sem, bs_size]) rfl ⟨rfl, by repeat (first | exact (Below.refl _ _).alloc (Nat.le_refl _) _ | refine Below.setCell ?_ (by simp) _)⟩
    | false =>
      cases he3 : (W == [110, 117, 108, 108]) with
      | true =>
        obtain rfl : (⟨4, W, 0, 0, 0⟩, W.length) = R := by rw [← hr]; exact (if_pos (by unfold threeB; simp [*])).symm
        rw [show firV (atR (⟨4, W, 0, 0, 0⟩, W.length) i) = firV (⟨4, W, 0, 0, i⟩, W.length) from rfl]
        clear hr
        go_enter Tryd.func19, Tryd.ntmps19
        go_wp2_with (go_at_call 38; (with_reducible refine (WX.out _).mono ?_); rintro e1 w1 ⟨rfl, rfl⟩)
        exact bodyPost_ret (v := firV (⟨4, W, 0, 0, i⟩, W.length)) (by simp [firV, tokV, tok0, results, Tryd.results19, go_sem, bs_size]) rfl ⟨rfl, by repeat (first | exact (Below.refl _ _).alloc (Nat.le_refl _) _ | refine Below.setCell ?_ (by simp) _)⟩
      | false =>
        obtain rfl : (tok0, 0) = R := by rw [← hr]; exact (if_neg (by unfold threeB; simp [*])).symm
        rw [show firV (atR (tok0, 0) i) = firV (tok0, 0) from rfl]
        clear hr
        go_enter Tryd.func19, Tryd.ntmps19
        go_wp2_with (go_at_call 38; (with_reducible refine (WX.out _).mono ?_); rintro e1 w1 ⟨rfl, rfl⟩)
        exact bodyPost_ret (v := firV (tok0, 0)) (by simp [firV, tokV, tok0, results, Tryd.results19, go_sem]) rfl ⟨rfl, by repeat (first | exact (Below.refl _ _).alloc (Nat.le_refl _) _ | refine Below.setCell ?_ (by simp) _)⟩

end Go.Proofs.YtoioidafnedneaaDoor.Lex
