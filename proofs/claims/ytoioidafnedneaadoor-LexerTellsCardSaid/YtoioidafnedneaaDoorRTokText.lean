import Derived.Test.YtoioidafnedneaaDoorRTok0
/- The contract of the document's token: text. -/
set_option linter.unusedVariables false
set_option linter.unusedSimpArgs false
namespace Go.Proofs.YtoioidafnedneaaDoor.Lex
open Go.RowKit

set_option maxHeartbeats 2000000 in
theorem rtok_text (s : ByteArray) (i : Nat) (w : World) (c : UInt8) (r : List UInt8) (hs : s.size ≤ 1000000) (hi : i < s.size) (hc : s[i] = c) (HL : Hid (s.data.toList.drop i = c :: r)) (hg : signB c = false) (h34 : c.toNat = 34) (R : Tok × Nat)
    (HR : Hid (firstL (c :: r) = R)) : Calls Tryd.prog 19 #[.string s, .int .i64 i] w (Ret (firV (atR R i)) w) := by
  have hx : ∀ u : World, (Instr.index 9 (.string s) (.int .i64 i)).run Tryd.prog u = .ok (.int .u8 c.toNat) u := Quo.run_byte s i hi c.toNat (by rw [hc])
  clear hc
  have hr : textL (c :: r) = R := by rw [← HR.out]; simp [firstL, hg, h34]
  obtain ⟨d1, d2, d3, d4, d5, d6⟩ := sign_no hg
  have b1 : ((c.toNat : Int) == 34) = true := by simp [h34]
  have U := Lib.hid (fun w => runq_any (s.extract i s.size) w (by simp; omega))
  rw [bs_drop, HL.out] at U
  unfold textL at hr
  generalize Quo.unqS (c :: r) = u at *
  obtain ⟨T, n, ok⟩ := u
  unfold Quo.unqV at U
  clear HL HR hg h34
  generalize (c.toNat : Int) = z at *
  cases ok with
  | true =>
    rw [if_pos rfl] at hr
    subst hr
    rw [show firV (atR (⟨2, T, 0, 0, 0⟩, n) i) = firV (⟨2, T, 0, 0, i⟩, n) from rfl]
    go_enter Tryd.func19, Tryd.ntmps19
    go_wp2_with fail
    (with_reducible refine (U.out _).mono ?_)
    rintro e1 w1 ⟨rfl, hb⟩
    obtain ⟨c0, c1, c2, c3, c4, fz, lt⟩ := (TokAt.new w tok0 38).below hb
    have hbb := below_call hb
    clear hb
    go_wp2_with fail
    exact bodyPost_ret (v := firV (⟨2, T, 0, 0, i⟩, n)) (by simp [firV, tokV, tok0, results, Tryd.results19, go_sem, c0, c1, c2, c3, c4]) rfl ⟨rfl, by repeat (first | exact hbb | refine Below.setCell ?_ (by simp) _)⟩
  | false =>
    rw [if_neg (by simp)] at hr
    subst hr
    rw [show firV (atR (tok0, 0) i) = firV (tok0, 0) from rfl]
    go_enter Tryd.func19, Tryd.ntmps19
    go_wp2_with fail
    (with_reducible refine (U.out _).mono ?_)
    rintro e1 w1 ⟨rfl, hb⟩
    obtain ⟨c0, c1, c2, c3, c4, fz, lt⟩ := (TokAt.new w tok0 38).below hb
    have hbb := below_call hb
    clear hb
    go_wp2_with fail
    exact bodyPost_ret (v := firV (tok0, 0)) (by simp [firV, tokV, tok0, results, Tryd.results19, go_sem, c0, c1, c2, c3, c4]) rfl ⟨rfl, by repeat (first | exact hbb | refine Below.setCell ?_ (by simp) _)⟩

end Go.Proofs.YtoioidafnedneaaDoor.Lex
