import Derived.Test.YtoioidafnedneaaDoorRTok0
/- The contract of the document's token: minus. -/
set_option linter.unusedVariables false
set_option linter.unusedSimpArgs false
namespace Go.Proofs.YtoioidafnedneaaDoor.Lex
open Go.RowKit

set_option maxHeartbeats 2000000 in
theorem rtok_minus (s : ByteArray) (i : Nat) (w : World) (c : UInt8) (r : List UInt8) (hs : s.size ≤ 1000000) (hi : i < s.size) (hc : s[i] = c) (HL : Hid (s.data.toList.drop i = c :: r)) (hg : signB c = false) (h45 : c.toNat = 45) (R : Tok × Nat)
    (HR : Hid (firstL (c :: r) = R)) : Calls Tryd.prog 19 #[.string s, .int .i64 i] w (Ret (firV (atR R i)) w) := by
  have hx : ∀ u : World, (Instr.index 9 (.string s) (.int .i64 i)).run Tryd.prog u = .ok (.int .u8 c.toNat) u := Quo.run_byte s i hi c.toNat (by rw [hc])
  clear hc
  have h34 : c.toNat ≠ 34 := by omega
  have hr : numberL (c :: r) = R := by rw [← HR.out]; simp only [firstL]; rw [if_neg (by simp [hg]), if_neg h34, if_pos (.inl h45)]
  obtain ⟨d1, d2, d3, d4, d5, d6⟩ := sign_no hg
  have b1 : ((c.toNat : Int) == 34) = false := by simp; omega
  have z1 : (c.toNat : Int) = 45 := by omega
  have NX := Lib.hid (fun w => rword_num s i w (by omega) hs)
  rw [HL.out] at NX
  have hW : ((c :: r).takeWhile numB).length ≤ 1000000 := by
    have h1 := (List.takeWhile_sublist (l := c :: r) numB).length_le
    have h2 : (c :: r).length = s.size - i := by rw [← HL.out, List.length_drop, sz]
    omega
  have P := Lib.hid (fun w => rpar_any ((c :: r).takeWhile numB) w hW)
  unfold numberL spanN at hr
  generalize (c :: r).takeWhile numB = W at *
  generalize Dec.parseS W = u at *
  obtain ⟨m, x, ok⟩ := u
  unfold Dec.mkV at P
  clear HL HR hg h34 h45
  generalize (c.toNat : Int) = z at *
  cases ok with
  | true =>
    rw [if_pos rfl] at hr
    subst hr
    rw [show firV (atR (⟨3, W, m, x, 0⟩, W.length) i) = firV (⟨3, W, m, x, i⟩, W.length) from rfl]
    go_enter Tryd.func19, Tryd.ntmps19
    go_wp2_with (go_at_call 38; (with_reducible refine (NX.out _).mono ?_); rintro e1 w1 ⟨rfl, rfl⟩)
    (with_reducible refine (P.out _).mono ?_)
    rintro e1 w1 ⟨rfl, hb⟩
    obtain ⟨c0, c1, c2, c3, c4, fz, lt⟩ := ((TokAt.new w tok0 38).below hb).alloc (.cells #[.int .i64 m, .int .i64 x] 36)
    have hbb := below_call hb
    clear hb
    go_wp2_with fail
    exact bodyPost_ret (v := firV (⟨3, W, m, x, i⟩, W.length)) (by simp [firV, tokV, tok0, results, Tryd.results19, go_sem, c0, c1, c2, c3, c4, bs_size]) rfl ⟨rfl, by repeat (first | exact hbb.alloc hbb.size _ | refine Below.setCell ?_ (by simp) _)⟩
  | false =>
    rw [if_neg (by simp)] at hr
    subst hr
    rw [show firV (atR (tok0, 0) i) = firV (tok0, 0) from rfl]
    go_enter Tryd.func19, Tryd.ntmps19
    go_wp2_with (go_at_call 38; (with_reducible refine (NX.out _).mono ?_); rintro e1 w1 ⟨rfl, rfl⟩)
    (with_reducible refine (P.out _).mono ?_)
    rintro e1 w1 ⟨rfl, hb⟩
    obtain ⟨c0, c1, c2, c3, c4, fz, lt⟩ := ((TokAt.new w tok0 38).below hb).alloc (.cells #[.int .i64 m, .int .i64 x] 36)
    have hbb := below_call hb
    clear hb
    go_wp2_with fail
    exact bodyPost_ret (v := firV (tok0, 0)) (by simp [firV, tokV, tok0, results, Tryd.results19, go_sem, c0, c1, c2, c3, c4]) rfl ⟨rfl, by repeat (first | exact hbb.alloc hbb.size _ | refine Below.setCell ?_ (by simp) _)⟩

end Go.Proofs.YtoioidafnedneaaDoor.Lex
