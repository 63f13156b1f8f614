import Derived.Test.YtoioidafnedneaaGreatDoorRaw
/- The contract of Word: a raw token's text. -/
set_option linter.unusedVariables false
set_option linter.unusedSimpArgs false
namespace Go.Proofs.YtoioidafnedneaaGreatDoor.Lex
open Go.RowKit
open Quo (pickS pickS_nonneg pickS_lt IntsAt textR)

theorem pick_any (c n : Int) (w : World) (hc : i64B c) (hn0 : 0 < n) (hn1 : n ≤ 9223372036854775807) :
    Calls Tryz.prog 6 #[.int .i64 c, .int .i64 n] w (fun e w' => e = .returned (.int .i64 (pickS c n)) ∧ w = w') := by
  obtain ⟨hc0, hc1⟩ := hc
  by_cases hc : c < 0
  all_goals
    go_enter Tryz.func6, Tryz.ntmps6
    go_wp2
    go_ret
    refine ⟨ret_int ?_, rfl⟩
    unfold pickS
    first
      | (rw [if_pos hc, ← Int.neg_tmod, Int.tmod_eq_emod_of_nonneg (by omega)]; done)
      | rw [if_neg (by omega)]

def signL (j : Int) : List UInt8 := if j = 0 then [123] else if j = 1 then [125] else if j = 2 then [91] else if j = 3 then [93] else if j = 4 then [44] else [58]
def threeL (j : Int) : List UInt8 := if j = 0 then [116, 114, 117, 101] else if j = 1 then [102, 97, 108, 115, 101] else [110, 117, 108, 108]
/-- A raw token's text and token. -/
def wordT (x : Raw) : List UInt8 × Tok :=
  if pickS x.k 4 = 0 then (signL (pickS x.m 6), ⟨1, signL (pickS x.m 6), 0, 0, 0⟩)
  else if pickS x.k 4 = 1 then (Quo.quoteL (Quo.flat (textR (x.t.take 30))), ⟨2, Quo.flat (textR (x.t.take 30)), 0, 0, 0⟩)
  else if pickS x.k 4 = 2 then (Dec.printS (Dec.fitM x.m) (Dec.fitE x.m x.e), ⟨3, Dec.printS (Dec.fitM x.m) (Dec.fitE x.m x.e), Dec.fitM x.m, Dec.fitE x.m x.e, 0⟩)
  else (threeL (pickS x.m 3), ⟨4, threeL (pickS x.m 3), 0, 0, 0⟩)
theorem signL_isW (j : Int) : IsW (signL j) ⟨1, signL j, 0, 0, 0⟩ := by
  unfold signL
  repeat' split
  all_goals exact isW_sign (by decide)
theorem threeL_isW (j : Int) : IsW (threeL j) ⟨4, threeL j, 0, 0, 0⟩ := by
  unfold threeL
  repeat' split
  all_goals exact isW_three (by decide)
theorem wordT_isW (x : Raw) : IsW (wordT x).1 (wordT x).2 := by
  unfold wordT
  repeat' split
  · exact signL_isW _
  · exact isW_quote (Quo.textR_vr _)
  · exact isW_num (Dec.fit_right _ _)
  · exact threeL_isW _
theorem qr_len6 {r : Nat} (h : Quo.vr r) : (Quo.qr r).length ≤ 6 := by
  have := (Quo.enc_len r).2
  unfold Quo.qr
  repeat' split
  all_goals simp
  all_goals omega
theorem bodyQ_len {rs : List Nat} (h : ∀ r ∈ rs, Quo.vr r) : (Quo.bodyQ rs).length ≤ 6 * rs.length := by
  unfold Quo.bodyQ
  induction rs with
  | nil => simp
  | cons r rs ih =>
    have h1 := qr_len6 (h r (by simp))
    have h2 := ih (fun r hr => h r (by simp [hr]))
    simp only [List.flatMap_cons, List.length_append, List.length_cons]
    omega
theorem textR_len30 (zs : List Int) : (textR (zs.take 30)).length ≤ 30 := by unfold Quo.textR; simp; omega
theorem quote_len30 (zs : List Int) : (Quo.quoteL (Quo.flat (textR (zs.take 30)))).length ≤ 182 := by
  have h := bodyQ_len (Quo.textR_vr (zs.take 30))
  have h2 := textR_len30 zs
  unfold Quo.quoteL
  rw [Quo.qBody_flat' (Quo.textR_vr _)]
  simp
  omega
theorem wordT_len (x : Raw) : (wordT x).1.length ≤ 182 := by
  unfold wordT
  repeat' split
  · unfold signL; repeat' split
    all_goals simp
  · exact quote_len30 _
  · have := (Dec.print_len (Dec.fit_right x.m x.e)).1
    simp only; omega
  · unfold threeL; repeat' split
    all_goals simp

/-- A raw token as a value. -/
def rawV (x : Raw) : Value := .agg #[.int .i64 x.k, .int .i64 x.m, .int .i64 x.e, x.v]

set_option maxHeartbeats 1000000 in
theorem word_sign (k m e : Int) (v : Value) (w : World) (hk : i64B k) (hm : i64B m) (h : pickS k 4 = 0) :
    Calls Tryz.prog 7 #[.agg #[.int .i64 k, .int .i64 m, .int .i64 e, v]] w (Ret (.string ⟨(signL (pickS m 6)).toArray⟩) w) := by
  have P1 := Lib.hid (fun w => pick_any k 4 w hk (by decide) (by decide))
  have P2 := Lib.hid (fun w => pick_any m 6 w hm (by decide) (by decide))
  rw [h] at P1
  have h0 := pickS_nonneg (c := m) (n := 6) (by decide)
  have h1 := pickS_lt (c := m) (n := 6) (by decide)
  generalize pickS m 6 = j at *
  clear h
  rcases (show j = 0 ∨ j = 1 ∨ j = 2 ∨ j = 3 ∨ j = 4 ∨ j = 5 by omega) with rfl | rfl | rfl | rfl | rfl | rfl
  all_goals
    go_enter Tryz.func7, Tryz.ntmps7
    go_wp2_with (first | (go_at_call 6; (with_reducible refine (P1.out _).mono ?_); rintro e1 w1 ⟨rfl, rfl⟩) | (go_at_call 6; (with_reducible refine (P2.out _).mono ?_); rintro e1 w1 ⟨rfl, rfl⟩))
    go_ret
    exact ⟨rfl, ((Below.refl _ _).alloc (Nat.le_refl _) _).alloc (by simp) _⟩

set_option maxHeartbeats 1000000 in
theorem word_three (k m e : Int) (v : Value) (w : World) (hk : i64B k) (hm : i64B m) (h : pickS k 4 = 3) :
    Calls Tryz.prog 7 #[.agg #[.int .i64 k, .int .i64 m, .int .i64 e, v]] w (Ret (.string ⟨(threeL (pickS m 3)).toArray⟩) w) := by
  have P1 := Lib.hid (fun w => pick_any k 4 w hk (by decide) (by decide))
  have P2 := Lib.hid (fun w => pick_any m 3 w hm (by decide) (by decide))
  rw [h] at P1
  have h0 := pickS_nonneg (c := m) (n := 3) (by decide)
  have h1 := pickS_lt (c := m) (n := 3) (by decide)
  generalize pickS m 3 = j at *
  clear h
  rcases (show j = 0 ∨ j = 1 ∨ j = 2 by omega) with rfl | rfl | rfl
  all_goals
    go_enter Tryz.func7, Tryz.ntmps7
    go_wp2_with (first | (go_at_call 6; (with_reducible refine (P1.out _).mono ?_); rintro e1 w1 ⟨rfl, rfl⟩) | (go_at_call 6; (with_reducible refine (P2.out _).mono ?_); rintro e1 w1 ⟨rfl, rfl⟩))
    go_ret
    exact ⟨rfl, ((Below.refl _ _).alloc (Nat.le_refl _) _).alloc (by simp) _⟩

set_option maxHeartbeats 1000000 in
theorem word_num (k m e : Int) (v : Value) (w : World) (ht : Dec.Tab w) (hk : i64B k) (hm : i64B m) (he : i64B e) (h : pickS k 4 = 2) :
    Calls Tryz.prog 7 #[.agg #[.int .i64 k, .int .i64 m, .int .i64 e, v]] w (Ret (.string ⟨(Dec.printS (Dec.fitM m) (Dec.fitE m e)).toArray⟩) w) := by
  have P1 := Lib.hid (fun w => pick_any k 4 w hk (by decide) (by decide))
  rw [h] at P1
  have F := Lib.hid (fun w => Dec.fit_of m e w hm.1 hm.2 he.1 he.2)
  have PR := Lib.hid (fun w h => Dec.print_any (Dec.fitM m) (Dec.fitE m e) w h)
  generalize Dec.printS (Dec.fitM m) (Dec.fitE m e) = L at *
  generalize Dec.fitM m = M at *
  generalize Dec.fitE m e = E at *
  have HT := Lib.hid ht
  clear ht h
  go_enter Tryz.func7, Tryz.ntmps7
  go_wp2_with (go_at_call 6; (with_reducible refine (P1.out _).mono ?_); rintro e1 w1 ⟨rfl, rfl⟩)
  (with_reducible refine (F.out _).mono ?_)
  rintro e1 w1 ⟨rfl, hb1⟩
  have hbb := below_call hb1
  clear hb1
  go_wp2_with fail
  (with_reducible refine (PR.out _ (HT.out.below hbb)).mono ?_)
  rintro e1 w2 ⟨rfl, hb2⟩
  go_wp2_with fail
  go_ret
  exact ⟨rfl, hbb.trans (hb2.mono hbb.size)⟩
end Go.Proofs.YtoioidafnedneaaGreatDoor.Lex
