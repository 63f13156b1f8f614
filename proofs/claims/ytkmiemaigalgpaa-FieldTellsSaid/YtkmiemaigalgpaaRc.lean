import Derived.Test.YtkmiemaigalgpaaRb
import Derived.Test.YtkmiemaigalgpaaFj
/- The document's Int, Str, Yes. -/
set_option linter.unusedVariables false
set_option linter.unusedSimpArgs false
namespace Go.Proofs.Ytkmiemaigalgpaa.Js
open Go.RowKit Lex

set_option maxHeartbeats 1000000 in
set_option maxRecDepth 100000 in
theorem rint5_any (n : Int) (w : World) (h0 : -9223372036854775808 ≤ n) (h1 : n ≤ 9223372036854775807) : Calls Try.prog 22 #[.int .i64 n] w (Ret (bareV (intJ n).k (intJ n).m (intJ n).e []) w) := by
  have M1 := Lib.hid (fun w => Dec.rmake_any n 0 w h0 h1 (by decide) (by decide))
  unfold Dec.mkV at M1
  unfold intJ bareV
  generalize Dec.mk n 0 = R at *
  obtain ⟨r1, r2, r3⟩ := R
  simp only at M1 ⊢
  cases r3 with
  | true =>
    rw [if_pos rfl]
    show Calls _ _ _ _ (Ret (.agg #[.int .i64 4, .int .i64 r1, .int .i64 r2, .string ⟨#[]⟩, .slice none 0 0, .slice none 0 0]) w)
    go_enter Try.func22, Try.ntmps22
    go_wp2_with (go_at_call 44; (with_reducible refine (M1.out _).mono ?_); rintro e1 w1 ⟨rfl, hb1⟩; obtain ⟨x1, x2, x3⟩ := ans_one hb1; obtain ⟨⟨z0, z1, z2, z3, z4, z5⟩, g0, g1, g2, g3, g4, g5⟩ := twelve_of x1)
    have q := six_of (put6_alloc_row (o := .cells #[.int .i64 r1, .int .i64 r2] 23) (put6_self x1 (.int .i64 4) (.int .i64 r1) (.int .i64 r2) (.string ⟨#[]⟩) (.slice none 0 0) (.slice none 0 0)))
    simp only [put6, Nat.zero_add] at q
    obtain ⟨q0, q1, q2, q3, q4, q5⟩ := q
    refine bodyPost_ret (v := .agg #[.int .i64 4, .int .i64 r1, .int .i64 r2, .string ⟨#[]⟩, .slice none 0 0, .slice none 0 0]) (by simp [results, Try.results22, go_sem, q0, q1, q2, q3, q4, q5]) rfl ?_
    exact ⟨rfl, (below_put6' x3 (Nat.le_refl _) _ _ _ _ _ _).alloc (by rw [put6_size]; exact Nat.le_of_lt x2) _⟩
  | false =>
    rw [if_neg (by simp)]
    show Calls _ _ _ _ (Ret (.agg #[.int .i64 1, .int .i64 0, .int .i64 0, .string ⟨#[]⟩, .slice none 0 0, .slice none 0 0]) w)
    go_enter Try.func22, Try.ntmps22
    go_wp2_with (go_at_call 44; (with_reducible refine (M1.out _).mono ?_); rintro e1 w1 ⟨rfl, hb1⟩; obtain ⟨x1, x2, x3⟩ := ans_one hb1; obtain ⟨⟨z0, z1, z2, z3, z4, z5⟩, g0, g1, g2, g3, g4, g5⟩ := twelve_of x1)
    have q := six_of (put6_alloc_row (o := .cells #[.int .i64 r1, .int .i64 r2] 23) (put6_self x1 (.int .i64 1) (.int .i64 0) (.int .i64 0) (.string ⟨#[]⟩) (.slice none 0 0) (.slice none 0 0)))
    simp only [put6, Nat.zero_add] at q
    obtain ⟨q0, q1, q2, q3, q4, q5⟩ := q
    refine bodyPost_ret (v := .agg #[.int .i64 1, .int .i64 0, .int .i64 0, .string ⟨#[]⟩, .slice none 0 0, .slice none 0 0]) (by simp [results, Try.results22, go_sem, q0, q1, q2, q3, q4, q5]) rfl ?_
    exact ⟨rfl, (below_put6' x3 (Nat.le_refl _) _ _ _ _ _ _).alloc (by rw [put6_size]; exact Nat.le_of_lt x2) _⟩

set_option maxHeartbeats 1000000 in
set_option maxRecDepth 100000 in
theorem ryes_any (b : Bool) (w : World) : Calls Try.prog 26 #[.bool b] w (Ret (bareV (if b = true then 3 else 2) 0 0 []) w) := by
  unfold bareV
  cases b with
  | true =>
    go_enter Try.func26, Try.ntmps26
    go_wp2_with fail
    exact bodyPost_ret (v := .agg #[.int .i64 3, .int .i64 0, .int .i64 0, .string ⟨#[]⟩, .slice none 0 0, .slice none 0 0]) (by simp [results, Try.results26, go_sem]) rfl ⟨rfl, belowOne _ _⟩
  | false =>
    go_enter Try.func26, Try.ntmps26
    go_wp2_with fail
    exact bodyPost_ret (v := .agg #[.int .i64 2, .int .i64 0, .int .i64 0, .string ⟨#[]⟩, .slice none 0 0, .slice none 0 0]) (by simp [results, Try.results26, go_sem]) rfl ⟨rfl, belowOne _ _⟩
set_option maxHeartbeats 1000000 in
set_option maxRecDepth 100000 in
theorem rstr5_any (t : List UInt8) (w : World) : Calls Try.prog 24 #[.string ⟨t.toArray⟩] w (Ret (bareV 5 0 0 t) w) := by
  unfold bareV
  go_enter Try.func24, Try.ntmps24
  go_wp2_with fail
  exact bodyPost_ret (v := .agg #[.int .i64 5, .int .i64 0, .int .i64 0, .string ⟨t.toArray⟩, .slice none 0 0, .slice none 0 0]) (by simp [results, Try.results24, go_sem]) rfl ⟨rfl, belowOne _ _⟩
end Go.Proofs.Ytkmiemaigalgpaa.Js
