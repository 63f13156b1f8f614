import Derived.Test.YtignefglnpaedaaGreatDoorFt6
/- The contract of Fit. -/
set_option linter.unusedVariables false
set_option linter.unusedSimpArgs false
namespace Go.Proofs.YtignefglnpaedaaGreatDoor.Js
open Go.RowKit Lex
open Quo (pickS pickS_nonneg pickS_lt IntsAt textR)

theorem fit_ok : ∀ n, n ≤ 15 → FitOk n
  | 0, _ => fun w v r hR => by
    obtain ⟨k, m, e, t, is⟩ := r
    obtain ⟨vt, ai, ci, rfl, hk, hm, he, ht, hni⟩ := hR
    have h0 := pickS_nonneg (c := k) (n := 7) (by decide)
    have h1 := pickS_lt (c := k) (n := 7) (by decide)
    rw [fitJ]
    by_cases c4 : pickS k 7 = 3
    · rw [if_pos (by omega)]; exact fit_num _ _ _ _ _ _ _ _ 0 w hk hm he c4
    · rw [if_neg (by omega)]
      by_cases c5 : pickS k 7 = 4
      · rw [if_pos (by omega)]; exact fit_text _ _ _ _ _ _ _ _ _ 0 w hk ht c5
      · rw [if_neg (by omega)]
        by_cases c6 : pickS k 7 = 5 ∨ pickS k 7 = 6
        · exact fit_empty _ _ _ _ _ _ _ 0 w hk hni c6
        · exact fit_kind _ _ _ _ _ _ _ _ 0 w hk (by omega)
  | n + 1, hn => fun w v r hR => by
    obtain ⟨k, m, e, t, is⟩ := r
    have hR' := hR
    obtain ⟨vt, ai, ci, rfl, hk, hm, he, ht, hni, _⟩ := hR'
    have h0 := pickS_nonneg (c := k) (n := 7) (by decide)
    have h1 := pickS_lt (c := k) (n := 7) (by decide)
    rw [fitJ]
    by_cases c4 : pickS k 7 = 3
    · rw [if_pos (by omega)]; exact fit_num _ _ _ _ _ _ _ _ (n + 1) w hk hm he c4
    · rw [if_neg (by omega)]
      by_cases c5 : pickS k 7 = 4
      · rw [if_pos (by omega)]; exact fit_text _ _ _ _ _ _ _ _ _ (n + 1) w hk ht c5
      · rw [if_neg (by omega)]
        by_cases c6 : pickS k 7 = 5
        · rw [if_pos (by omega), c6]
          exact fit_arr n (by omega) (fit_ok n (by omega)) w k m e t is _ hR c6
        · by_cases c7 : pickS k 7 = 6
          · rw [if_pos (by omega), c7]
            exact fit_obj n (by omega) (fit_ok n (by omega)) w k m e t is _ hR c7
          · rw [if_neg (by omega)]
            exact fit_kind _ _ _ _ _ _ _ _ (n + 1) w hk (by omega)
/-- Fit at a depth. -/
theorem fit_at (n : Nat) (hn : n ≤ 15) (D : Int) (hD : ((16 - n : Nat) : Int) = D) (w : World) (v : Value) (r : RT) (h : RAt w n v r) :
    Calls Tryz.prog 4 #[v, .int .i64 D] w fun e w' => ∃ k m e1 t an nn cn ai ni ci, e = .returned (.agg #[.int .i64 k, .int .i64 m, .int .i64 e1, .string t, .slice an nn cn, .slice ai ni ci]) ∧
      JA Any w' (.agg #[.int .i64 k, .int .i64 m, .int .i64 e1, .string t, .slice an nn cn, .slice ai ni ci]) (fitJ n r) ∧ Below w.heap.size w w' := by
  subst hD
  refine (fit_ok n hn w v r h).mono ?_
  rintro e w' ⟨k, m, e1, t, an, nn, cn, ai, ni, ci, rfl, hJ, hb⟩
  exact ⟨k, m, e1, t, an, nn, cn, ai, ni, ci, rfl, ⟨_, hJ.any⟩, hb⟩
theorem fit_printed (n : Nat) (r : RT) (hn : n ≤ 15) (hs : rsz r ≤ 1048576) : rightJ 1 (fitJ n r) = true ∧ printS (fitJ n r) = printJ (fitJ n r) ∧ (printJ (fitJ n r)).length ≤ 209715200 := by
  have h := fit_right n 1 r (by omega)
  have := fit_len n r
  exact ⟨h, by unfold printS; rw [h]; rfl, by omega⟩
end Go.Proofs.YtignefglnpaedaaGreatDoor.Js
