import Derived.Test.YtoioidafnedneaaDoorRScan
import Derived.Test.YtoioidafnedneaaDoorSame
import Derived.Test.YtoioidafnedneaaDoorAwake
/- The walk of the law LexerTells: it answers true. -/
set_option linter.unusedVariables false
set_option linter.unusedSimpArgs false
namespace Go.Proofs.YtoioidafnedneaaDoor.Lex
open Go.RowKit

set_option maxHeartbeats 1000000 in
theorem tells_walk (s : ByteArray) (w : World) (hs : s.size ≤ maxLen) : Calls Tryd.prog 3 #[.string s] w (Ret (.bool true) w) := by
  have S1 := Lib.hid (fun w => scan_any s w hs)
  have S2 := Lib.hid (fun w => rscan_any s w hs)
  generalize scanS s.data.toList = R at *
  unfold maxLen at hs
  by_cases hb : (4000 : Int) < s.size ∧ (s.size : Int) ≤ 20000
  · have t1 : decide ((4000 : Int) < (s.size : Int)) = true := decide_eq_true hb.1
    have t2 : decide ((s.size : Int) ≤ (20000 : Int)) = true := decide_eq_true hb.2
    have HS := Lib.hid hs
    clear hs hb
    go_enter Tryd.func3, Tryd.ntmps3
    go_wp2_with fail
    (with_reducible refine (awake_any _).mono ?_)
    rintro e1 w1 ⟨rfl, hb1⟩
    go_wp2_with fail
    go_ret
    exact ⟨rfl, hb1⟩
  · have t1 : (decide ((4000 : Int) < (s.size : Int)) = false) ∨ (decide ((4000 : Int) < (s.size : Int)) = true ∧ decide ((s.size : Int) ≤ (20000 : Int)) = false) := by
      by_cases h : (4000 : Int) < s.size
      · exact .inr ⟨decide_eq_true h, decide_eq_false (by omega)⟩
      · exact .inl (decide_eq_false h)
    have HS := Lib.hid hs
    clear hs hb
    rcases t1 with t1 | ⟨t1, t2⟩
    all_goals
      go_enter Tryd.func3, Tryd.ntmps3
      go_wp2_with fail
      (with_reducible refine (awake_any _).mono ?_)
      rintro e1 w1 ⟨rfl, hb1⟩
      go_wp2_with fail
      (with_reducible refine (S1.out _).mono ?_)
      rintro e1 w2 ⟨v1, rfl, ho1, hb2⟩
      go_wp2_with fail
      (with_reducible refine (S2.out _).mono ?_)
      rintro e1 w3 ⟨v2, rfl, ho2, hb3⟩
      have hbb : Below w.heap.size w w3 := (hb1.trans (hb2.mono hb1.size)).trans (hb3.mono (Nat.le_trans hb1.size hb2.size))
      have A1 := (ToksOwn.at_ ho1).below hb3 (Nat.le_refl _)
      have A2 := ToksOwn.at_ ho2
      clear hb1 hb2 hb3 ho1 ho2
      generalize errR R = eR at *
      generalize placeR R = pR at *
      go_wp2_with fail
      (with_reducible refine (same_true _ _ _ _ A1 A2).mono ?_)
      rintro e1 w4 ⟨rfl, hb4⟩
      go_wp2_with fail
      go_ret
      exact ⟨rfl, hbb.trans (hb4.mono hbb.size)⟩
end Go.Proofs.YtoioidafnedneaaDoor.Lex
