import Derived.Test.YtnjcfnmdelpecaaTb
import Derived.RangeFuncNested
import Derived.RangeFuncBound
import Derived.RangeFuncCalls
import Derived.RangeFuncLeaves
import Derived.Shelf.Abstract
import Derived.Shelf.RegionOpen
import Derived.OwnWalkIn
import Derived.TacticsInMore
import Derived.LoopNIn
import Derived.LoopIn
/- Layer 7: the iterator over a text's parts, by its contract. -/
set_option linter.unusedVariables false
set_option linter.unusedSimpArgs false
namespace Go.Proofs.Ytnjcfnmdelpecaa.Tp
open Go.RowKit Go.Shelf
attribute [local go_sem] Oper.semAt_some

theorem drewN_grown (w : World) (n : Nat) (row : Option Nat) : w.grownBy (w.drewN n) row := ⟨rfl, rfl, rfl, Nat.le_refl _, fun _ _ _ => rfl⟩
/-- A part, with whether it is the last one, as the values that are handed on. -/
abbrev encs (x : List UInt8 × Bool) : Array Value := #[.string ⟨x.1.toArray⟩, .bool x.2]
/-- How many parts are still to come. -/
def leftV : Value → Value → Nat
  | .string b, .bool m => (remS b.data.toList m).length
  | _, _ => 0
theorem leftV_mk (R : List UInt8) (m : Bool) : leftV (.string ⟨R.toArray⟩) (.bool m) = (remS R m).length := rfl
theorem tag_cut (R : List UInt8) : tagL (partsL R) = ((cutS R).1, !(cutS R).2.2) :: tagL (remS (cutS R).2.1 (cutS R).2.2) := by
  rcases slash_cases R with h | ⟨a, b, rfl, h⟩
  · rw [cutS_no h, partsL_one _ h]; rfl
  · rw [cutS_yes h, partsL_head _ _ h, tagL_cons (partsL_ne b)]; rfl
theorem cut_left (R : List UInt8) : (remS (cutS R).2.1 (cutS R).2.2).length < (partsL R).length := by
  have := congrArg List.length (tag_cut R)
  rw [tagL_len, List.length_cons, tagL_len] at this
  omega
theorem cut_len (R : List UInt8) : (cutS R).2.1.length ≤ R.length := by
  rcases slash_cases R with h | ⟨a, b, rfl, h⟩
  · rw [cutS_no h]; simp
  · rw [cutS_yes h]; simp; omega

set_option maxRecDepth 100000 in
set_option maxHeartbeats 2000000 in
theorem partsIn_in (n : Nat) (hn : 1 ≤ n) (l Bn : Nat) (s : List UInt8) (hs : s.length ≤ reachN) (J Jx : List (List UInt8 × Bool) → World → Prop) (hJd : ∀ pre W k, J pre W → J pre (W.drewN k))
    (hY : ∀ pre x W, J pre W → pre.length < (partsL s).length → YieldAt Fence.wide (n - 1) Try.prog l (encs x) W fun e W' =>
      (e = .returned (.bool true) ∧ J (pre ++ [x]) W' ∧ True) ∨ (e = .returned (.bool false) ∧ Jx (pre ++ [x]) W'))
    (W : World) (hBn : W.cell? ⟨Bn, 0, none⟩ = some (.string ⟨s.toArray⟩)) (h0 : J [] W) :
    CallsIn Fence.wide n Try.prog 28 #[.func (.yield l) #[] #[], .pointer (some ⟨Bn, 0, none⟩)] W fun e W' => (∃ v, e = .returned v) ∧
      ((∃ ys, ys = tagL (partsL s) ∧ J ys W') ∨ (∃ pre, pre <+: tagL (partsL s) ∧ Jx pre W')) := by
  refine callsIn_of_wp Try.func28 rfl trivial ?_ rfl
  simp only [Try.ntmps28, List.size_toArray, List.length_cons, List.length_nil, Nat.reduceAdd, Nat.reduceSub, Array.replicate_succ, Array.replicate_zero, List.push_toArray, List.append_toArray, List.nil_append, List.cons_append]
  gi_wp2
  gi_loopw [3, 4] (fun rest more wr => ∃ (pre : List (List UInt8 × Bool)) (R : List UInt8) (m : Bool), rest = .string ⟨R.toArray⟩ ∧ more = .bool m ∧ Hid (tagL (partsL s) = pre ++ tagL (remS R m)) ∧ Hid (R.length ≤ reachN) ∧ J pre wr)
    (fun rest more _ => leftV rest more)
  case atStart =>
    exact ⟨[], s, true, rfl, rfl, rfl, hs, h0⟩
  case round =>
    obtain ⟨pre, R, m, rfl, rfl, HT, HL, hJs⟩ := hrel
    cases m with
    | false =>
      have HP : Hid (pre = tagL (partsL s)) := by
        show _ = _
        rw [HT.out, remS_no]; simp [tagL]
      clear HT
      gi_wp2
      go_end0
      exact ⟨⟨_, rfl⟩, .inl ⟨pre, HP.out, hJs⟩⟩
    | true =>
      have C := Lib.hid (fun u => Cut_any R u HL.out)
      have HC := Lib.hid (tag_cut R)
      have HN := Lib.hid (cut_left R)
      have HQ := Lib.hid (cut_len R)
      have HM : Hid (leftV (.string ⟨R.toArray⟩) (.bool true) = (partsL R).length) := leftV_mk R true
      generalize cutS R = x at *
      obtain ⟨p, r, m⟩ := x
      unfold cutV at C
      dsimp only at C HC HN HQ
      have hlen : Hid (pre.length < (partsL s).length) := by
        show _ < _
        have := congrArg List.length HT.out
        rw [tagL_len, remS_yes, HC.out] at this
        simp at this
        omega
      gi_wp2_with (refine ⟨trivial, ?_⟩; gi_at_call 27; refine (callsIn_wide.2 (C.out _)).mono ?_; rintro e w1 ⟨rfl, nq, rfl⟩; obtain ⟨fn, tmps, assign, body, hy, hR⟩ := hY pre (p, !m) (wr.drewN nq) (hJd _ _ _ hJs) hlen.out; dsimp only [encs] at hy)
      refine hR.mono ?_
      rintro e W3 (⟨rfl, hJ3, _⟩ | ⟨rfl, hJx3⟩)
      · gi_wp2
        go_roundw
        case rel => exact ⟨pre ++ [(p, !m)], r, m, rfl, rfl, by show _ = _; rw [HT.out, remS_yes, HC.out]; simp, Nat.le_trans HQ.out HL.out, hJ3⟩
        case measure => rw [leftV_mk, HM.out]; exact HN.out
      · gi_wp2
        refine bodyPost_ret (results_none rfl _ _ _) rfl ?_
        exact ⟨⟨_, rfl⟩, .inr ⟨pre ++ [(p, !m)], ⟨tagL (remS r m), by rw [HT.out, remS_yes, HC.out]; simp⟩, hJx3⟩⟩

/-- **The iterator's contract.** -/
theorem parts_stops (n : Nat) (hn : 1 ≤ n) (Bn : Nat) (s : List UInt8) (hs : s.length ≤ reachN) (w : World) (hlt : Bn < w.heap.size) (hBn : w.cell? ⟨Bn, 0, none⟩ = some (.string ⟨s.toArray⟩)) :
    SeqStopsK Fence.wide n Try.prog 28 #[.pointer (some ⟨Bn, 0, none⟩)] encs (fun _ _ => True) (fun xs => xs = tagL (partsL s)) (fun pre => pre <+: tagL (partsL s)) (partsL s).length w := fun l J Jx W hW hJ hJx hY h0 =>
  partsIn_in n hn l Bn s hs J Jx (fun pre W k h => hJ pre W _ none h (drewN_grown W k none) (fun r e => by cases e)) hY W ((hW.cell (p := ⟨Bn, 0, none⟩) hlt).trans hBn) h0

theorem parts_any (s : ByteArray) (w : World) :
    Calls Try.prog 24 #[.string s] w (fun e w' => e = .returned (.func (.func 28) #[] #[.pointer (some ⟨w.heap.size, 0, none⟩)]) ∧ w.alloc (.cells #[.string s] 9) = w') := by
  go_enter Try.func24, Try.ntmps24
  go_wp2
  go_ret
  exact ⟨rfl, rfl⟩
end Go.Proofs.Ytnjcfnmdelpecaa.Tp
