import Derived.Test.YtcaehjflfpnenaaHi
import Derived.StillTailTactics
/- What the laws begin with: chapter 10's example; a slice of pairs among the arguments. -/
set_option linter.unusedVariables false
set_option linter.unusedSimpArgs false
namespace Go.Proofs.Ytcaehjflfpnenaa.Hp
open Go.RowKit

def AwakeRet (w : World) (e : Ending) (w' : World) : Prop := e = .returned (.bool true) ∧ Below w.heap.size w w'
theorem Only.stays {b : Nat} {r r' : Option Nat} {w w' : World} (h : Only b r r' w w') {B : Nat} (hB : B ≤ w.heap.size) (hb : B ≤ b) (hr : ∀ g, r = some g → B ≤ g) : Below B w w' :=
  ⟨h.os, h.tape, h.output, h.size, fun k hk => h.block k (Nat.lt_of_lt_of_le hk hB) (by omega) (fun e => by have := hr k e.symm; omega)⟩
theorem HpIs.stays {base b : Nat} {w w' : World} {v : Value} {s : List Pr} {r' : Option Nat} (h : HpIs base w b v s) (ho : Only b v.ownBlock r' w w') : Below base w w' :=
  ho.stays (Nat.le_of_lt (Nat.lt_of_le_of_lt h.at.1 h.at.2.1)) h.at.1 (fun g hg => (h.at.2.2.2 g hg).1)
theorem ins1 : insP (5, 1) [] = [(5, 1)] := rfl
theorem ins2 : insP (3, 9) [(5, 1)] = [(3, 9), (5, 1)] := by decide
theorem ins3 : insP (3, 2) [(3, 9), (5, 1)] = [(3, 2), (3, 9), (5, 1)] := by decide
theorem pop_head {base : Nat} {w : World} {b : Nat} {v : Value} {x : Pr} {s : List Pr} (h : HpIs base w b v (x :: s)) : Calls Try.prog 11 #[.pointer (some ⟨b, 0, none⟩)] w (fun e w' => e = .returned (.tuple #[.int .i64 x.1, .int .i64 x.2, .bool true]) ∧ ∃ v', HpIs base w' b v' s ∧ Only b v.ownBlock v'.ownBlock w w') := pop_any h
theorem pop_nil {base : Nat} {w : World} {b : Nat} {v : Value} (h : HpIs base w b v []) : Calls Try.prog 11 #[.pointer (some ⟨b, 0, none⟩)] w (fun e w' => e = .returned (.tuple #[.int .i64 0, .int .i64 0, .bool false]) ∧ ∃ v', HpIs base w' b v' [] ∧ Only b v.ownBlock v'.ownBlock w w') := pop_any h
theorem push_at {base : Nat} {w : World} {b : Nat} {v : Value} {s : List Pr} (h : HpIs base w b v s) (hs : s.length ≤ 999) (k t : Int) (s' : List Pr) (he : insP (k, t) s = s') :
    Calls Try.prog 13 #[.pointer (some ⟨b, 0, none⟩), .int .i64 k, .int .i64 t] w (fun e w' => e = .returned (.tuple #[]) ∧ ∃ v', HpIs base w' b v' s' ∧ Only b v.ownBlock v'.ownBlock w w') := by
  subst he
  exact push_any h hs k t
set_option maxHeartbeats 4000000 in
theorem awake_any (w : World) : Calls Try.prog 8 #[] w (AwakeRet w) := by
  obtain ⟨Q, HQ⟩ : ∃ Q, Hid (AwakeRet w = Q) := ⟨_, rfl⟩
  rw [HQ.out]
  have H0 := Lib.hid (new_is (w := w) (Nat.le_refl _))
  go_enter Try.func8, Try.ntmps8
  go_wp2_with (first
    | (go_at_call 9; (with_reducible refine (new_any w).mono ?_); rintro e w1 ⟨rfl, rfl⟩)
    | (go_at_call 13; (with_reducible refine (push_at H0.out (by simp) 5 1 _ ins1).mono ?_); rintro e w2 ⟨rfl, v2, g2, o2⟩)
    | (go_at_call 13; (with_reducible refine (push_at g2 (by simp) 3 9 _ ins2).mono ?_); rintro e w3 ⟨rfl, v3, g3, o3⟩)
    | (go_at_call 13; (with_reducible refine (push_at g3 (by simp) 3 2 _ ins3).mono ?_); rintro e w4 ⟨rfl, v4, g4, o4⟩)
    | (go_at_call 15; (with_reducible refine (len_any g4).mono ?_); rintro e w5 ⟨rfl, rfl⟩)
    | (go_at_call 11; (with_reducible refine (pop_head g4).mono ?_); rintro e w6 ⟨rfl, v6, g6, o6⟩)
    | (go_at_call 11; (with_reducible refine (pop_head g6).mono ?_); rintro e w7 ⟨rfl, v7, g7, o7⟩)
    | (go_at_call 11; (with_reducible refine (pop_head g7).mono ?_); rintro e w8 ⟨rfl, v8, g8, o8⟩)
    | (go_at_call 11; (with_reducible refine (pop_nil g8).mono ?_); rintro e w9 ⟨rfl, v9, g9, o9⟩))
  rw [← HQ.out]
  have hB := (Below.refl w.heap.size w).alloc (Nat.le_refl _) (.cells #[.slice none 0 0] 42)
  exact ⟨rfl, (((((((hB.trans (H0.out.stays o2)).trans (g2.stays o3)).trans (g3.stays o4)).trans (g4.stays o6)).trans (g6.stays o7)).trans (g7.stays o8)).trans (g8.stays o9))⟩
end Go.Proofs.Ytcaehjflfpnenaa.Hp
