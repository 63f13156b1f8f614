import Derived.Test.YtoioidafnedneaaGreatDoorGaps
import Derived.BigQuiet
/- The contract of Words: lists of tokens that are alike but for their places. -/
set_option linter.unusedVariables false
set_option linter.unusedSimpArgs false
namespace Go.Proofs.YtoioidafnedneaaGreatDoor.Lex
open Go.RowKit

set_option maxHeartbeats 2000000 in
theorem words_true (v1 v2 : Value) (l1 l2 : List Tok) (w : World) (h1 : ToksAt w v1 l1) (h2 : ToksAt w v2 l2) (h : Alike2 l1 l2) : Calls Tryz.prog 9 #[v1, v2] w (Ret (.bool true) w) := by
  obtain ⟨hl, hE⟩ := h
  have key : ∀ a1 c1 a2 c2, v1 = .slice a1 l1.length c1 → v2 = .slice a2 l1.length c2 → l1.length ≤ 9223372036854775807 → (0 < l1.length → ∃ b1 b2, a1 = some ⟨b1, 0, none⟩ ∧ a2 = some ⟨b2, 0, none⟩ ∧ b1 < w.heap.size ∧ b2 < w.heap.size ∧
      (∀ j, j < l1.length → TokIn w b1 (j * 5) (l1.getD j tok0)) ∧ (∀ j, j < l1.length → TokIn w b2 (j * 5) (l2.getD j tok0))) → Calls Tryz.prog 9 #[v1, v2] w (Ret (.bool true) w) := by
    intro a1 c1 a2 c2 e1 e2 hl' hT
    subst e1 e2
    have HT := Lib.hid hT
    have HE := Lib.hid hE
    clear h1 h2 hT hE hl
    generalize hn : l1.length = n at *
    have HN := Lib.hid hn
    clear hn
    go_enter Tryz.func9, Tryz.ntmps9
    go_wp2
    go_loopw [5] (fun x wr => ∃ k : Nat, k ≤ n ∧ x = .int .i64 k ∧ Below w.heap.size w wr) (fun x _ => n - (intOf x).toNat)
    case atStart => exact ⟨0, Nat.zero_le _, rfl, Below.refl _ _⟩
    case round =>
      obtain ⟨k, hk, rfl, hb⟩ := hrel
      by_cases hlt : k < n
      · obtain ⟨b1, b2, rfl, rfl, hb1, hb2, hT1, hT2⟩ := HT.out (by omega)
        obtain ⟨K, T, M, E, p, q, e1, e2⟩ := HE.out k hlt
        have z1 := (hT1 k hlt).below hb hb1
        have z2 := (hT2 k hlt).below hb hb2
        rw [e1] at z1
        rw [e2] at z2
        obtain ⟨x0, x1, x2, x3, x4⟩ := z1
        obtain ⟨y0, y1, y2, y3, y4⟩ := z2
        simp only at x0 x1 x2 x3 x4 y0 y1 y2 y3 y4
        clear hT1 hT2 HT HE e1 e2
        go_wp2_with fail
        go_quiet (fail)
        go_wp2_with fail
        go_roundw
        case rel => exact ⟨k + 1, by omega, by go_num, below_drewN hb _⟩
        case measure => simp [intOf]; omega
      · go_wp2_with fail
        go_ret
        exact ⟨rfl, hb⟩
  rcases h1 with ⟨a1, c1, rfl, rfl⟩ | ⟨b1, c1, rfl, _, hl1, hb1, hT1⟩
  · rcases h2 with ⟨a2, c2, rfl, _⟩ | ⟨b2, c2, rfl, _, _, _, _⟩
    · exact key _ _ _ _ rfl rfl (by simp) (fun h => absurd h (by simp))
    · exact key _ _ _ _ rfl (by rw [hl]) (by simp) (fun h => absurd h (by simp))
  · rcases h2 with ⟨a2, c2, rfl, rfl⟩ | ⟨b2, c2, rfl, _, _, hb2, hT2⟩
    · exact key _ _ _ _ rfl (by rw [hl]; rfl) hl1 (fun h => by rw [hl] at h; exact absurd h (by simp))
    · exact key _ _ _ _ rfl (by rw [hl]) hl1 (fun _ => ⟨b1, b2, rfl, rfl, hb1, hb2, hT1, fun j hj => hT2 j (by omega)⟩)
end Go.Proofs.YtoioidafnedneaaGreatDoor.Lex
