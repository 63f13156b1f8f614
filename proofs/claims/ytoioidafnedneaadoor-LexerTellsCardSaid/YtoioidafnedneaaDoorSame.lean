import Derived.Test.YtoioidafnedneaaDoorToks
import Derived.BigQuiet
/- The contract of Same: lists of tokens that are the same. -/
set_option linter.unusedVariables false
set_option linter.unusedSimpArgs false
namespace Go.Proofs.YtoioidafnedneaaDoor.Lex
open Go.RowKit

set_option maxHeartbeats 1000000 in
theorem same_true (v1 v2 : Value) (l : List Tok) (w : World) (h1 : ToksAt w v1 l) (h2 : ToksAt w v2 l) : Calls Tryd.prog 10 #[v1, v2] w (Ret (.bool true) w) := by
  have key : ∀ a1 c1 a2 c2, v1 = .slice a1 l.length c1 → v2 = .slice a2 l.length c2 → l.length ≤ 9223372036854775807 → (0 < l.length → ∃ b1 b2, a1 = some ⟨b1, 0, none⟩ ∧ a2 = some ⟨b2, 0, none⟩ ∧ b1 < w.heap.size ∧ b2 < w.heap.size ∧
      (∀ j, j < l.length → TokIn w b1 (j * 5) (l.getD j tok0)) ∧ (∀ j, j < l.length → TokIn w b2 (j * 5) (l.getD j tok0))) → Calls Tryd.prog 10 #[v1, v2] w (Ret (.bool true) w) := by
    intro a1 c1 a2 c2 e1 e2 hl hT
    subst e1 e2
    have HT := Lib.hid hT
    clear h1 h2 hT
    generalize hn : l.length = n at *
    have HN := Lib.hid hn
    clear hn
    go_enter Tryd.func10, Tryd.ntmps10
    go_wp2
    go_loopw [5] (fun x wr => ∃ k : Nat, k ≤ n ∧ x = .int .i64 k ∧ Below w.heap.size w wr) (fun x _ => n - (intOf x).toNat)
    case atStart => exact ⟨0, Nat.zero_le _, rfl, Below.refl _ _⟩
    case round =>
      obtain ⟨k, hk, rfl, hb⟩ := hrel
      by_cases hlt : k < n
      · obtain ⟨b1, b2, rfl, rfl, hb1, hb2, hT1, hT2⟩ := HT.out (by omega)
        obtain ⟨x0, x1, x2, x3, x4⟩ := (hT1 k hlt).below hb hb1
        obtain ⟨y0, y1, y2, y3, y4⟩ := (hT2 k hlt).below hb hb2
        generalize l.getD k tok0 = T at *
        clear hT1 hT2 HT
        go_wp2_with fail
        go_quiet (fail)
        go_wp2_with fail
        go_roundw
        case rel => exact ⟨k + 1, by omega, by go_num, below_drewN hb _⟩
        case measure => simp [intOf]; omega
      · go_wp2_with fail
        go_ret
        exact ⟨rfl, hb⟩
  rcases h1 with ⟨a1, c1, rfl, rfl⟩ | ⟨b1, c1, rfl, _, hl, hb1, hT1⟩
  · rcases h2 with ⟨a2, c2, rfl, _⟩ | ⟨b2, c2, rfl, _, _, _, _⟩
    · exact key _ _ _ _ rfl rfl (by simp) (fun h => absurd h (by simp))
    · exact key _ _ _ _ rfl rfl (by simp) (fun h => absurd h (by simp))
  · rcases h2 with ⟨a2, c2, rfl, rfl⟩ | ⟨b2, c2, rfl, _, _, hb2, hT2⟩
    · exact key _ _ _ _ rfl rfl (by simp) (fun h => absurd h (by simp))
    · exact key _ _ _ _ rfl rfl hl (fun _ => ⟨b1, b2, rfl, rfl, hb1, hb2, hT1, hT2⟩)
end Go.Proofs.YtoioidafnedneaaDoor.Lex
