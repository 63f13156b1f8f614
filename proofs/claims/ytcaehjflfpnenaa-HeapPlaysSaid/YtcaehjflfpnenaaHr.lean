import Derived.Test.YtcaehjflfpnenaaHq
import Derived.Deep.DeepCutAuto
import Derived.Deep.CutRange
import Derived.Deep.CutBlock
/- The document's Push. -/
set_option linter.unusedVariables false
set_option linter.unusedSimpArgs false
namespace Go.Proofs.Ytcaehjflfpnenaa.Hp
open Go.RowKit

theorem ins_at (x : Pr) : ∀ {s : List Pr} {k : Nat}, k ≤ s.length → (∀ i, i < k → ltP (at' s i) x = true) → (k = s.length ∨ ltP (at' s k) x = false) → insP x s = s.take k ++ [x] ++ s.drop k
  | [], k, hk, _, _ => by
    obtain rfl : k = 0 := by simpa using hk
    rfl
  | y :: r, 0, _, _, h => by
    have h : ltP y x = false := by
      rcases h with h | h
      · simp at h
      · exact h
    unfold insP
    rw [h]
    rfl
  | y :: r, k + 1, hk, hl, h => by
    have h0 : ltP y x = true := hl 0 (by omega)
    unfold insP
    rw [if_pos h0, ins_at x (s := r) (k := k) (by simpa using hk) (fun i hi => hl (i + 1) (by omega)) (by
      rcases h with h | h
      · left; simpa using h
      · right; exact h)]
    rfl
def RPushRet (base : Nat) (w : World) (b : Nat) (s' : List Pr) (e : Ending) (w' : World) : Prop :=
  e = .returned (.tuple #[]) ∧ ∃ v', RfAt base w' b v' s' ∧ Only b none none w w'
theorem news1 {w : World} {B : Nat} {x : Pr} (h : w.heap[B]? = some (.cells #[.int .i64 x.1, .int .i64 x.2] 32 (0, 0))) : Src w (.slice (some ⟨B, 0, none⟩) 1 1) 1 [x] :=
  .inr ⟨B, 0, 1, _, _, rfl, Nat.le_refl _, rfl, h, fun j u hu => by
    rw [Nat.zero_add, cell_of_row w B j _ _ _ h]
    simpa [flat, pairC] using hu⟩
/-- Behind the three appends: what is stored is the row that was made. -/
theorem rpush_done {base b m : Nat} {w wc : World} {v vc : Value} {s s' : List Pr} (h : RfAt base w b v s) (hB : Below w.heap.size w wc) (hown : wc.ownsRow w.heap.size 32 2 vc m (flat s')) (hm : s'.length = m) (hsh : m ≤ 1000) :
    RfAt base (wc.setCell ⟨b, 0, none⟩ vc) b vc s' ∧ Only b none none w (wc.setCell ⟨b, 0, none⟩ vc) := by
  subst hm
  have h1 := h.below hB
  have h2 := rf_set h1 (src_own hown rfl) (fun e => by have := (hown.lt b e).1; have := h.lt; omega) hsh
  exact ⟨h2.1, ((Only.refl b none w).below hB).trans h2.2⟩

end Go.Proofs.Ytcaehjflfpnenaa.Hp
