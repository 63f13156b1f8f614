import Derived.Test.YtnpbkjmlmdpggaaYg
import Derived.Test.YtnpbkjmlmdpggaaGs
/- Reach. -/
set_option linter.unusedVariables false
set_option linter.unusedSimpArgs false
namespace Go.Proofs.Ytnpbkjmlmdpggaa.Ly
open Go.RowKit

/-- A row of bools that was made. -/
def ArrV (B : Nat) (c : List Bool) (z : Value) (w : World) : Prop := ∃ b, z = .pointer (some ⟨b, 0, none⟩) ∧ B ≤ b ∧ ArrAt w b 81 c
theorem ArrV.stable (B : Nat) (c : List Bool) : Stable (ArrV B c) := fun z w w' ⟨b, hz, h1, hb⟩ hB => ⟨b, hz, h1, hb.below hB hb.lt⟩
end Go.Proofs.Ytnpbkjmlmdpggaa.Ly
