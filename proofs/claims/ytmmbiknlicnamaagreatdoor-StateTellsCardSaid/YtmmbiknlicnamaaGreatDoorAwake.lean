import Derived.Test.YtmmbiknlicnamaaGreatDoorToks
set_option maxHeartbeats 8000000
set_option linter.unusedVariables false
set_option linter.unusedSimpArgs false
namespace Go.Proofs.YtmmbiknlicnamaaGreatDoor.Lex
open Go.RowKit
theorem scan_sign {c : UInt8} (h : signB c = true) (rest : List UInt8) (n : Nat) : scanL (c :: rest) n = consR ⟨1,[c],0,0,n⟩ (scanL rest (n + 1)) := by
 have hf : firstL (c :: rest) = (⟨1,[c],0,0,0⟩,1) := by simp [firstL,h]
 rw [scanL_tok (l := c :: rest) (by simp) (sign_facts h).2.2 (by rw [hf];simp),hf]
 rfl
end Go.Proofs.YtmmbiknlicnamaaGreatDoor.Lex
