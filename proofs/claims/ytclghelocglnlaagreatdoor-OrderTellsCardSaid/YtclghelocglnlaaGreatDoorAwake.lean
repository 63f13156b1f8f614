import Derived.Test.YtclghelocglnlaaGreatDoorToks
set_option maxHeartbeats 0
set_option maxRecDepth 100000
set_option linter.all false
namespace Go.Proofs.YtclghelocglnlaaGreatDoor.Lex
open Go.RowKit
theorem scan_sign {c:UInt8} (h:signB c=true) (rest:List UInt8) (n:Nat):scanL (c::rest) n=consR ⟨1,[c],0,0,n⟩ (scanL rest (n+1)):=by
 have hf:firstL (c::rest)=(⟨1,[c],0,0,0⟩,1):=by simp [firstL,h]
 rw [scanL_tok (l:=c::rest) (by simp) (sign_facts h).2.2 (by rw [hf];simp),hf]
 rfl
end Go.Proofs.YtclghelocglnlaaGreatDoor.Lex
