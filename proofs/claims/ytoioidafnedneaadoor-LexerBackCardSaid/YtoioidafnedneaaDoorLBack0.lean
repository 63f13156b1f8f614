import Derived.Test.YtoioidafnedneaaDoorWords
import Derived.Test.YtoioidafnedneaaDoorAwake
import Derived.BigQuiet
import Derived.Lib.QuietBelow
/- For the walk of the law LexerBack: what the tables say. -/
set_option linter.unusedVariables false
set_option linter.unusedSimpArgs false
namespace Go.Proofs.YtoioidafnedneaaDoor.Lex
open Go.RowKit Go.Sort
open Quo (pickS pickS_nonneg pickS_lt IntsAt textR)
open Own (own_below append_one OneAt oneAt_own)

theorem str_info : (Tryd.prog.info? 9).map (fun i => (i.zero, i.size, i.bytes)) = some (some (.string ⟨#[]⟩), 1, 16) := by kernel_rfl
theorem int_info : (Tryd.prog.info? 3).map (fun i => (i.zero, i.size, i.bytes)) = some (some (.int .i64 0), 1, 8) := by kernel_rfl
def strV (l : List UInt8) : Value := .string ⟨l.toArray⟩
def natV (n : Nat) : Value := .int .i64 n

end Go.Proofs.YtoioidafnedneaaDoor.Lex
