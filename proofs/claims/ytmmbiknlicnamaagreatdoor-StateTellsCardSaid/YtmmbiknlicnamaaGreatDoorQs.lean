import Derived.Test.YtmmbiknlicnamaaGreatDoorSm
import Derived.Test.YtmmbiknlicnamaaGreatDoorDecB
import Derived.Lib.QuietBelow
import Derived.BigQuiet
set_option maxHeartbeats 8000000
set_option linter.unusedVariables false
set_option linter.unusedSimpArgs false
namespace Go.Proofs.YtmmbiknlicnamaaGreatDoor.Js
open Go.RowKit Lex Go.Sort
def Box2 (w : World) (c d : Array Value) (T : TypeId) (wr : World) : Prop := Below w.heap.size w wr ∧ wr.heap[w.heap.size]? = some (.cells c T (0,0)) ∧ wr.heap[w.heap.size + 1]? = some (.cells d T (0,0))
end Go.Proofs.YtmmbiknlicnamaaGreatDoor.Js
