import Derived.Test.YtclghelocglnlaaGreatDoorSm
set_option maxHeartbeats 0
set_option maxRecDepth 100000
set_option linter.all false
namespace Go.Proofs.YtclghelocglnlaaGreatDoor.Js
open Go.RowKit Lex Go.Sort
def Box2 (w:World) (c d:Array Value) (T:TypeId) (wr:World):Prop:=Below w.heap.size w wr/\wr.heap[w.heap.size]?=some (.cells c T (0,0))/\wr.heap[w.heap.size+1]?=some (.cells d T (0,0))
theorem Box2.below {w:World} {c d:Array Value} {T:TypeId} {wr w':World} (h:Box2 w c d T wr) (hb:Below wr.heap.size wr w'):Box2 w c d T w':=
 ⟨h.1.trans (hb.mono h.1.size),(hb.block _ (Own.block_lt h.2.1)).trans h.2.1,(hb.block _ (Own.block_lt h.2.2)).trans h.2.2⟩
end Go.Proofs.YtclghelocglnlaaGreatDoor.Js
