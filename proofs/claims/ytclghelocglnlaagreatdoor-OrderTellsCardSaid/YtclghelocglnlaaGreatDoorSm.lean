import Derived.Test.YtclghelocglnlaaGreatDoorRt2
set_option maxHeartbeats 0
set_option maxRecDepth 100000
set_option linter.all false
namespace Go.Proofs.YtclghelocglnlaaGreatDoor.Js
open Go.RowKit Lex
theorem two_old (w:World) (o1 o2:Obj):((w.alloc o1).alloc o2).heap[w.heap.size]?=some o1:=by
 rw [Below.heap_alloc _ _ _ (by simp)];exact heap_alloc_new w o1
theorem box_at {w w1:World} {B:Nat} (hb:Below B w w1) {b:Nat} {cs:Array Value} {T:TypeId} {f:Nat×Nat} (h:w.heap[b]?=some (.cells cs T f)) (hB:b < B) (i:Nat):w1.cell? ⟨b,i,none⟩=cs[i]?:=by
 rw [hb.cell (p:=⟨b,i,none⟩) hB];exact cell_of_row _ _ _ _ _ _ h
def ItemsAt (S:Nat->Prop) (w:World) (d:Nat) (ai:Option Addr) (is:List J):Prop:=
 0 < is.length->∃b off,ai=some ⟨b,off,none⟩/\S b/\b < w.heap.size/\∀i,i < is.length->∃u,LiesAt w b (off+i * 6) u/\JAt S w d u (is.getD i j0)
end Go.Proofs.YtclghelocglnlaaGreatDoor.Js
