import Derived.Test.YtclghelocglnlaaGreatDoorMC
import Derived.Test.YtclghelocglnlaaGreatDoorMB
set_option maxHeartbeats 0
set_option maxRecDepth 100000
set_option linter.all false
namespace Go.Proofs.YtclghelocglnlaaGreatDoor.Js
open Go.RowKit Lex
def exJ:J:= .mk 7 0 0 [] [[97]] [.mk 6 0 0 [] [] [.mk 4 15 (-1) [] [] [],.mk 1 0 0 [] [] []]]
end Go.Proofs.YtclghelocglnlaaGreatDoor.Js
namespace Go.Proofs.YtclghelocglnlaaGreatDoor.Js
open Go.RowKit Lex
end Go.Proofs.YtclghelocglnlaaGreatDoor.Js
namespace Go.Proofs.YtclghelocglnlaaGreatDoor.Js
open Go.RowKit Lex
def NestAt (w:World) (bv:Nat) (o:Bool) (k:Nat):Prop:=∃k' m e t an nn cn ai ni ci,w.heap[bv]?=some (.cells #[.int .i64 k',.int .i64 m,.int .i64 e,.string t,.slice an nn cn,.slice ai ni ci] 49 (0,0))/\
 JA (fun b=>b≠bv) w (.agg #[.int .i64 k',.int .i64 m,.int .i64 e,.string t,.slice an nn cn,.slice ai ni ci]) (nestJ o k)
theorem put6_self {w:World} {b:Nat} {T:TypeId} {d0 d1 d2 d3 d4 d5:Value} (h:w.heap[b]?=some (.cells #[d0,d1,d2,d3,d4,d5] T (0,0))) (c0 c1 c2 c3 c4 c5:Value):(put6 w b 0 c0 c1 c2 c3 c4 c5).heap[b]?=some (.cells #[c0,c1,c2,c3,c4,c5] T (0,0)):=by
 unfold put6;have e1:=heap_setCell_same w b 0 _ T c0 h;have e2:=heap_setCell_same _ b (0+1) _ T c1 e1;have e3:=heap_setCell_same _ b (0+2) _ T c2 e2;have e4:=heap_setCell_same _ b (0+3) _ T c3 e3;have e5:=heap_setCell_same _ b (0+4) _ T c4 e4;have e6:=heap_setCell_same _ b (0+5) _ T c5 e5;rw [e6];rfl
section
variable {wr:World} {bv k:Nat} {k' m e:Int} {t:ByteArray} {an ai:Option Addr} {nn cn ni ci:Nat}
end
theorem below_put6' {w w1:World} {bres B:Nat} (h:Below B w w1) (hb:B<=bres) (c0 c1 c2 c3 c4 c5:Value):Below B w (put6 w1 bres 0 c0 c1 c2 c3 c4 c5):=by
 obtain ⟨p1,p2,p3⟩:=put6_os w1 bres 0 c0 c1 c2 c3 c4 c5;exact ⟨p1.trans h.os,p2.trans h.tape,p3.trans h.output,by rw [put6_size];exact h.size,fun k hk=>(put6_block w1 bres 0 c0 c1 c2 c3 c4 c5 k (by omega)).trans (h.block k hk)⟩
end Go.Proofs.YtclghelocglnlaaGreatDoor.Js
