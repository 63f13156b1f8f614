import Derived.Test.YtclghelocglnlaaGreatDoorScan
set_option maxHeartbeats 0
set_option maxRecDepth 100000
set_option linter.all false
namespace Go.Proofs.YtclghelocglnlaaGreatDoor.Lex
open Go.RowKit
structure TokIn (w:World) (b off:Nat) (x:Tok):Prop where
 c0:w.cell? ⟨b,off,none⟩=some (.int .i64 x.k)
 c1:w.cell? ⟨b,off+1,none⟩=some (.string ⟨x.t.toArray⟩)
 c2:w.cell? ⟨b,off+2,none⟩=some (.int .i64 x.m)
 c3:w.cell? ⟨b,off+3,none⟩=some (.int .i64 x.e)
 c4:w.cell? ⟨b,off+4,none⟩=some (.int .i64 x.p)
theorem TokIn.below {w w':World} {b off:Nat} {x:Tok} (h:TokIn w b off x) {B:Nat} (hb:Below B w w') (hlt:b < B):TokIn w' b off x:=
 ⟨(hb.cell hlt).trans h.c0,(hb.cell hlt).trans h.c1,(hb.cell hlt).trans h.c2,(hb.cell hlt).trans h.c3,(hb.cell hlt).trans h.c4⟩
def ToksAt (w:World) (v:Value) (l:List Tok):Prop:=
 (∃ao cap,v= .slice ao 0 cap/\l= [])∨
 (∃b cap,v= .slice (some ⟨b,0,none⟩) l.length cap/\l.length<=cap/\l.length<=9223372036854775807/\b < w.heap.size/\∀j,j < l.length->TokIn w b (j * 5) (l.getD j tok0))
theorem ToksAt.below {w w':World} {v:Value} {l:List Tok} (h:ToksAt w v l) {B:Nat} (hb:Below B w w') (hB:w.heap.size<=B):ToksAt w' v l:=by
 rcases h with h | ⟨b,cap,h1,h2,h3,h4,h5⟩
 ·exact .inl h
 ·exact .inr ⟨b,cap,h1,h2,h3,Nat.lt_of_lt_of_le h4 hb.size,fun j hj=>(h5 j hj).below hb (by omega)⟩
theorem flat_get (l:List Tok) (j i:Nat) (hj:j < l.length) (hi:i < 5):(l.flatMap cellsT)[j * 5+i]?=(cellsT (l.getD j tok0))[i]?:=by
 induction l generalizing j with
 | nil=>simp at hj
 | cons x l ih=>
   rw [List.flatMap_cons]
   cases j with
   | zero=>rw [List.getElem?_append_left (by show 0 * 5+i < 5;omega)];simp
   | succ j=>
     rw [List.getElem?_append_right (by show 5<=(j+1) * 5+i;omega),show (j+1) * 5+i - (cellsT x).length=j * 5+i by show (j+1) * 5+i - 5=_;omega];rw [ih j (by simpa using hj)];simp
theorem ToksOwn.at_ {w:World} {base:Nat} {v:Value} {l:List Tok} (h:ToksOwn w base v l):ToksAt w v l:=by
 rcases h.2 with ⟨rfl,hn⟩ | ⟨g,cap,cur,hv,hb,hg,hnc,hcm,hcs,htake⟩
 ·exact .inl ⟨none,0,rfl,List.length_eq_zero_iff.1 hn⟩
 ·refine .inr ⟨g,cap,hv,hnc,Nat.le_trans hnc (by unfold maxLen at hcm;omega),?_,fun j hj=> ?_⟩
  ·rcases Nat.lt_or_ge g w.heap.size with h' | h'
   ·exact h'
   ·rw [Array.getElem?_eq_none h'] at hg;cases hg
  ·have hc:∀i,i < 5->w.cell? ⟨g,j * 5+i,none⟩=(cellsT (l.getD j tok0))[i]?:=fun i hi=>by
    rw [cell_of_row w g _ cur _ _ hg,<-flat_get l j i hj hi,<-htake,List.getElem?_take,if_pos (by omega)];simp
   exact ⟨(hc 0 (by omega)).trans rfl,hc 1 (by omega),hc 2 (by omega),hc 3 (by omega),hc 4 (by omega)⟩
theorem bs_app (a b:List UInt8):((⟨a.toArray⟩:ByteArray)++⟨b.toArray⟩)=⟨(a++b).toArray⟩:=by
 apply ByteArray.ext
 simp
theorem bs_size (l:List UInt8):(⟨l.toArray⟩:ByteArray).size=l.length:=by rw [<-sz]
theorem scan_l (l:List UInt8) (w:World) (h:l.length<=maxLen):Calls Tryz.prog 66 #[.string ⟨l.toArray⟩] w (ScanRet (scanS l) w):=by
 have:=scan_any ⟨l.toArray⟩ w (by rw [bs_size];exact h)
 rwa [show (⟨l.toArray⟩:ByteArray).data.toList=l from rfl] at this
end Go.Proofs.YtclghelocglnlaaGreatDoor.Lex
