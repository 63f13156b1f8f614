import Derived.Test.YtclghelocglnlaaGreatDoorToks
set_option maxHeartbeats 0
set_option maxRecDepth 100000
set_option linter.all false
namespace Go.Proofs.YtclghelocglnlaaGreatDoor.Own
open Go.RowKit
theorem block_lt {w:World} {g:Nat} {o:Obj} (h:w.heap[g]?=some o):g < w.heap.size:=by
 rcases Nat.lt_or_ge g w.heap.size with h' | h'
 ·exact h'
 ·rw [Array.getElem?_eq_none h'] at h;cases h
theorem own_below {w w':World} {base:Nat} {e:TypeId} {size n:Nat} {v:Value} {xs:List Value} (h:w.ownsRow base e size v n xs) {B:Nat} (hb:Below B w w') (hB:w.heap.size<=B):w'.ownsRow base e size v n xs:=by
 refine ⟨h.1,?_⟩;rcases h.2 with hn | ⟨g,cap,cur,hv,hbg,hg,hr⟩
 ·exact .inl hn
 ·refine .inr ⟨g,cap,cur,hv,hbg,?_,hr⟩;have:=block_lt hg;rw [hb.block g (by omega)];exact hg
theorem own_apart {w:World} {b1 b2:Nat} {e1 e2:TypeId} {s1 s2 n1 n2:Nat} {v1 v2:Value} {x1 x2:List Value} (h1:w.ownsRow b1 e1 s1 v1 n1 x1) (h2:w.ownsRow b2 e2 s2 v2 n2 x2) (he:e1≠e2):
 v2.ownBlock=none∨v2.ownBlock≠v1.ownBlock:=by
 rcases h2.2 with ⟨rfl,_⟩ | ⟨g2,c2,u2,rfl,_,hg2,_⟩
 ·exact .inl rfl
 ·right
  rcases h1.2 with ⟨rfl,_⟩ | ⟨g1,c1,u1,rfl,_,hg1,_⟩
  ·simp [Value.ownBlock]
  ·simp only [Value.ownBlock,ne_eq,Option.some.injEq];rintro rfl;rw [hg1] at hg2;simp only [Option.some.injEq,Obj.cells.injEq] at hg2;exact he hg2.2.1
def OneAt {α:Type} (f:α->Value) (w:World) (v:Value) (l:List α):Prop:=
 (∃ao cap,v= .slice ao 0 cap/\l= [])∨
 (∃b cap,v= .slice (some ⟨b,0,none⟩) l.length cap/\l.length<=cap/\l.length<=9223372036854775807/\b < w.heap.size/\∀j (hj:j < l.length),w.cell? ⟨b,j,none⟩=some (f l[j]))
theorem OneAt.below {α:Type} {f:α->Value} {w w':World} {v:Value} {l:List α} (h:OneAt f w v l) {B:Nat} (hb:Below B w w') (hB:w.heap.size<=B):OneAt f w' v l:=by
 rcases h with h | ⟨b,cap,h1,h2,h3,h4,h5⟩
 ·exact .inl h
 ·exact .inr ⟨b,cap,h1,h2,h3,Nat.lt_of_lt_of_le h4 hb.size,fun j hj=>(hb.cell (by show b < B;omega)).trans (h5 j hj)⟩
theorem OneAt.form {α:Type} {f:α->Value} {w:World} {v:Value} {l:List α} (h:OneAt f w v l):
 ∃ao cap,v= .slice ao l.length cap/\(0 < l.length->∃b,ao=some ⟨b,0,none⟩/\b < w.heap.size/\∀j (hj:j < l.length),w.cell? ⟨b,j,none⟩=some (f l[j])):=by
 rcases h with ⟨ao,cap,rfl,rfl⟩ | ⟨b,cap,h1,h2,h3,h4,h5⟩
 ·exact ⟨ao,cap,rfl,fun h=>absurd h (by simp)⟩
 ·exact ⟨some ⟨b,0,none⟩,cap,h1,fun _=>⟨b,rfl,h4,h5⟩⟩
end Go.Proofs.YtclghelocglnlaaGreatDoor.Own
