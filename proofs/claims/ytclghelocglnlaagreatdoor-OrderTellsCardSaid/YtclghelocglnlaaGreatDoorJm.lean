import Derived.Test.YtclghelocglnlaaGreatDoorJs
import Derived.Test.YtclghelocglnlaaGreatDoorOwn
set_option maxHeartbeats 0
set_option maxRecDepth 100000
set_option linter.all false
namespace Go.Proofs.YtclghelocglnlaaGreatDoor.Js
open Go.RowKit Lex
def i64B (n:Int):Prop:= -9223372036854775808<=n/\n<=9223372036854775807
def txtB (t:List UInt8):Prop:=t.length<=1099511627776
def strW (t:List UInt8):Value:= .string ⟨t.toArray⟩
def StrsAt (S:Nat->Prop) (w:World) (v:Value) (ns:List (List UInt8)):Prop:=
 ∃ao cap,v= .slice ao ns.length cap/\ns.length<=cap/\ns.length<=8796093021952/\(∀n∈ns,txtB n)/\
  (0 < ns.length->∃b off,ao=some ⟨b,off,none⟩/\S b/\b < w.heap.size/\∀j,j < ns.length->w.cell? ⟨b,off+j,none⟩=some (strW (ns.getD j [])))
def aggC:Value->List Value
 | .agg a=>a.toList
 | _=> []
def LiesAt (w:World) (b off:Nat) (u:Value):Prop:=∀i c,(aggC u)[i]?=some c->w.cell? ⟨b,off+i,none⟩=some c
def jV (k m e:Int) (t:List UInt8) (nv iv:Value):Value:= .agg #[.int .i64 k,.int .i64 m,.int .i64 e,strW t,nv,iv]
def JAt (S:Nat->Prop) (w:World):Nat->Value->J->Prop
 | 0,_,_=>False
 | d+1,v,.mk k m e t ns is=>∃nv ai ci,v=jV k m e t nv (.slice ai is.length ci)/\i64B k/\i64B m/\i64B e/\txtB t/\StrsAt S w nv ns/\is.length<=ci/\is.length<=1599289640354/\
    (0 < is.length->∃b off,ai=some ⟨b,off,none⟩/\S b/\b < w.heap.size/\∀i,i < is.length->∃u,LiesAt w b (off+i * 6) u/\JAt S w d u (is.getD i j0))
def JA (S:Nat->Prop) (w:World) (v:Value) (j:J):Prop:=∃d,JAt S w d v j
def Any:Nat->Prop:=fun _=>True
theorem StrsAt.keep {S S':Nat->Prop} {w w':World} {v:Value} {ns:List (List UInt8)} (h:StrsAt S w v ns) (hS:∀b,S b->b < w.heap.size->S' b) (hk:∀b,S b->b < w.heap.size->w'.heap[b]?=w.heap[b]?) (hs:w.heap.size<=w'.heap.size):StrsAt S' w' v ns:=by
 obtain ⟨ao,cap,h1,h2,h3,h4,h5⟩:=h;refine ⟨ao,cap,h1,h2,h3,h4,fun hp=> ?_⟩;obtain ⟨b,off,e1,e2,e3,e4⟩:=h5 hp;exact ⟨b,off,e1,hS b e2 e3,Nat.lt_of_lt_of_le e3 hs,fun j hj=>(World.cell?_of_block (w:=w) (a:=⟨b,off+j,none⟩) (hk b e2 e3)).trans (e4 j hj)⟩
theorem LiesAt.keep {w w':World} {b off:Nat} {u:Value} (h:LiesAt w b off u) (hk:w'.heap[b]?=w.heap[b]?):LiesAt w' b off u:=
 fun i c hc=>(World.cell?_of_block (w:=w) (a:=⟨b,off+i,none⟩) hk).trans (h i c hc)
theorem JAt.keep {S S':Nat->Prop} {w w':World} (hS:∀b,S b->b < w.heap.size->S' b) (hk:∀b,S b->b < w.heap.size->w'.heap[b]?=w.heap[b]?) (hs:w.heap.size<=w'.heap.size):
 ∀{d:Nat} {v:Value} {j:J},JAt S w d v j->JAt S' w' d v j
 | 0,_,_,h=>h.elim
 | d+1,v,.mk k m e t ns is,h=>by
   obtain ⟨nv,ai,ci,h1,h2,h3,h4,h5,h6,h7,h8,h9⟩:=h;refine ⟨nv,ai,ci,h1,h2,h3,h4,h5,h6.keep hS hk hs,h7,h8,fun hp=> ?_⟩;obtain ⟨b,off,e1,e2,e3,e4⟩:=h9 hp;refine ⟨b,off,e1,hS b e2 e3,Nat.lt_of_lt_of_le e3 hs,fun i hi=> ?_⟩;obtain ⟨u,q1,q2⟩:=e4 i hi;exact ⟨u,q1.keep (hk b e2 e3),JAt.keep hS hk hs q2⟩
theorem JAt.deep {S:Nat->Prop} {w:World}:∀{d:Nat} {v:Value} {j:J},JAt S w d v j->∀{d':Nat},d<=d'->JAt S w d' v j
 | 0,_,_,h,_,_=>h.elim
 | d+1,v,.mk k m e t ns is,h,d',hd=>by
   obtain ⟨n,rfl⟩:∃n,d'=n+1:=⟨d' - 1,by omega⟩;obtain ⟨nv,ai,ci,h1,h2,h3,h4,h5,h6,h7,h8,h9⟩:=h;refine ⟨nv,ai,ci,h1,h2,h3,h4,h5,h6,h7,h8,fun hp=> ?_⟩;obtain ⟨b,off,e1,e2,e3,e4⟩:=h9 hp;refine ⟨b,off,e1,e2,e3,fun i hi=> ?_⟩;obtain ⟨u,q1,q2⟩:=e4 i hi;exact ⟨u,q1,JAt.deep q2 (by omega)⟩
theorem JAt.below {S:Nat->Prop} {w w':World} {d:Nat} {v:Value} {j:J} (h:JAt S w d v j) {B:Nat} (hb:Below B w w') (hB:w.heap.size<=B):JAt S w' d v j:=
 h.keep (fun _ h _=>h) (fun b _ hl=>hb.block b (by omega)) hb.size
theorem JA.below {S:Nat->Prop} {w w':World} {v:Value} {j:J} (h:JA S w v j) {B:Nat} (hb:Below B w w') (hB:w.heap.size<=B):JA S w' v j:=by
 obtain ⟨d,h⟩:=h;exact ⟨d,h.below hb hB⟩
theorem JA.any {S:Nat->Prop} {w:World} {v:Value} {j:J} (h:JA S w v j):JA Any w v j:=by
 obtain ⟨d,h⟩:=h;exact ⟨d,h.keep (fun _ _ _=>trivial) (fun _ _ _=>rfl) (Nat.le_refl _)⟩
theorem JAt.any {S:Nat->Prop} {w:World} {d:Nat} {v:Value} {j:J} (h:JAt S w d v j):JAt Any w d v j:=
 h.keep (fun _ _ _=>trivial) (fun _ _ _=>rfl) (Nat.le_refl _)
theorem StrsAt.below {S:Nat->Prop} {w w':World} {v:Value} {ns:List (List UInt8)} (h:StrsAt S w v ns) {B:Nat} (hb:Below B w w') (hB:w.heap.size<=B):StrsAt S w' v ns:=
 h.keep (fun _ h _=>h) (fun b _ hl=>hb.block b (by omega)) hb.size
theorem JAt.open_ {S:Nat->Prop} {w:World} {d:Nat} {v:Value} {k m e:Int} {t:List UInt8} {ns:List (List UInt8)} {is:List J} (h:JAt S w d v (.mk k m e t ns is)):
 ∃d' an cn ai ci,d=d'+1/\v= .agg #[.int .i64 k,.int .i64 m,.int .i64 e,.string ⟨t.toArray⟩,.slice an ns.length cn,.slice ai is.length ci]/\i64B k/\i64B m/\i64B e/\txtB t/\
  StrsAt S w (.slice an ns.length cn) ns/\ns.length<=cn/\ns.length<=8796093021952/\is.length<=ci/\is.length<=1599289640354/\
  (0 < is.length->∃b off,ai=some ⟨b,off,none⟩/\S b/\b < w.heap.size/\∀i,i < is.length->∃u,LiesAt w b (off+i * 6) u/\JAt S w d' u (is.getD i j0)):=by
 cases d with
 | zero=>exact h.elim
 | succ d=>
   obtain ⟨nv,ai,ci,h1,h2,h3,h4,h5,h6,h7,h8,h9⟩:=h;have h6':=h6;obtain ⟨an,cn,rfl,q2,q3,_⟩:=h6';exact ⟨d,an,cn,ai,ci,rfl,h1,h2,h3,h4,h5,h6,q2,q3,h7,h8,h9⟩
theorem LiesAt.six {w:World} {b off:Nat} {c0 c1 c2 c3 c4 c5:Value} (h:LiesAt w b off (.agg #[c0,c1,c2,c3,c4,c5])):
 w.cell? ⟨b,off,none⟩=some c0/\w.cell? ⟨b,off+1,none⟩=some c1/\w.cell? ⟨b,off+2,none⟩=some c2/\w.cell? ⟨b,off+3,none⟩=some c3/\w.cell? ⟨b,off+4,none⟩=some c4/\w.cell? ⟨b,off+5,none⟩=some c5:=
 ⟨h 0 c0 rfl,h 1 c1 rfl,h 2 c2 rfl,h 3 c3 rfl,h 4 c4 rfl,h 5 c5 rfl⟩
end Go.Proofs.YtclghelocglnlaaGreatDoor.Js
