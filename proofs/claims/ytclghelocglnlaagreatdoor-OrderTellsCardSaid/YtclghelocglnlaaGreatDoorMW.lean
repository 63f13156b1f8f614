import Derived.Test.YtclghelocglnlaaGreatDoorSm
set_option maxHeartbeats 0
set_option maxRecDepth 100000
set_option linter.all false
namespace Go.Proofs.YtclghelocglnlaaGreatDoor.Js
open Go.RowKit Lex
theorem ownF_below {w w':World} {base:Nat} {e:TypeId} {size n:Nat} {v:Value} {xs:List Value} (h:w.ownsRowF base e size v n xs) (hb:Below w.heap.size w w'):w'.ownsRowF base e size v n xs:=by
 refine ⟨h.1,?_⟩;rcases h.2 with hn | ⟨g,cap,cur,fz,hv,hbg,hg,hr⟩
 ·exact .inl hn
 ·exact .inr ⟨g,cap,cur,fz,hv,hbg,(hb.block g (Own.block_lt hg)).trans hg,hr⟩
theorem isB_below {B b:Nat} {bs:List Value} {w w':World} (h:Quo.IsB B b bs w) (hb:Below w.heap.size w w'):Quo.IsB B b bs w':=by
 rcases h with ⟨h1,v,h2,h3,h4⟩ | ⟨h1,v,h2,h3,h4⟩
 ·exact .inl ⟨h1,v,(hb.block b (Own.block_lt h2)).trans h2,ownF_below h3 hb,h4⟩
 ·exact .inr ⟨h1,v,(hb.block b (Own.block_lt h2)).trans h2,ownF_below h3 hb,h4⟩
theorem isB_of {B b:Nat} {bs:List Value} {w:World} (h:Quo.BAt B b bs w):Quo.IsB B b bs w:= .inr h
theorem isB_lt {B b:Nat} {bs:List Value} {w:World} (h:Quo.IsB B b bs w):b < w.heap.size:=by
 rcases h with ⟨h1,v,h2,h3,h4⟩ | ⟨h1,v,h2,h3,h4⟩ <;> exact Own.block_lt h2
theorem kept_below {b:Nat} {w w1 w':World} (h:Quo.Kept b w w1) (hb:Below w1.heap.size w1 w'):Quo.Kept b w w':=fun k o h1 h2 h3=>by
 have:=h k o h1 h2 h3;rw [hb.block k (Own.block_lt this)];exact this
theorem kept_cells {b k:Nat} {w w':World} {cs:Array Value} {T:TypeId} {f:Nat×Nat} (h:Quo.Kept b w w') (hk:w.heap[k]?=some (.cells cs T f)) (hb:k≠b) (hT:T≠5):w'.heap[k]?=some (.cells cs T f):=
 h k _ hk (by simpa using hb) (fun c fz e=>hT (by cases e;rfl))
theorem ws_of (B b:Nat) (acc l:List UInt8) (w:World) (h:Quo.IsB B b (Lib.byteCells acc) w) (hlen:acc.length+l.length<=70368744177664) (hBw:B<=w.heap.size):
 Calls Tryz.prog 82 #[.pointer (some ⟨b,0,none⟩),.string ⟨l.toArray⟩] w fun e w'=>∃x,e= .returned (.tuple #[x,.nilIface])/\Quo.BAt B b (Lib.byteCells (acc++l)) w'/\Below B w w'/\Quo.Kept b w w':=by
 refine (Quo.writeString_any B b (Lib.byteCells acc) ⟨l.toArray⟩ w h (by rw [Lib.byteCells_length,bs_size];omega) hBw).mono ?_;rintro e w' ⟨rfl,h1,h2,h3⟩;rw [Quo.cells_str] at h1;exact ⟨_,rfl,h1,h2,h3⟩
theorem wb_of (B b:Nat) (acc:List UInt8) (c:UInt8) (z:Int) (hz:(c.toNat:Int)=z) (w:World) (h:Quo.IsB B b (Lib.byteCells acc) w) (hlen:acc.length+1<=70368744177664) (hBw:B<=w.heap.size):
 Calls Tryz.prog 85 #[.pointer (some ⟨b,0,none⟩),.int .u8 z] w fun e w'=>e= .returned .nilIface/\Quo.BAt B b (Lib.byteCells (acc++ [c])) w'/\Below B w w'/\Quo.Kept b w w':=by
 subst hz;refine (Quo.writeByte_any B b (Lib.byteCells acc) c.toNat w h (by rw [Lib.byteCells_length];omega) hBw).mono ?_;rintro e w' ⟨rfl,h1,h2,h3⟩;rw [Quo.cells_byte] at h1;exact ⟨rfl,h1,h2,h3⟩
theorem quote_of (t:List UInt8) (w:World) (ht:txtB t) (hw:Quo.wholeB t=true):Calls Tryz.prog 120 #[.string ⟨t.toArray⟩] w (Ret (.tuple #[.string ⟨(Quo.quoteL t).toArray⟩,.bool true]) w):=by
 have hq:=Quo.qBody_len _ t (Nat.le_refl _);unfold txtB at ht;have:=Quo.quote_any ⟨t.toArray⟩ w (by rw [bs_size];omega) (by show (Quo.qBody t).length+16<=_;omega);rw [show (⟨t.toArray⟩:ByteArray).data.toList=t from rfl] at this;unfold Quo.quoV at this;rw [hw,if_pos rfl] at this;exact this
theorem wt_any (B b:Nat) (acc t:List UInt8) (w:World) (h:Quo.IsB B b (Lib.byteCells acc) w) (ht:txtB t) (hw:Quo.wholeB t=true) (hlen:acc.length+(Quo.quoteL t).length<=70368744177664) (hBw:B<=w.heap.size):
 Calls Tryz.prog 84 #[.pointer (some ⟨b,0,none⟩),.string ⟨t.toArray⟩] w (Quo.Wrote B b (acc++Quo.quoteL t) w):=by
 have Q:=Lib.hid (fun w=>quote_of t w ht hw);have HL:=Lib.hid hlen;generalize Quo.quoteL t=q at *
 go_enter Tryz.func84,Tryz.ntmps84
 go_wp2_with (first | (go_at_call 120;(with_reducible refine (Q.out _).mono ?_);rintro e1 w1 ⟨rfl,hb1⟩) | (go_at_call 82;(with_reducible refine (ws_of B b acc q _ (isB_below h hb1) HL.out (Nat.le_trans hBw hb1.size)).mono ?_);rintro e2 w2 ⟨x,rfl,h2,hb2,hk2⟩))
 go_end0
 exact ⟨rfl,h2,(hb1.mono hBw).trans hb2,(kept_below (Lib.OthersKept.refl _ _ _) hb1).trans hk2⟩
end Go.Proofs.YtclghelocglnlaaGreatDoor.Js
namespace Go.Proofs.YtclghelocglnlaaGreatDoor.Js
open Go.RowKit Lex
theorem six_of {w:World} {b:Nat} {T:TypeId} {f:Nat×Nat} {c0 c1 c2 c3 c4 c5:Value} (h:w.heap[b]?=some (.cells #[c0,c1,c2,c3,c4,c5] T f)):
 w.cell? ⟨b,0,none⟩=some c0/\w.cell? ⟨b,1,none⟩=some c1/\w.cell? ⟨b,2,none⟩=some c2/\w.cell? ⟨b,3,none⟩=some c3/\w.cell? ⟨b,4,none⟩=some c4/\w.cell? ⟨b,5,none⟩=some c5:=by
 have k:∀i,w.cell? ⟨b,i,none⟩=(#[c0,c1,c2,c3,c4,c5]:Array Value)[i]?:=fun i=>cell_of_row _ _ _ _ _ _ h
 exact ⟨k 0,k 1,k 2,k 3,k 4,k 5⟩
def WV (S:Nat->Prop) (W0:World) (b d dep:Nat):Prop:=∀(u:Value) (j:J) (acc:List UInt8) (w:World),JAt S W0 d u j->rightJ dep j=true->Quo.IsB W0.heap.size b (Lib.byteCells acc) w->Below W0.heap.size W0 w->
 acc.length+(printJ j).length<=70368744177664->Calls Tryz.prog 46 #[.pointer (some ⟨b,0,none⟩),u] w (Quo.Wrote W0.heap.size b (acc++printJ j) w)
theorem printL_step (o f:Bool) (ns:List (List UInt8)) (is:List J) (k:Nat) (h:k < is.length):printL o f (ns.drop k) (is.drop k)=
 (if f then [] else [44])++((if o then Quo.quoteL (ns.getD k [])++ [58] else [])++(printJ (is.getD k j0)++printL o false (ns.drop (k+1)) (is.drop (k+1)))):=by
 rw [List.drop_eq_getElem_cons h,printL,List.getD_eq_getElem?_getD,List.getD_eq_getElem?_getD,List.getElem?_eq_getElem h,Option.getD_some];rw [List.tail_drop]
 congr 4
 cases hd:ns.drop k with
 | nil=>rw [List.getElem?_eq_none (by simpa using hd)];rfl
 | cons y r=>
   have:ns[k]?=some y:=by
    have h1:=congrArg (fun l=>l[0]?) hd
    simpa using h1
   rw [this];rfl
theorem rightL_get {d:Nat} {is:List J} (h:rightL d is=true):∀k,k < is.length->rightJ d (is.getD k j0)=true:=by
 induction is with
 | nil=>intro k hk;simp at hk
 | cons x r ih=>
   rw [rightL,Bool.and_eq_true] at h;intro k hk
   cases k with
   | zero=>exact h.1
   | succ k=>exact ih h.2 k (by simpa using hk)
theorem wi_arr (S:Nat->Prop) (W0:World) (b d dep:Nat) (ih:WV S W0 b d dep) (m e:Int) (t:ByteArray) (nv:Value) (ai:Option Addr) (ci:Nat) (is:List J) (acc:List UInt8) (w:World)
 (hn:∃an nn cn,nv= .slice an nn cn) (hi:is.length<=1599289640354) (hit:ItemsAt S W0 d ai is) (hr:rightL dep is=true) (hB:Quo.BAt W0.heap.size b (Lib.byteCells acc) w) (hb:Below W0.heap.size W0 w) (hlen:acc.length+(printL false true [] is).length<=70368744177664):
 Calls Tryz.prog 86 #[.pointer (some ⟨b,0,none⟩),.agg #[.int .i64 6,.int .i64 m,.int .i64 e,.string t,nv,.slice ai is.length ci]] w (Quo.Wrote W0.heap.size b (acc++printL false true [] is) w):=by
 obtain ⟨an,nn,cn,rfl⟩:=hn;unfold ItemsAt at hit;have HI:=Lib.hid hit;have HR:=Lib.hid (rightL_get hr);have IH:=Lib.hid ih;have hbl:=isB_lt (.inr hB);clear hit hr ih;obtain ⟨L,HL⟩:∃L,Hid (acc++printL false true [] is=L):=⟨_,rfl⟩;have hLl:L.length<=70368744177664:=by rw [<-HL.out,List.length_append];exact hlen
 rw [HL.out];obtain ⟨n,HN⟩:∃n,Hid (is.length=n):=⟨_,rfl⟩;rw [HN.out] at hi⊢;have hsz0:=hb.size;clear hlen
 go_enter Tryz.func86,Tryz.ntmps86
 go_wp2
 go_loopw [9] (fun i wr=>∃(k:Nat) (A:List UInt8),k<=n/\i= .int .i64 k/\Quo.BAt W0.heap.size b (Lib.byteCells A) wr/\Below W0.heap.size w wr/\Quo.Kept b w wr/\
  wr.heap[w.heap.size]?=some (.cells #[.int .i64 6,.int .i64 m,.int .i64 e,.string t,.slice an nn cn,.slice ai n ci] 49 (0,0))/\Hid (L=A++printL false (k==0) [] (is.drop k))) (fun i _=>n - (intOf i).toNat)
 case atStart=>exact ⟨0,acc,Nat.zero_le _,rfl,hB.alloc _,(Below.refl _ _).alloc hsz0 _,(Lib.OthersKept.refl _ _ _).alloc _,heap_alloc_new w _,HL.out.symm⟩
 case round=>
  obtain ⟨k,A,hk,rfl,hA,hbw,hkw,hbox,HK⟩:=hrel;clear hB HL;have hAL:A.length<=L.length:=by rw [HK.out,List.length_append];omega
  by_cases hlt:k < n
  ·obtain ⟨b0,off,rfl,hS,hb0,hel⟩:=HI.out (by rw [HN.out];omega);obtain ⟨u,hu1,hu2⟩:=hel k (by rw [HN.out];exact hlt);obtain ⟨k',m',e',t',an',nn',cn',ai',ni',ci',rfl⟩:=jAt_form hu2;have hbr:=hb.trans hbw;obtain ⟨x0,x1,x2,x3,x4,x5⟩:=(hu1.keep (hbr.block b0 hb0)).six;have HS:=Lib.hid (printL_step false (k==0) [] is k (by rw [HN.out];exact hlt));rw [List.drop_nil,List.drop_nil] at HS;have hrj:=HR.out k (by rw [HN.out];exact hlt);have hbl2:b < wr.heap.size:=isB_lt (.inr hA);have hsz:W0.heap.size<=wr.heap.size:=hbr.size;have hxl:=Own.block_lt hbox;have C:=Lib.hid (fun acc w'=>IH.out _ (is.getD k j0) acc w' hu2 hrj);clear hel hu1 hu2 HI HR IH;generalize is.getD k j0=j at *
   have hLj:A.length+1+(printJ j).length<=L.length+1:=by
    rw [HK.out,HS.out];simp only [List.length_append];omega
   obtain ⟨c0,c1,c2,c3,c4,c5⟩:=six_of hbox;have tk1:(k+1==0)=false:=by simp
   by_cases hk0:k=0
   ·have t0:(k:Int)<=0:=(by omega);have tk:(k==0)=true:=(by simp;exact hk0);rw [tk] at HS HK;clear hk0 tk
    go_wp2_with (go_at_call 46;(with_reducible refine (C.out A _ (isB_of (hA.alloc _)) (hbr.alloc hsz _) (by omega)).mono ?_);rintro e1 w1 ⟨rfl,hA1,hb1,hk1⟩)
    go_roundw
    case rel=>exact ⟨k+1,A++printJ j,by omega,by go_num,hA1,(hbw.alloc hsz _).trans hb1,(hkw.alloc _).trans hk1,kept_cells hk1 (by rw [Below.heap_alloc _ _ _ hxl];exact hbox) (by omega) (by decide),by show _=_;rw [HK.out,HS.out,tk1];simp⟩
    case measure=>simp [intOf];omega
   ·have t0:(0:Int) < (k:Int):=(by omega);have tk:(k==0)=false:=(by simp;exact hk0);rw [tk] at HS HK
    have hLk:A.length+1+(printJ j).length<=L.length:=by
     rw [HK.out,HS.out];simp only [List.length_append,Bool.false_eq_true,if_false,List.length_cons,List.length_nil];omega
    go_wp2_with (first | (go_at_call 85;(with_reducible refine (wb_of W0.heap.size b A 44 44 rfl _ (isB_of (hA.alloc _)) (by omega) (by simp;omega)).mono ?_);rintro e1 w1 ⟨rfl,hA1,hb1,hk1⟩;have hbx1:=kept_cells hk1 ((Below.heap_alloc _ _ _ hxl).trans hbox) (by omega) (by decide);obtain ⟨y0,y1,y2,y3,y4,y5⟩:=six_of hbx1;have hit1:=kept_cells hk1 (heap_alloc_new wr _) (by omega) (by decide);obtain ⟨z0,z1,z2,z3,z4,z5⟩:=six_of hit1;have hbr1:=(hbr.alloc hsz _).trans hb1) | (go_at_call 46;(with_reducible refine (C.out (A++ [44]) _ (isB_of hA1) hbr1 (by rw [List.length_append];exact Nat.le_trans hLk hLl)).mono ?_);rintro e2 w2 ⟨rfl,hA2,hb2,hk2⟩))
    go_roundw
    case rel=>exact ⟨k+1,A++ [44]++printJ j,by omega,by go_num,hA2,((hbw.alloc hsz _).trans hb1).trans hb2,((hkw.alloc _).trans hk1).trans hk2,kept_cells hk2 hbx1 (by omega) (by decide),by show _=_;rw [HK.out,HS.out,tk1];simp⟩
    case measure=>simp [intOf];omega
  ·have HE:Hid (L=A):=by show _=_;rw [HK.out,List.drop_of_length_le (by rw [HN.out];omega),printL];simp
   go_wp2_with fail
   go_end0
   exact ⟨rfl,by rw [HE.out];exact hA,hbw,hkw⟩
end Go.Proofs.YtclghelocglnlaaGreatDoor.Js
