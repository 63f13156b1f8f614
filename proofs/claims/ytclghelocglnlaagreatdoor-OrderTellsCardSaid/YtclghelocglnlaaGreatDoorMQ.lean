import Derived.Test.YtclghelocglnlaaGreatDoorMC
import Derived.Maps.OwnOps
import Derived.Maps.AppendAt
import Derived.Test.YtclghelocglnlaaGreatDoorMPl
set_option maxHeartbeats 0
set_option maxRecDepth 100000
set_option linter.all false
namespace Go.Proofs.YtclghelocglnlaaGreatDoor.Js
open Go.RowKit Lex
def TokQ (x:Tok):Prop:=(x.k=1/\∃c,x.t= [c])∨x.k=2∨x.k=3∨(x.k=4/\(x.t=nullL∨x.t=falseL∨x.t=trueL))∨x.k=5
def WordG (l:List Tok):Prop:=∀x∈l,TokQ x
theorem first_tokQ {l:List UInt8} (h:(firstL l).2≠0):TokQ (firstL l).1:=by
 unfold firstL at h⊢
 split at h
 ·simp at h
 ·rename_i c r
  split at h
  ·rename_i hs;rw [if_pos hs];exact .inl ⟨rfl,c,rfl⟩
  ·rename_i hs;rw [if_neg hs]
   split at h
   ·rename_i hq;rw [if_pos hq];unfold textL at h⊢
    split at h
    ·rename_i hu;rw [if_pos hu];exact .inr (.inl rfl)
    ·simp at h
   ·rename_i hq;rw [if_neg hq]
    split at h
    ·rename_i hd;rw [if_pos hd];unfold numberL at h⊢
     split at h
     ·rename_i hu;rw [if_pos hu];exact .inr (.inr (.inl rfl))
     ·simp at h
    ·rename_i hd;rw [if_neg hd]
     split at h
     ·rename_i hl;rw [if_pos hl];unfold wordL at h⊢
      split at h
      ·rename_i hu;rw [if_pos hu];refine .inr (.inr (.inr (.inl ⟨rfl,?_⟩)));simp only [threeB,Bool.or_eq_true,beq_iff_eq] at hu;rcases hu with (hu | hu) | hu
       ·exact .inr (.inr hu)
       ·exact .inr (.inl hu)
       ·exact .inl hu
      ·simp at h
     ·simp at h
theorem scan_tokQ {l:List UInt8} {n:Nat} {ts:List Tok} (h:scanL l n= .inr ts):WordG ts:=
 scan_ind (P:=fun _ _ ts=>WordG ts) (fun n x hx=>by rw [List.mem_singleton.1 hx];exact .inr (.inr (.inr (.inr rfl)))) (fun _ _ _ _ _ h=>h)
  (fun l n ts hne h0 ih x hx=>by
    rcases List.mem_cons.1 hx with rfl | hx
    ·exact first_tokQ h0
    ·exact ih x hx) l.length l n ts (Nat.le_refl _) h
structure Pa (w:World) (pb bt cap:Nat) (ts l:List Tok) (E:Int):Prop where
 blk:w.heap[pb]?=some (.cells #[.slice (some ⟨bt,0,none⟩) ts.length cap,.int .i64 ((ts.length - l.length:Nat):Int),.int .i64 E] 119 (0,0))
 toks:∀j,j < ts.length->TokIn w bt (j * 5) (ts.getD j tok0)
 ne:bt≠pb
 blt:bt < w.heap.size
 suf:l <:+ts
 fin:EndL l
 len:ts.length<=1000000
 good:AllG 1099511627776 ts
 word:WordG ts
theorem Pa.lt {w:World} {pb bt cap:Nat} {ts l:List Tok} {E:Int} (h:Pa w pb bt cap ts l E):pb < w.heap.size:=Own.block_lt h.blk
theorem Pa.keep {w w':World} {pb bt cap:Nat} {ts l:List Tok} {E:Int} (h:Pa w pb bt cap ts l E) (h1:w'.heap[pb]?=w.heap[pb]?) (h2:w'.heap[bt]?=w.heap[bt]?) (hs:w.heap.size<=w'.heap.size):Pa w' pb bt cap ts l E:=
 ⟨h1.trans h.blk,fun j hj=>by
   obtain ⟨a,b,c,d,e⟩:=h.toks j hj;have q:∀o,w'.cell? ⟨bt,o,none⟩=w.cell? ⟨bt,o,none⟩:=fun o=>World.cell?_of_block (w:=w) (a:=⟨bt,o,none⟩) h2
   exact ⟨(q _).trans a,(q _).trans b,(q _).trans c,(q _).trans d,(q _).trans e⟩,h.ne,Nat.lt_of_lt_of_le h.blt hs,h.suf,h.fin,h.len,h.good,h.word⟩
theorem Pa.below {w w':World} {pb bt cap:Nat} {ts l:List Tok} {E:Int} (h:Pa w pb bt cap ts l E) (hb:Below w.heap.size w w'):Pa w' pb bt cap ts l E:=
 h.keep (hb.block _ h.lt) (hb.block _ h.blt) hb.size
theorem Pa.chg {w w':World} {pb bt cap:Nat} {ts l:List Tok} {E:Int} {X:Nat->Prop} (h:Pa w pb bt cap ts l E) (hc:Chg X w w') (h1:¬X pb) (h2:¬X bt):Pa w' pb bt cap ts l E:=
 h.keep (hc.block _ h.lt h1) (hc.block _ h.blt h2) hc.size
theorem Pa.at_ {w:World} {pb bt cap:Nat} {ts l:List Tok} {x:Tok} {E:Int} (h:Pa w pb bt cap ts (x::l) E):ts.length - (x::l).length < ts.length/\ts.getD (ts.length - (x::l).length) tok0=x:=by
 obtain ⟨p,hp⟩:=h.suf;have hl:=congrArg List.length hp;rw [List.length_append] at hl;have he:ts.length - (x::l).length=p.length:=by omega
 refine ⟨by simp at hl⊢;omega,?_⟩;rw [he,<-hp,List.getD_eq_getElem?_getD,List.getElem?_append_right (Nat.le_refl _)];simp
theorem Pa.here {w:World} {pb bt cap:Nat} {ts l:List Tok} {x:Tok} {E:Int} (h:Pa w pb bt cap ts (x::l) E):TokIn w bt ((ts.length - (x::l).length) * 5) x:=by
 obtain ⟨h1,h2⟩:=h.at_;have hT:=h.toks _ h1
 rwa [h2] at hT
theorem three_of {w:World} {b:Nat} {T:TypeId} {f:Nat×Nat} {c0 c1 c2:Value} (h:w.heap[b]?=some (.cells #[c0,c1,c2] T f)):w.cell? ⟨b,0,none⟩=some c0/\w.cell? ⟨b,1,none⟩=some c1/\w.cell? ⟨b,2,none⟩=some c2:=by
 have k:∀i,w.cell? ⟨b,i,none⟩=(#[c0,c1,c2]:Array Value)[i]?:=fun i=>cell_of_row _ _ _ _ _ _ h
 exact ⟨k 0,k 1,k 2⟩
theorem Pa.set {w:World} {pb bt cap:Nat} {ts l l':List Tok} {E E':Int} (h:Pa w pb bt cap ts l E) {i:Nat} {v:Value} (hs:l' <:+ts) (hf:EndL l')
 (hb:(#[.slice (some ⟨bt,0,none⟩) ts.length cap,.int .i64 ((ts.length - l.length:Nat):Int),.int .i64 E]:Array Value).setIfInBounds i v=#[.slice (some ⟨bt,0,none⟩) ts.length cap,.int .i64 ((ts.length - l'.length:Nat):Int),.int .i64 E']):
 Pa (w.setCell ⟨pb,i,none⟩ v) pb bt cap ts l' E':=by
 refine ⟨?_,fun j hj=> ?_,h.ne,by simpa [World.setCell] using h.blt,hs,hf,h.len,h.good,h.word⟩
 ·simp only [World.setCell];rw [Array.getElem?_modify,if_pos rfl,h.blk];simp only [Option.map_some];rw [<-hb]
  rfl
 ·obtain ⟨a,b,c,d,e⟩:=h.toks j hj;have q:∀o v,(w.setCell ⟨pb,i,none⟩ v).cell? ⟨bt,o,none⟩=w.cell? ⟨bt,o,none⟩:=fun o v=>World.cell?_of_block (w:=w) (a:=⟨bt,o,none⟩) (Below.heap_setCell _ _ _ _ h.ne)
  exact ⟨(q _ _).trans a,(q _ _).trans b,(q _ _).trans c,(q _ _).trans d,(q _ _).trans e⟩
theorem Pa.next {w:World} {pb bt cap:Nat} {ts l:List Tok} {x:Tok} {E:Int} (h:Pa w pb bt cap ts (x::l) E) (hx:x.k≠5):
 Pa (w.setCell ⟨pb,1,none⟩ (.int .i64 (((ts.length - (x::l).length:Nat):Int)+1))) pb bt cap ts l E:=by
 have h1:=h.at_.1;have hl:=h.suf.length_le;simp at hl;refine h.set ((List.suffix_cons x l).trans h.suf) (h.fin.tail hx) ?_;rw [show (((ts.length - (x::l).length:Nat):Int)+1)=((ts.length - l.length:Nat):Int) by simp at h1⊢;omega]
 rfl
theorem Pa.err {w:World} {pb bt cap:Nat} {ts l:List Tok} {E:Int} (h:Pa w pb bt cap ts l E) (E':Int):Pa (w.setCell ⟨pb,2,none⟩ (.int .i64 E')) pb bt cap ts l E':=
 h.set h.suf h.fin rfl
theorem Pa.pos {w:World} {pb bt cap:Nat} {ts l:List Tok} {E:Int} (h:Pa w pb bt cap ts l E):ts.length - posOf w pb=l.length:=by
 unfold posOf;rw [(three_of h.blk).2.1];have:=h.suf.length_le;simp [intOf]
 omega
theorem chg_drewN {X:Nat->Prop} {a w:World} (h:Chg X a w) (n:Nat):Chg X a (w.drewN n):=h.trans (.of_below (below_drewN (Below.refl _ _) n))
theorem Pa.drewN {w:World} {pb bt cap:Nat} {ts l:List Tok} {E:Int} (h:Pa w pb bt cap ts l E) (n:Nat):Pa (w.drewN n) pb bt cap ts l E:=h.below (below_drewN (Below.refl _ _) n)
theorem is_any {w:World} {pb bt cap:Nat} {ts l:List Tok} {x:Tok} {E:Int} (h:Pa w pb bt cap ts (x::l) E) (c:UInt8) (s:ByteArray) (hs:(⟨#[c]⟩:ByteArray)=s):
 Calls Tryz.prog 109 #[.pointer (some ⟨pb,0,none⟩),.string s] w fun e w'=>e= .returned (.bool (decide (E=0) && sgB x c))/\Pa w' pb bt cap ts (if (decide (E=0) && sgB x c)=true then l else x::l) E/\Chg (·=pb) w w':=by
 subst hs;have HP:=Lib.hid h;have HX:=h.here;obtain ⟨x0,x1,-,-,-⟩:=HX;obtain ⟨r0,r1,r2⟩:=three_of h.blk;have hpl:=h.lt;have htl:=h.blt;have hle:=h.at_.1;have i1:((ts.length - (x::l).length:Nat):Int) < (ts.length:Int):=by omega
 have hln:=h.len;have pf:=free_of h.blk 1;have HN:=Lib.hid (fun hx n=>(h.drewN n).next (x:=x) hx);clear h;generalize hP:ts.length - (x::l).length=P at *;obtain ⟨NN,HNN⟩:∃N,Hid (ts.length=N):=⟨_,rfl⟩;rw [HNN.out] at i1 hln hle r0
 by_cases hE:E=0
 ·subst hE
  by_cases hk:x.k=1
  ·by_cases ht:x.t= [c]
   ·have hsg:sgB x c=true:=(by unfold sgB;simp [hk,ht]);rw [hsg,decide_eq_true rfl];rw [hk] at x0;rw [ht] at x1;have HK:Hid (x.k≠5):=(by show _≠_;omega);clear hk ht hsg
    go_enter Tryz.func109,Tryz.ntmps109
    go_wp2_with fail
    go_quiet (fail)
    go_wp2_with fail
    go_ret
    exact ⟨rfl,HN.out HK.out nq,Chg.setCell (X:=fun k=>k=pb) (chg_drewN (Chg.refl _ w) nq) (p:=⟨pb,1,none⟩) (.inl rfl) _⟩
   ·have hsg:sgB x c=false:=(by unfold sgB;simp [hk,ht]);have hne:(x.t== [c])=false:=(by simpa using ht);rw [hsg,Bool.and_false];rw [hk] at x0;clear hk ht hsg;generalize x.t=T at *
    go_enter Tryz.func109,Tryz.ntmps109
    go_wp2_with fail
    go_quiet (fail)
    go_wp2_with fail
    go_ret
    exact ⟨rfl,HP.out.drewN nq,chg_drewN (Chg.refl _ w) nq⟩
  ·have hsg:sgB x c=false:=by unfold sgB;simp [hk]
   have hne:((x.k:Int)==1)=false:=by simp;omega
   rw [hsg,Bool.and_false];clear hk hsg;generalize x.k=K at *
   go_enter Tryz.func109,Tryz.ntmps109
   go_wp2_with fail
   go_quiet (fail)
   go_wp2_with fail
   go_ret
   exact ⟨rfl,HP.out.drewN nq,chg_drewN (Chg.refl _ w) nq⟩
 ·have hne:(E==0)=false:=by simpa using hE
  rw [decide_eq_false hE,Bool.false_and];clear hE
  go_enter Tryz.func109,Tryz.ntmps109
  go_wp2_with fail
  go_quiet (fail)
  go_wp2_with fail
  go_ret
  exact ⟨rfl,HP.out.drewN nq,chg_drewN (Chg.refl _ w) nq⟩
def mustE (x:Tok) (c:UInt8) (E:Int):Int:=if E=0 then (if sgB x c=true then 0 else 40) else E
theorem must_any {w:World} {pb bt cap:Nat} {ts l:List Tok} {x:Tok} {E:Int} (h:Pa w pb bt cap ts (x::l) E) (c:UInt8) (s:ByteArray) (hs:(⟨#[c]⟩:ByteArray)=s):
 Calls Tryz.prog 110 #[.pointer (some ⟨pb,0,none⟩),.string s] w fun e w'=>e= .returned (.tuple #[])/\Pa w' pb bt cap ts (if (decide (E=0) && sgB x c)=true then l else x::l) (mustE x c E)/\Chg (·=pb) w w':=by
 have I1:=Lib.hid (is_any h c s hs);unfold mustE
 by_cases hE:E=0
 ·subst hE;rw [if_pos rfl]
  cases hsg:sgB x c with
  | true=>
    rw [hsg] at I1;simp only [decide_true,Bool.and_self,if_true] at I1⊢
    go_enter Tryz.func110,Tryz.ntmps110
    go_wp2_with (go_at_call 109;(with_reducible refine (I1.out).mono ?_);rintro e1 w1 ⟨rfl,hP1,hc1⟩)
    go_end0
    exact ⟨rfl,hP1,hc1⟩
  | false=>
    rw [hsg] at I1;simp only [Bool.and_false,Bool.false_eq_true,if_false] at I1⊢
    go_enter Tryz.func110,Tryz.ntmps110
    go_wp2_with (go_at_call 109;(with_reducible refine (I1.out).mono ?_);rintro e1 w1 ⟨rfl,hP1,hc1⟩;obtain ⟨r0,r1,r2⟩:=three_of hP1.blk;have pf:=free_of hP1.blk 2;have hpl:=hP1.lt;have HP1:=Lib.hid hP1;have HC1:=Lib.hid hc1;clear hP1 hc1)
    go_end0
    exact ⟨rfl,HP1.out.err 40,Chg.setCell (X:=fun k=>k=pb) HC1.out (p:=⟨pb,2,none⟩) (.inl rfl) _⟩
 ·rw [if_neg hE,decide_eq_false hE];rw [decide_eq_false hE] at I1;simp only [Bool.false_and,Bool.false_eq_true,if_false] at I1⊢;have hne:(E==0)=false:=by simpa using hE
  clear hE
  go_enter Tryz.func110,Tryz.ntmps110
  go_wp2_with (go_at_call 109;(with_reducible refine (I1.out).mono ?_);rintro e1 w1 ⟨rfl,hP1,hc1⟩;obtain ⟨r0,r1,r2⟩:=three_of hP1.blk;have HP1:=Lib.hid hP1;have HC1:=Lib.hid hc1;have hpl:=hP1.lt;clear hP1 hc1)
  go_end0
  exact ⟨rfl,HP1.out,HC1.out⟩
theorem has_any (S:Nat->Prop) (v:Value) (ns:List (List UInt8)) (n:List UInt8) (w:World) (h:StrsAt S w v ns):Calls Tryz.prog 111 #[v,.string ⟨n.toArray⟩] w (Ret (.bool (ns.contains n)) w):=by
 obtain ⟨ao,cap,rfl,_,hl,_,hc⟩:=h;have HC:=Lib.hid hc;clear hc;obtain ⟨N,HN⟩:∃N,Hid (ns.length=N):=⟨_,rfl⟩
 have HC2:Hid (∀k,k < N->∃b off,ao=some ⟨b,off,none⟩/\b < w.heap.size/\w.cell? ⟨b,off+k,none⟩=some (.string ⟨(ns.getD k []).toArray⟩)):=fun k hk=>by
  obtain ⟨b,off,h1,_,h2,h3⟩:=HC.out (by rw [HN.out];omega);exact ⟨b,off,h1,h2,h3 k (by rw [HN.out];exact hk)⟩
 clear HC;rw [HN.out] at hl⊢
 go_enter Tryz.func111,Tryz.ntmps111
 go_wp2_with fail
 go_loopw [5] (fun i wr=>∃k:Nat,k<=N/\i= .int .i64 k/\Hid ((ns.drop k).contains n=ns.contains n)/\w=wr) (fun i _=>N - (intOf i).toNat)
 case atStart=>exact ⟨0,Nat.zero_le _,rfl,rfl,rfl⟩
 case round=>
  obtain ⟨k,hk,rfl,HD,rfl⟩:=hrel
  by_cases hlt:k < N
  ·obtain ⟨b,off,rfl,hb,hcell⟩:=HC2.out k hlt;have HS:=Lib.hid (List.drop_eq_getElem_cons (l:=ns) (i:=k) (by rw [HN.out];exact hlt));have he:ns.getD k []=ns[k]'(by rw [HN.out];exact hlt):=by rw [List.getD_eq_getElem?_getD,List.getElem?_eq_getElem (by rw [HN.out];exact hlt)];rfl
   rw [he] at hcell;clear he;generalize ns[k]'(by rw [HN.out];exact hlt)=xn at *
   by_cases heq:(xn==n)=true
   ·have HEQ:=Lib.hid heq
    go_wp2_with fail
    go_ret
    refine ⟨?_,Below.refl _ _⟩;rw [<-HD.out,HS.out,List.contains_cons,show (n==xn)=true by have:=HEQ.out;simp at this⊢;exact this.symm]
    rfl
   ·have heq':(xn==n)=false:=(by simpa using heq);clear heq;have HEQ:=Lib.hid heq'
    go_wp2_with fail
    go_roundw
    case rel=>exact ⟨k+1,by omega,by go_num,by
     show _=_;rw [<-HD.out,HS.out,List.contains_cons,show (n==xn)=false by have:=HEQ.out;simp at this⊢;exact fun h=>this h.symm,Bool.false_or],trivial⟩
    case measure=>simp [intOf];omega
  ·obtain rfl:k=N:=by omega
   go_wp2_with fail
   go_ret
   refine ⟨?_,Below.refl _ _⟩;rw [<-HD.out,List.drop_eq_nil_of_le (by rw [HN.out];exact Nat.le_refl _)]
   rfl
end Go.Proofs.YtclghelocglnlaaGreatDoor.Js
namespace Go.Proofs.YtclghelocglnlaaGreatDoor.Js
open Go.RowKit Lex
def RVRet (w:World) (pb bt cap:Nat) (ts:List Tok) (n:Nat) (r:R) (e:Ending) (w':World):Prop:=
 ∃k m e1 t an nn cn ai ni ci,e= .returned (.agg #[.int .i64 k,.int .i64 m,.int .i64 e1,.string t,.slice an nn cn,.slice ai ni ci])/\Pa w' pb bt cap ts r.l r.er/\Chg (·=pb) w w'/\
  (r.er=0->JAt (fun b=>w.heap.size<=b) w' n (.agg #[.int .i64 k,.int .i64 m,.int .i64 e1,.string t,.slice an nn cn,.slice ai ni ci]) r.j)
def RValOk (n:Nat):Prop:=∀(w:World) (pb bt cap:Nat) (ts l:List Tok),Pa w pb bt cap ts l 0->Calls Tryz.prog 78 #[.pointer (some ⟨pb,0,none⟩),.int .i64 ((17 - n:Nat):Int)] w (RVRet w pb bt cap ts n (valS n l))
section
variable {base bv n:Nat} {k:Int} {nv iv:Value} {ns:List (List UInt8)} {vs:List Value} {acc:List J} {w1 wS w2:World} {g cp:Nat}
theorem item_frameQ (hgrow:wS.grownBy w2 iv.ownBlock) (hBS:Below w1.heap.size w1 wS) (u:Value):
 (∀b,b < w1.heap.size->some b≠iv.ownBlock->b≠bv->(w2.setCell ⟨bv,5,none⟩ u).heap[b]?=w1.heap[b]?)/\w1.heap.size<=(w2.setCell ⟨bv,5,none⟩ u).heap.size/\(w2.setCell ⟨bv,5,none⟩ u).os=w1.os/\(w2.setCell ⟨bv,5,none⟩ u).tape=w1.tape/\(w2.setCell ⟨bv,5,none⟩ u).output=w1.output:=by
 have hs:=hgrow.size;have hsS:=hBS.size;refine ⟨fun b hb h1 h2=> ?_,?_,hgrow.os.trans hBS.os,hgrow.tape.trans hBS.tape,hgrow.output.trans hBS.output⟩
 ·rw [Below.heap_setCell _ _ _ _ h2,hgrow.block b (by omega) h1,hBS.block b hb]
 ·simp only [World.setCell,Array.size_modify];omega
theorem step_itemQ (hO:Own2 base bv n k nv iv ns vs acc w1) (hgrow:wS.grownBy w2 iv.ownBlock) (hBS:Below w1.heap.size w1 wS) (hat:iv.ownBlock=some g∨w1.heap.size<=g)
 {c0 c1 c2 c3 c4 c5:Value} (hown:w2.ownsRow base 49 6 (.slice (some ⟨g,0,none⟩) (acc.length+1) cp) (acc.length+1) (vs.flatMap aggC++ [c0,c1,c2,c3,c4,c5]))
 {S:Nat->Prop} {j:J} (hJ:JAt S w1 n (.agg #[c0,c1,c2,c3,c4,c5]) j) (hq:∀b,S b->b < w1.heap.size->base<=b/\some b≠iv.ownBlock/\some b≠nv.ownBlock/\b≠bv):
 Own2 base bv n k nv (.slice (some ⟨g,0,none⟩) (acc.length+1) cp) ns (vs++ [.agg #[c0,c1,c2,c3,c4,c5]]) (acc++ [j]) (w2.setCell ⟨bv,5,none⟩ (.slice (some ⟨g,0,none⟩) (acc.length+1) cp)):=by
 obtain ⟨F1,F2,F3,F4,F5⟩:=item_frameQ (bv:=bv) (iv:=iv) hgrow hBS (.slice (some ⟨g,0,none⟩) (acc.length+1) cp);have hbl:=Own.block_lt hO.blk
 have hbg:bv≠g:=by
  rcases hat with h | h
  ·rintro rfl;exact hO.ine h
  ·omega
 have hsS:=hBS.size;have hne2:some bv≠iv.ownBlock:=fun h=>hO.ine h.symm
 have hb2:w2.heap[bv]?=w1.heap[bv]?:=by rw [hgrow.block bv (by omega) hne2,hBS.block bv hbl]
 have hnlt:∀b,nv.ownBlock=some b->b < w1.heap.size:=fun b hb=>(hO.nrow.lt b hb).2
 have hnapart:nv.ownBlock=none∨nv.ownBlock≠iv.ownBlock:=Own.own_apart hO.irow hO.nrow (by decide);refine ⟨set_cell5 (hb2.trans hO.blk) _,?_,?_,by simp [hO.vl],by simpa [Value.ownBlock] using Ne.symm hbg,hO.txt,fun i hi=> ?_⟩
 ·have:=ownsRow_setCell_other hown (a:=⟨bv,5,none⟩) (by simpa [Value.ownBlock] using Ne.symm hbg) (.slice (some ⟨g,0,none⟩) (acc.length+1) cp)
  simpa [aggC] using this
 ·refine ⟨hO.nrow.1,?_⟩;rcases hO.nrow.2 with hn | ⟨gn,cap,cur,hv,hbg',hg,hr⟩
  ·exact .inl hn
  ·refine .inr ⟨gn,cap,cur,hv,hbg',?_,hr⟩;have e1:nv.ownBlock=some gn:=by rw [hv];rfl
   rw [F1 gn (hnlt gn e1) ?_ ?_];exact hg
   ·intro h;rcases hnapart with h' | h'
    ·rw [h'] at e1;cases e1
    ·exact h' (e1.trans h)
   ·rintro rfl;have:=hO.blk;rw [hg] at this;cases this
 ·have hS:∀b,(base<=b/\some b≠iv.ownBlock/\some b≠nv.ownBlock/\b≠bv)->b < w1.heap.size->InS base bv nv (.slice (some ⟨g,0,none⟩) (acc.length+1) cp) b:=fun b hb hlt=>by
   refine ⟨hb.1,?_,hb.2.2.1,hb.2.2.2⟩;show some b≠some g;intro e
   cases e
   rcases hat with h | h
   ·exact hb.2.1 h.symm
   ·omega
  by_cases hia:i < acc.length
  ·have:=hO.items i hia;have e1:(vs++ [Value.agg #[c0,c1,c2,c3,c4,c5]]).getD i undef=vs.getD i undef:=by rw [List.getD_eq_getElem?_getD,List.getD_eq_getElem?_getD,List.getElem?_append_left (by rw [hO.vl];exact hia)]
   have e2:(acc++ [j]).getD i j0=acc.getD i j0:=by rw [List.getD_eq_getElem?_getD,List.getD_eq_getElem?_getD,List.getElem?_append_left hia]
   rw [e1,e2];exact this.keep (fun b hb hlt=>hS b hb hlt) (fun b hb hlt=>F1 b hlt hb.2.1 hb.2.2.2) F2
  ·have hi':i=acc.length:=by simp at hi;omega
   subst hi';have e1:(vs++ [Value.agg #[c0,c1,c2,c3,c4,c5]]).getD acc.length undef= .agg #[c0,c1,c2,c3,c4,c5]:=by rw [<-hO.vl,List.getD_eq_getElem?_getD,List.getElem?_append_right (Nat.le_refl _)];simp
   have e2:(acc++ [j]).getD acc.length j0=j:=by rw [List.getD_eq_getElem?_getD,List.getElem?_append_right (Nat.le_refl _)];simp
   rw [e1,e2];exact hJ.keep (fun b hb hlt=>hS b (hq b hb hlt) hlt) (fun b hb hlt=>F1 b hlt (hq b hb hlt).2.1 (hq b hb hlt).2.2.2) F2
end
structure PF (w:World) (pb:Nat) (wr:World):Prop where
 chg:Chg (·=pb) w wr
 bres:wr.heap[w.heap.size]?=some (.cells zero6 49 (0,0))
 sz:w.heap.size+3<=wr.heap.size
theorem PF.chgR {w:World} {pb:Nat} {wr w':World} (h:PF w pb wr) (hp:pb < w.heap.size) (hc:Chg (·=pb) wr w'):PF w pb w':=
 ⟨h.chg.trans hc,(hc.block _ (by have:=h.sz;omega) (by omega)).trans h.bres,Nat.le_trans h.sz hc.size⟩
def PV (w:World) (n:Nat) (K:Int) (ns:List (List UInt8)) (acc:List J) (wr:World):Prop:=∃nv iv vs,Own2 (w.heap.size+3) (w.heap.size+2) n K nv iv ns vs acc wr
theorem PV.chgR {w:World} {pb n:Nat} {K:Int} {ns:List (List UInt8)} {acc:List J} {wr w':World} (h:PV w n K ns acc wr) (hp:pb < w.heap.size) (hc:Chg (·=pb) wr w'):PV w n K ns acc w':=by
 obtain ⟨nv,iv,vs,hO⟩:=h;exact ⟨nv,iv,vs,hO.chgR hc (by omega) (by omega)⟩
def PB (w:World) (K:Int) (wr:World):Prop:=∃a nn c a' nn' c',wr.heap[w.heap.size+2]?=some (.cells #[.int .i64 K,.int .i64 0,.int .i64 0,.string ⟨#[]⟩,.slice a nn c,.slice a' nn' c'] 49 (0,0))
def PJ (w:World) (n:Nat) (K:Int) (j:J) (wr:World):Prop:=∃a nn c a' nn' c',wr.heap[w.heap.size+2]?=some (.cells #[.int .i64 K,.int .i64 0,.int .i64 0,.string ⟨#[]⟩,.slice a nn c,.slice a' nn' c'] 49 (0,0))/\
 JAt (fun b=>w.heap.size+3<=b) wr n (.agg #[.int .i64 K,.int .i64 0,.int .i64 0,.string ⟨#[]⟩,.slice a nn c,.slice a' nn' c']) j
theorem PV.pb {w:World} {n:Nat} {K:Int} {ns:List (List UInt8)} {acc:List J} {wr:World} (h:PV w n K ns acc wr):PB w K wr:=by
 obtain ⟨nv,iv,vs,hO⟩:=h;have hb:=hO.blk;obtain ⟨ao,c,rfl⟩:=own_slice hO.irow;obtain ⟨an,cn,rfl⟩:=own_slice hO.nrow;exact ⟨_,_,_,_,_,_,hb⟩
theorem PV.pj {w:World} {n:Nat} {K:Int} {ns:List (List UInt8)} {acc:List J} {wr:World} (h:PV w n K ns acc wr) (hK:i64B K) (hn:ns.length<=1000000) (ha:acc.length<=1000000):PJ w (n+1) K (.mk K 0 0 [] ns acc) wr:=by
 obtain ⟨nv,iv,vs,hO⟩:=h;have hb:=hO.blk;have hj:=hO.jat hK hn ha;obtain ⟨ao,c,rfl⟩:=own_slice hO.irow;obtain ⟨an,cn,rfl⟩:=own_slice hO.nrow;exact ⟨_,_,_,_,_,_,hb,hj⟩
theorem PB.chgR {w:World} {pb:Nat} {K:Int} {wr w':World} (h:PB w K wr) (hp:pb < w.heap.size) (hc:Chg (·=pb) wr w'):PB w K w':=by
 obtain ⟨a,nn,c,a',nn',c',h⟩:=h;exact ⟨a,nn,c,a',nn',c',(hc.block _ (Own.block_lt h) (by omega)).trans h⟩
theorem PJ.chgR {w:World} {pb n:Nat} {K:Int} {j:J} {wr w':World} (h:PJ w n K j wr) (hp:pb < w.heap.size) (hc:Chg (·=pb) wr w'):PJ w n K j w':=by
 obtain ⟨a,nn,c,a',nn',c',h,hj⟩:=h;exact ⟨a,nn,c,a',nn',c',(hc.block _ (Own.block_lt h) (by omega)).trans h,hj.keep (fun _ h _=>h) (fun b hb hl=>hc.block b hl (by omega)) hc.size⟩
theorem PJ.pb {w:World} {n:Nat} {K:Int} {j:J} {wr:World} (h:PJ w n K j wr):PB w K wr:=by
 obtain ⟨a,nn,c,a',nn',c',h,_⟩:=h;exact ⟨a,nn,c,a',nn',c',h⟩
structure PE (w:World) (pb bt cap:Nat) (ts:List Tok) (n:Nat) (K:Int) (r:R) (wr:World):Prop where
 pa:Pa wr pb bt cap ts r.l r.er
 pf:PF w pb wr
 blk:PB w K wr
 jat:r.er=0->PJ w n K r.j wr
theorem PE.chgR {w:World} {pb bt cap:Nat} {ts:List Tok} {n:Nat} {K:Int} {r:R} {wr w':World} (h:PE w pb bt cap ts n K r wr) (hp:pb < w.heap.size) (hc:Chg (fun _=>False) wr w'):PE w pb bt cap ts n K r w':=by
 have hc2:Chg (·=pb) wr w':=hc.mono (fun _ _ h=>h.elim);exact ⟨h.pa.chg hc (fun h=>h) (fun h=>h),h.pf.chgR hp hc2,h.blk.chgR hp hc2,fun he=>(h.jat he).chgR hp hc2⟩
section
variable {w:World} {pb bt cap n:Nat} {ts l:List Tok} {E:Int} {K:Int} {ns:List (List UInt8)} {acc:List J} {wq w1 wS w2:World} {nv iv:Value} {vs:List Value} {g cp:Nat} {c0 c1 c2 c3 c4 c5:Value} {j:J}
theorem item_leaves (hp:pb < w.heap.size) (hbt:bt < w.heap.size) (hF:PF w pb wq) (hO:Own2 (w.heap.size+3) (w.heap.size+2) n K nv iv ns vs acc wq) (hc1:Chg (·=pb) wq w1) (hP:Pa w1 pb bt cap ts l E) (hBS:Below w1.heap.size w1 wS) (hgrow:wS.grownBy w2 iv.ownBlock):
 Pa (w2.setCell ⟨w.heap.size+2,5,none⟩ (.slice (some ⟨g,0,none⟩) (acc.length+1) cp)) pb bt cap ts l E/\PF w pb (w2.setCell ⟨w.heap.size+2,5,none⟩ (.slice (some ⟨g,0,none⟩) (acc.length+1) cp))/\PB w K (w2.setCell ⟨w.heap.size+2,5,none⟩ (.slice (some ⟨g,0,none⟩) (acc.length+1) cp)):=by
 have h1:=hF.chgR hp hc1;have hO1:=hO.chgR hc1 (by omega) (by omega);have hsq:=hF.sz;have hs1:=hc1.size;obtain ⟨F1,F2,F3,F4,F5⟩:=item_frameQ (bv:=w.heap.size+2) (iv:=iv) hgrow hBS (.slice (some ⟨g,0,none⟩) (acc.length+1) cp);have hib:∀b,iv.ownBlock=some b->w.heap.size+3<=b/\b < w1.heap.size:=fun b hb=>hO1.irow.lt b hb
 refine ⟨hP.keep (F1 pb (by omega) (fun h=>by have:=(hib pb h.symm).1;omega) (by omega)) (F1 bt (by omega) (fun h=>by have:=(hib bt h.symm).1;omega) (by omega)) F2,⟨⟨F3.trans h1.chg.os,F4.trans h1.chg.tape,F5.trans h1.chg.output,by have:=h1.sz;omega,fun b hb hx=> ?_⟩,?_,by have:=h1.sz;omega⟩,?_⟩
 ·rw [F1 b (by omega) (fun h=>by have:=(hib b h.symm).1;omega) (by omega)];exact h1.chg.block b hb hx
 ·rw [F1 _ (by omega) (fun h=>by have:=(hib _ h.symm).1;omega) (by omega)];exact h1.bres
 ·have hb2:w2.heap[w.heap.size+2]?=w1.heap[w.heap.size+2]?:=by
   have hsS:=hBS.size;rw [hgrow.block _ (by omega) (fun h=>hO1.ine h.symm),hBS.block _ (by omega)]
  have hb:=set_cell5 (hb2.trans hO1.blk) (.slice (some ⟨g,0,none⟩) (acc.length+1) cp);obtain ⟨an,cn,rfl⟩:=own_slice hO1.nrow;exact ⟨_,_,_,_,_,_,hb⟩
theorem item_makes (hp:pb < w.heap.size) (hF:PF w pb wq) (hO:Own2 (w.heap.size+3) (w.heap.size+2) n K nv iv ns vs acc wq) (hc1:Chg (·=pb) wq w1) (hBS:Below w1.heap.size w1 wS) (hgrow:wS.grownBy w2 iv.ownBlock) (hat:iv.ownBlock=some g∨w1.heap.size<=g)
 (hown:w2.ownsRow (w.heap.size+3) 49 6 (.slice (some ⟨g,0,none⟩) (acc.length+1) cp) (acc.length+1) (vs.flatMap aggC++ [c0,c1,c2,c3,c4,c5]))
 (hJ:JAt (fun b=>wq.heap.size<=b) w1 n (.agg #[c0,c1,c2,c3,c4,c5]) j):PV w n K ns (acc++ [j]) (w2.setCell ⟨w.heap.size+2,5,none⟩ (.slice (some ⟨g,0,none⟩) (acc.length+1) cp)):=by
 have hO1:=hO.chgR hc1 (by omega) (by omega);have hsq:=hF.sz;have hib:∀b,iv.ownBlock=some b->w.heap.size+3<=b/\b < wq.heap.size:=fun b hb=>hO.irow.lt b hb
 have hnb:∀b,nv.ownBlock=some b->w.heap.size+3<=b/\b < wq.heap.size:=fun b hb=>hO.nrow.lt b hb
 exact ⟨nv,_,_,step_itemQ hO1 hgrow hBS hat hown hJ (fun b hb _=>⟨by omega,fun h=>by have:=(hib b h.symm).2;omega,fun h=>by have:=(hnb b h.symm).2;omega,by omega⟩)⟩
theorem name_leaves {nm:List UInt8} (hp:pb < w.heap.size) (hbt:bt < w.heap.size) (hF:PF w pb wq) (hO:Own2 (w.heap.size+3) (w.heap.size+2) n K nv iv ns vs acc wq) (hP:Pa wq pb bt cap ts l E) (hBS:Below wq.heap.size wq wS) (hgrow:wS.grownBy w2 nv.ownBlock) (hat:nv.ownBlock=some g∨wq.heap.size<=g) (ht:txtB nm)
 (hown:w2.ownsRow (w.heap.size+3) 9 1 (.slice (some ⟨g,0,none⟩) (ns.length+1) cp) (ns.length+1) (ns.map strW++ [strW nm])):
 Pa (w2.setCell ⟨w.heap.size+2,4,none⟩ (.slice (some ⟨g,0,none⟩) (ns.length+1) cp)) pb bt cap ts l E/\PF w pb (w2.setCell ⟨w.heap.size+2,4,none⟩ (.slice (some ⟨g,0,none⟩) (ns.length+1) cp))/\PV w n K (ns++ [nm]) acc (w2.setCell ⟨w.heap.size+2,4,none⟩ (.slice (some ⟨g,0,none⟩) (ns.length+1) cp)):=by
 have hsq:=hF.sz;obtain ⟨F1,F2,F3,F4,F5⟩:=name_frame (bv:=w.heap.size+2) (nv:=nv) hgrow hBS (.slice (some ⟨g,0,none⟩) (ns.length+1) cp);have hnb:∀b,nv.ownBlock=some b->w.heap.size+3<=b/\b < wq.heap.size:=fun b hb=>hO.nrow.lt b hb
 refine ⟨hP.keep (F1 pb (by omega) (fun h=>by have:=(hnb pb h.symm).1;omega) (by omega)) (F1 bt (by omega) (fun h=>by have:=(hnb bt h.symm).1;omega) (by omega)) F2,⟨⟨F3.trans hF.chg.os,F4.trans hF.chg.tape,F5.trans hF.chg.output,by omega,fun b hb hx=> ?_⟩,?_,by omega⟩,⟨_,iv,vs,step_name hO (by omega) hgrow hBS hat ht hown⟩⟩
 ·rw [F1 b (by omega) (fun h=>by have:=(hnb b h.symm).1;omega) (by omega)];exact hF.chg.block b hb hx
 ·rw [F1 _ (by omega) (fun h=>by have:=(hnb _ h.symm).1;omega) (by omega)];exact hF.bres
end
theorem PE.fin {w:World} {pb bt cap:Nat} {ts:List Tok} {n:Nat} {K:Int} {r:R} {wr:World} (h:PE w pb bt cap ts n K r wr) (hp:pb < w.heap.size) (hbt:bt < w.heap.size):
 ∃a nn c a' nn' c',wr.heap[w.heap.size+2]?=some (.cells #[.int .i64 K,.int .i64 0,.int .i64 0,.string ⟨#[]⟩,.slice a nn c,.slice a' nn' c'] 49 (0,0))/\
  ∀c0 c1 c2 c3 c4 c5,RVRet w pb bt cap ts n r (.returned (.agg #[.int .i64 K,.int .i64 0,.int .i64 0,.string ⟨#[]⟩,.slice a nn c,.slice a' nn' c'])) (put6 wr w.heap.size 0 c0 c1 c2 c3 c4 c5):=by
 have hP:∀c0 c1 c2 c3 c4 c5,Pa (put6 wr w.heap.size 0 c0 c1 c2 c3 c4 c5) pb bt cap ts r.l r.er:=fun c0 c1 c2 c3 c4 c5=>
  h.pa.keep (put6_block _ _ _ _ _ _ _ _ _ _ (by omega)) (put6_block _ _ _ _ _ _ _ _ _ _ (by omega)) (by rw [put6_size];exact Nat.le_refl _)
 have hC:∀c0 c1 c2 c3 c4 c5,Chg (·=pb) w (put6 wr w.heap.size 0 c0 c1 c2 c3 c4 c5):=fun c0 c1 c2 c3 c4 c5=>by
  obtain ⟨p1,p2,p3⟩:=put6_os wr w.heap.size 0 c0 c1 c2 c3 c4 c5;exact ⟨p1.trans h.pf.chg.os,p2.trans h.pf.chg.tape,p3.trans h.pf.chg.output,by rw [put6_size];exact h.pf.chg.size,fun k hk hx=>(put6_block _ _ _ _ _ _ _ _ _ _ (by omega)).trans (h.pf.chg.block k hk hx)⟩
 by_cases he:r.er=0
 ·obtain ⟨a,nn,c,a',nn',c',hb,hj⟩:=h.jat he;exact ⟨a,nn,c,a',nn',c',hb,fun c0 c1 c2 c3 c4 c5=>⟨_,_,_,_,_,_,_,_,_,_,rfl,hP _ _ _ _ _ _,hC _ _ _ _ _ _,fun _=>hj.keep (fun b hb _=>by omega) (fun b hb _=>put6_block _ _ _ _ _ _ _ _ _ _ (by omega)) (by rw [put6_size];exact Nat.le_refl _)⟩⟩
 ·obtain ⟨a,nn,c,a',nn',c',hb⟩:=h.blk;exact ⟨a,nn,c,a',nn',c',hb,fun c0 c1 c2 c3 c4 c5=>⟨_,_,_,_,_,_,_,_,_,_,rfl,hP _ _ _ _ _ _,hC _ _ _ _ _ _,fun h=>absurd h he⟩⟩
end Go.Proofs.YtclghelocglnlaaGreatDoor.Js
namespace Go.Proofs.YtclghelocglnlaaGreatDoor.Js
open Go.RowKit Lex
theorem rvalue_err {w:World} {pb bt cap:Nat} {ts l:List Tok} {E:Int} (h:Pa w pb bt cap ts l E) (hE:E≠0) (D:Int):
 Calls Tryz.prog 78 #[.pointer (some ⟨pb,0,none⟩),.int .i64 D] w fun e w'=>e= .returned (.agg #[.int .i64 0,.int .i64 0,.int .i64 0,.string ⟨#[]⟩,.slice none 0 0,.slice none 0 0])/\Below w.heap.size w w':=by
 obtain ⟨r0,r1,r2⟩:=three_of h.blk;have hpl:=h.lt;have hne:(E !=0)=true:=by simpa using hE
 have hB:=fun o=>((Below.refl w.heap.size w).alloc (Nat.le_refl _) o)
 have HB:=Lib.hid hB;clear h hE hB
 go_enter Tryz.func78,Tryz.ntmps78
 go_wp2_with fail
 exact bodyPost_ret (v:= .agg #[.int .i64 0,.int .i64 0,.int .i64 0,.string ⟨#[]⟩,.slice none 0 0,.slice none 0 0]) (by simp [results,Tryz.results78,go_sem]) rfl ⟨rfl,HB.out _⟩
theorem rv_done {w W0:World} {pb bt cap n:Nat} {ts:List Tok} {r:R} {k m e:Int} {t:ByteArray} {a a':Option Addr} {nn c nn' c':Nat} (hP:Pa W0 pb bt cap ts r.l r.er) (hc:Chg (·=pb) w W0)
 (hJ:r.er=0->∀w',JAt (fun b=>w.heap.size<=b) w' n (.agg #[.int .i64 k,.int .i64 m,.int .i64 e,.string t,.slice a nn c,.slice a' nn' c']) r.j) (o1 o2:Obj):
 RVRet w pb bt cap ts n r (.returned (.agg #[.int .i64 k,.int .i64 m,.int .i64 e,.string t,.slice a nn c,.slice a' nn' c'])) ((W0.alloc o1).alloc o2).drew:=by
 have hb:Below W0.heap.size W0 ((W0.alloc o1).alloc o2).drew:=(((Below.refl _ _).alloc (Nat.le_refl _) _).alloc (by simp) _).drew;exact ⟨_,_,_,_,_,_,_,_,_,_,rfl,hP.below hb,hc.trans (.of_below hb),fun he=>hJ he _⟩
theorem rvalue_five {w:World} {pb bt cap:Nat} {ts l:List Tok} {x:Tok} (h:Pa w pb bt cap ts (x::l) 0) (hx:x.k=5) (D:Int)  (n:Nat):
 Calls Tryz.prog 78 #[.pointer (some ⟨pb,0,none⟩),.int .i64 D] w (RVRet w pb bt cap ts n ⟨40,j0,x::l⟩):=by
 have HP:=Lib.hid h;obtain ⟨x0,x1,x2,x3,x4⟩:=h.here;obtain ⟨r0,r1,r2⟩:=three_of h.blk;have pf:=free_of h.blk 2;have pf1:=free_of h.blk 1;have hpl:=h.lt;have htl:=h.blt;have hle:=h.at_.1;have i1:((ts.length - (x::l).length:Nat):Int) < (ts.length:Int):=by omega
 have hln:=h.len;rw [hx] at x0;clear h;obtain ⟨P,HPP⟩:∃P,Hid (ts.length - (x::l).length=P):=⟨_,rfl⟩;rw [HPP.out] at hle i1 r1 x0 x1 x2 x3 x4;obtain ⟨NN,HNN⟩:∃N,Hid (ts.length=N):=⟨_,rfl⟩;rw [HNN.out] at i1 hln hle r0;generalize x.t=T at *;generalize x.m=M at *;generalize x.e=EE at *;generalize x.p=Q at *
 go_enter Tryz.func78,Tryz.ntmps78
 go_wp2_with fail
 go_region
 all_goals go_wp2_with fail
 exact bodyPost_ret (v:= .agg #[.int .i64 0,.int .i64 0,.int .i64 0,.string ⟨#[]⟩,.slice none 0 0,.slice none 0 0]) (by simp [results,Tryz.results78,go_sem]) rfl (rv_done (HP.out.err 40) (Chg.setCell (X:=fun k=>k=pb) (Chg.refl _ w) (p:=⟨pb,2,none⟩) (.inl rfl) _) (fun h=>absurd (show (40:Int)=0 from h) (by decide)) _ _)
theorem rvalue_sign {w:World} {pb bt cap:Nat} {ts l:List Tok} {x:Tok} (h:Pa w pb bt cap ts (x::l) 0) (hx:x.k=1) {c:UInt8} (hc:x.t= [c]) (h1:c≠91) (h2:c≠123) (D:Int)  (n:Nat):
 Calls Tryz.prog 78 #[.pointer (some ⟨pb,0,none⟩),.int .i64 D] w (RVRet w pb bt cap ts n ⟨40,j0,x::l⟩):=by
 have HP:=Lib.hid h;obtain ⟨x0,x1,x2,x3,x4⟩:=h.here;obtain ⟨r0,r1,r2⟩:=three_of h.blk;have pf:=free_of h.blk 2;have pf1:=free_of h.blk 1;have hpl:=h.lt;have htl:=h.blt;have hle:=h.at_.1;have i1:((ts.length - (x::l).length:Nat):Int) < (ts.length:Int):=by omega
 have hln:=h.len;rw [hx] at x0;rw [hc] at x1;have e1:([c]== [(91:UInt8)])=false:=by simpa using h1
 have e2:([c]== [(123:UInt8)])=false:=by simpa using h2
 clear h;obtain ⟨P,HPP⟩:∃P,Hid (ts.length - (x::l).length=P):=⟨_,rfl⟩;rw [HPP.out] at hle i1 r1 x0 x1 x2 x3 x4;obtain ⟨NN,HNN⟩:∃N,Hid (ts.length=N):=⟨_,rfl⟩;rw [HNN.out] at i1 hln hle r0;generalize x.m=M at *;generalize x.e=EE at *;generalize x.p=Q at *
 go_enter Tryz.func78,Tryz.ntmps78
 go_wp2_with fail
 go_region
 all_goals go_wp2_with fail
 exact bodyPost_ret (v:= .agg #[.int .i64 0,.int .i64 0,.int .i64 0,.string ⟨#[]⟩,.slice none 0 0,.slice none 0 0]) (by simp [results,Tryz.results78,go_sem]) rfl (rv_done (HP.out.err 40) (Chg.setCell (X:=fun k=>k=pb) (Chg.refl _ w) (p:=⟨pb,2,none⟩) (.inl rfl) _) (fun h=>absurd (show (40:Int)=0 from h) (by decide)) _ _)
theorem rdeep_text {w:World} {pb bt cap:Nat} {ts l:List Tok} {x:Tok} (h:Pa w pb bt cap ts (x::l) 0) (hx:x.k=2) (D:Int) (hD:16 < D) (n:Nat):
 Calls Tryz.prog 78 #[.pointer (some ⟨pb,0,none⟩),.int .i64 D] w (RVRet w pb bt cap ts n ⟨41,j0,x::l⟩):=by
 have HP:=Lib.hid h;obtain ⟨x0,x1,x2,x3,x4⟩:=h.here;obtain ⟨r0,r1,r2⟩:=three_of h.blk;have pf:=free_of h.blk 2;have pf1:=free_of h.blk 1;have hpl:=h.lt;have htl:=h.blt;have hle:=h.at_.1;have i1:((ts.length - (x::l).length:Nat):Int) < (ts.length:Int):=by omega
 have hln:=h.len;rw [hx] at x0;clear h;obtain ⟨P,HPP⟩:∃P,Hid (ts.length - (x::l).length=P):=⟨_,rfl⟩;rw [HPP.out] at hle i1 r1 x0 x1 x2 x3 x4;obtain ⟨NN,HNN⟩:∃N,Hid (ts.length=N):=⟨_,rfl⟩;rw [HNN.out] at i1 hln hle r0;generalize x.t=T at *;generalize x.m=M at *;generalize x.e=EE at *;generalize x.p=Q at *
 go_enter Tryz.func78,Tryz.ntmps78
 go_wp2_with fail
 go_region
 all_goals go_wp2_with fail
 exact bodyPost_ret (v:= .agg #[.int .i64 0,.int .i64 0,.int .i64 0,.string ⟨#[]⟩,.slice none 0 0,.slice none 0 0]) (by simp [results,Tryz.results78,go_sem]) rfl (rv_done (HP.out.err 41) (Chg.setCell (X:=fun k=>k=pb) (Chg.refl _ w) (p:=⟨pb,2,none⟩) (.inl rfl) _) (fun h=>absurd (show (41:Int)=0 from h) (by decide)) _ _)
theorem rdeep_num {w:World} {pb bt cap:Nat} {ts l:List Tok} {x:Tok} (h:Pa w pb bt cap ts (x::l) 0) (hx:x.k=3) (D:Int) (hD:16 < D) (n:Nat):
 Calls Tryz.prog 78 #[.pointer (some ⟨pb,0,none⟩),.int .i64 D] w (RVRet w pb bt cap ts n ⟨41,j0,x::l⟩):=by
 have HP:=Lib.hid h;obtain ⟨x0,x1,x2,x3,x4⟩:=h.here;obtain ⟨r0,r1,r2⟩:=three_of h.blk;have pf:=free_of h.blk 2;have pf1:=free_of h.blk 1;have hpl:=h.lt;have htl:=h.blt;have hle:=h.at_.1;have i1:((ts.length - (x::l).length:Nat):Int) < (ts.length:Int):=by omega
 have hln:=h.len;rw [hx] at x0;clear h;obtain ⟨P,HPP⟩:∃P,Hid (ts.length - (x::l).length=P):=⟨_,rfl⟩;rw [HPP.out] at hle i1 r1 x0 x1 x2 x3 x4;obtain ⟨NN,HNN⟩:∃N,Hid (ts.length=N):=⟨_,rfl⟩;rw [HNN.out] at i1 hln hle r0;generalize x.t=T at *;generalize x.m=M at *;generalize x.e=EE at *;generalize x.p=Q at *
 go_enter Tryz.func78,Tryz.ntmps78
 go_wp2_with fail
 go_region
 all_goals go_wp2_with fail
 exact bodyPost_ret (v:= .agg #[.int .i64 0,.int .i64 0,.int .i64 0,.string ⟨#[]⟩,.slice none 0 0,.slice none 0 0]) (by simp [results,Tryz.results78,go_sem]) rfl (rv_done (HP.out.err 41) (Chg.setCell (X:=fun k=>k=pb) (Chg.refl _ w) (p:=⟨pb,2,none⟩) (.inl rfl) _) (fun h=>absurd (show (41:Int)=0 from h) (by decide)) _ _)
theorem rdeep_word {w:World} {pb bt cap:Nat} {ts l:List Tok} {x:Tok} (h:Pa w pb bt cap ts (x::l) 0) (hx:x.k=4) (D:Int) (hD:16 < D) (n:Nat):
 Calls Tryz.prog 78 #[.pointer (some ⟨pb,0,none⟩),.int .i64 D] w (RVRet w pb bt cap ts n ⟨41,j0,x::l⟩):=by
 have HP:=Lib.hid h;obtain ⟨x0,x1,x2,x3,x4⟩:=h.here;obtain ⟨r0,r1,r2⟩:=three_of h.blk;have pf:=free_of h.blk 2;have pf1:=free_of h.blk 1;have hpl:=h.lt;have htl:=h.blt;have hle:=h.at_.1;have i1:((ts.length - (x::l).length:Nat):Int) < (ts.length:Int):=by omega
 have hln:=h.len;rw [hx] at x0;clear h;obtain ⟨P,HPP⟩:∃P,Hid (ts.length - (x::l).length=P):=⟨_,rfl⟩;rw [HPP.out] at hle i1 r1 x0 x1 x2 x3 x4;obtain ⟨NN,HNN⟩:∃N,Hid (ts.length=N):=⟨_,rfl⟩;rw [HNN.out] at i1 hln hle r0;generalize x.t=T at *;generalize x.m=M at *;generalize x.e=EE at *;generalize x.p=Q at *
 go_enter Tryz.func78,Tryz.ntmps78
 go_wp2_with fail
 go_region
 all_goals go_wp2_with fail
 exact bodyPost_ret (v:= .agg #[.int .i64 0,.int .i64 0,.int .i64 0,.string ⟨#[]⟩,.slice none 0 0,.slice none 0 0]) (by simp [results,Tryz.results78,go_sem]) rfl (rv_done (HP.out.err 41) (Chg.setCell (X:=fun k=>k=pb) (Chg.refl _ w) (p:=⟨pb,2,none⟩) (.inl rfl) _) (fun h=>absurd (show (41:Int)=0 from h) (by decide)) _ _)
theorem rdeep_arr {w:World} {pb bt cap:Nat} {ts l:List Tok} {x:Tok} (h:Pa w pb bt cap ts (x::l) 0) (hx:x.k=1) (hc:x.t= [91]) (D:Int) (hD:16 < D) (n:Nat):
 Calls Tryz.prog 78 #[.pointer (some ⟨pb,0,none⟩),.int .i64 D] w (RVRet w pb bt cap ts n ⟨41,j0,x::l⟩):=by
 have HP:=Lib.hid h;obtain ⟨x0,x1,x2,x3,x4⟩:=h.here;obtain ⟨r0,r1,r2⟩:=three_of h.blk;have pf:=free_of h.blk 2;have pf1:=free_of h.blk 1;have hpl:=h.lt;have htl:=h.blt;have hle:=h.at_.1;have i1:((ts.length - (x::l).length:Nat):Int) < (ts.length:Int):=by omega
 have hln:=h.len;rw [hx] at x0;rw [hc] at x1;clear h;obtain ⟨P,HPP⟩:∃P,Hid (ts.length - (x::l).length=P):=⟨_,rfl⟩;rw [HPP.out] at hle i1 r1 x0 x1 x2 x3 x4;obtain ⟨NN,HNN⟩:∃N,Hid (ts.length=N):=⟨_,rfl⟩;rw [HNN.out] at i1 hln hle r0;generalize x.m=M at *;generalize x.e=EE at *;generalize x.p=Q at *
 go_enter Tryz.func78,Tryz.ntmps78
 go_wp2_with fail
 go_region
 all_goals go_wp2_with fail
 exact bodyPost_ret (v:= .agg #[.int .i64 0,.int .i64 0,.int .i64 0,.string ⟨#[]⟩,.slice none 0 0,.slice none 0 0]) (by simp [results,Tryz.results78,go_sem]) rfl (rv_done (HP.out.err 41) (Chg.setCell (X:=fun k=>k=pb) (Chg.refl _ w) (p:=⟨pb,2,none⟩) (.inl rfl) _) (fun h=>absurd (show (41:Int)=0 from h) (by decide)) _ _)
theorem rdeep_obj {w:World} {pb bt cap:Nat} {ts l:List Tok} {x:Tok} (h:Pa w pb bt cap ts (x::l) 0) (hx:x.k=1) (hc:x.t= [123]) (D:Int) (hD:16 < D) (n:Nat):
 Calls Tryz.prog 78 #[.pointer (some ⟨pb,0,none⟩),.int .i64 D] w (RVRet w pb bt cap ts n ⟨41,j0,x::l⟩):=by
 have HP:=Lib.hid h;obtain ⟨x0,x1,x2,x3,x4⟩:=h.here;obtain ⟨r0,r1,r2⟩:=three_of h.blk;have pf:=free_of h.blk 2;have pf1:=free_of h.blk 1;have hpl:=h.lt;have htl:=h.blt;have hle:=h.at_.1;have i1:((ts.length - (x::l).length:Nat):Int) < (ts.length:Int):=by omega
 have hln:=h.len;rw [hx] at x0;rw [hc] at x1;clear h;obtain ⟨P,HPP⟩:∃P,Hid (ts.length - (x::l).length=P):=⟨_,rfl⟩;rw [HPP.out] at hle i1 r1 x0 x1 x2 x3 x4;obtain ⟨NN,HNN⟩:∃N,Hid (ts.length=N):=⟨_,rfl⟩;rw [HNN.out] at i1 hln hle r0;generalize x.m=M at *;generalize x.e=EE at *;generalize x.p=Q at *
 go_enter Tryz.func78,Tryz.ntmps78
 go_wp2_with fail
 go_region
 all_goals go_wp2_with fail
 exact bodyPost_ret (v:= .agg #[.int .i64 0,.int .i64 0,.int .i64 0,.string ⟨#[]⟩,.slice none 0 0,.slice none 0 0]) (by simp [results,Tryz.results78,go_sem]) rfl (rv_done (HP.out.err 41) (Chg.setCell (X:=fun k=>k=pb) (Chg.refl _ w) (p:=⟨pb,2,none⟩) (.inl rfl) _) (fun h=>absurd (show (41:Int)=0 from h) (by decide)) _ _)
theorem rleaf_text {w:World} {pb bt cap:Nat} {ts l:List Tok} {x:Tok} (h:Pa w pb bt cap ts (x::l) 0) (hx:x.k=2) (D:Int) (hD:D<=16) (n:Nat):
 Calls Tryz.prog 78 #[.pointer (some ⟨pb,0,none⟩),.int .i64 D] w (RVRet w pb bt cap ts (n+1) ⟨0,begunS x,l⟩):=by
 have HP:=Lib.hid h;obtain ⟨x0,x1,x2,x3,x4⟩:=h.here;obtain ⟨r0,r1,r2⟩:=three_of h.blk;have pf:=free_of h.blk 2;have pf1:=free_of h.blk 1;have hpl:=h.lt;have htl:=h.blt;have hle:=h.at_.1;have i1:((ts.length - (x::l).length:Nat):Int) < (ts.length:Int):=by omega
 have hln:=h.len
 have HJ:Hid (∀w',JAt (fun b=>w.heap.size<=b) w' (n+1) (.agg #[.int .i64 5,.int .i64 0,.int .i64 0,.string ⟨x.t.toArray⟩,.slice none 0 0,.slice none 0 0]) (begunS x)):=fun w'=>by
  have:=begun_jat (S:=fun b=>w.heap.size<=b) (w:=w') (d:=n) (h.good x (h.suf.mem (by simp)));unfold begunV bareV at this;have hb:begunS x= .mk 5 0 0 x.t [] []:=by unfold begunS;rw [if_pos hx]
  rw [hb] at this⊢;exact this
 have HN:=Lib.hid (h.next (x:=x) (by omega));rw [hx] at x0;clear h;obtain ⟨P,HPP⟩:∃P,Hid (ts.length - (x::l).length=P):=⟨_,rfl⟩;rw [HPP.out] at hle i1 r1 x0 x1 x2 x3 x4;obtain ⟨NN,HNN⟩:∃N,Hid (ts.length=N):=⟨_,rfl⟩;rw [HNN.out] at i1 hln hle r0;rw [HPP.out] at HN;generalize x.t=T at *;generalize x.m=M at *;generalize x.e=EE at *;generalize x.p=Q at *
 go_enter Tryz.func78,Tryz.ntmps78
 go_wp2_with fail
 go_region
 all_goals go_wp2_with fail
 exact bodyPost_ret (v:= .agg #[.int .i64 5,.int .i64 0,.int .i64 0,.string ⟨T.toArray⟩,.slice none 0 0,.slice none 0 0]) (by simp [results,Tryz.results78,go_sem]) rfl (rv_done HN.out (Chg.setCell (X:=fun k=>k=pb) (Chg.refl _ w) (p:=⟨pb,1,none⟩) (.inl rfl) _) (fun _ w'=>HJ.out w') _ _)
theorem rleaf_num {w:World} {pb bt cap:Nat} {ts l:List Tok} {x:Tok} (h:Pa w pb bt cap ts (x::l) 0) (hx:x.k=3) (D:Int) (hD:D<=16) (n:Nat):
 Calls Tryz.prog 78 #[.pointer (some ⟨pb,0,none⟩),.int .i64 D] w (RVRet w pb bt cap ts (n+1) ⟨0,begunS x,l⟩):=by
 have HP:=Lib.hid h;obtain ⟨x0,x1,x2,x3,x4⟩:=h.here;obtain ⟨r0,r1,r2⟩:=three_of h.blk;have pf:=free_of h.blk 2;have pf1:=free_of h.blk 1;have hpl:=h.lt;have htl:=h.blt;have hle:=h.at_.1;have i1:((ts.length - (x::l).length:Nat):Int) < (ts.length:Int):=by omega
 have hln:=h.len
 have HJ:Hid (∀w',JAt (fun b=>w.heap.size<=b) w' (n+1) (.agg #[.int .i64 4,.int .i64 x.m,.int .i64 x.e,.string ⟨#[]⟩,.slice none 0 0,.slice none 0 0]) (begunS x)):=fun w'=>by
  have:=begun_jat (S:=fun b=>w.heap.size<=b) (w:=w') (d:=n) (h.good x (h.suf.mem (by simp)));unfold begunV bareV at this;have hb:begunS x= .mk 4 x.m x.e [] [] []:=by unfold begunS;rw [if_neg (by omega),if_pos hx]
  rw [hb] at this⊢;exact this
 have HN:=Lib.hid (h.next (x:=x) (by omega));rw [hx] at x0;clear h;obtain ⟨P,HPP⟩:∃P,Hid (ts.length - (x::l).length=P):=⟨_,rfl⟩;rw [HPP.out] at hle i1 r1 x0 x1 x2 x3 x4;obtain ⟨NN,HNN⟩:∃N,Hid (ts.length=N):=⟨_,rfl⟩;rw [HNN.out] at i1 hln hle r0;rw [HPP.out] at HN;generalize x.t=T at *;generalize x.m=M at *;generalize x.e=EE at *;generalize x.p=Q at *
 go_enter Tryz.func78,Tryz.ntmps78
 go_wp2_with fail
 go_region
 all_goals go_wp2_with fail
 exact bodyPost_ret (v:= .agg #[.int .i64 4,.int .i64 M,.int .i64 EE,.string ⟨#[]⟩,.slice none 0 0,.slice none 0 0]) (by simp [results,Tryz.results78,go_sem]) rfl (rv_done HN.out (Chg.setCell (X:=fun k=>k=pb) (Chg.refl _ w) (p:=⟨pb,1,none⟩) (.inl rfl) _) (fun _ w'=>HJ.out w') _ _)
end Go.Proofs.YtclghelocglnlaaGreatDoor.Js
namespace Go.Proofs.YtclghelocglnlaaGreatDoor.Js
open Go.RowKit Lex
def dnN:Value->Nat->Nat
 | .bool true,_=>0
 | _,k=>1+k
theorem loop_start {w W0:World} {pb n:Nat} {K:Int} (hs:W0.heap.size=w.heap.size) (hc:Chg (·=pb) w W0) (o:Obj):
 PF w pb ((((W0.alloc (.cells zero6 49)).alloc o).alloc (.cells #[.int .i64 K,.int .i64 0,.int .i64 0,.string ⟨#[]⟩,.slice none 0 0,.slice none 0 0] 49)).drew)/\
 PV w n K [] [] ((((W0.alloc (.cells zero6 49)).alloc o).alloc (.cells #[.int .i64 K,.int .i64 0,.int .i64 0,.string ⟨#[]⟩,.slice none 0 0,.slice none 0 0] 49)).drew)/\
 Below W0.heap.size W0 ((((W0.alloc (.cells zero6 49)).alloc o).alloc (.cells #[.int .i64 K,.int .i64 0,.int .i64 0,.string ⟨#[]⟩,.slice none 0 0,.slice none 0 0] 49)).drew):=by
 have hb:Below W0.heap.size W0 ((((W0.alloc (.cells zero6 49)).alloc o).alloc (.cells #[.int .i64 K,.int .i64 0,.int .i64 0,.string ⟨#[]⟩,.slice none 0 0,.slice none 0 0] 49)).drew):=
  ((((Below.refl _ _).alloc (Nat.le_refl _) _).alloc (by simp) _).alloc (by simp;omega) _).drew
 have s3:((((W0.alloc (.cells zero6 49)).alloc o).alloc (.cells #[.int .i64 K,.int .i64 0,.int .i64 0,.string ⟨#[]⟩,.slice none 0 0,.slice none 0 0] 49)).drew).heap.size=w.heap.size+3:=by simp [hs]
 have e2:((W0.alloc (.cells zero6 49)).alloc o).heap.size=w.heap.size+2:=by simp [hs]
 refine ⟨⟨hc.trans (.of_below hb),?_,by omega⟩,⟨_,_,_,own2_new ?_⟩,hb⟩
 ·show ((((W0.alloc (.cells zero6 49)).alloc o).alloc (.cells #[.int .i64 K,.int .i64 0,.int .i64 0,.string ⟨#[]⟩,.slice none 0 0,.slice none 0 0] 49))).heap[w.heap.size]?=_;rw [<-hs,Below.heap_alloc _ _ _ (by rw [e2,hs];omega),Below.heap_alloc _ _ _ (by simp)];exact heap_alloc_new W0 _
 ·show ((((W0.alloc (.cells zero6 49)).alloc o).alloc (.cells #[.int .i64 K,.int .i64 0,.int .i64 0,.string ⟨#[]⟩,.slice none 0 0,.slice none 0 0] 49))).heap[w.heap.size+2]?=_;rw [<-e2];exact heap_alloc_new _ _
theorem sg_apart {y:Tok} {c d:UInt8} (h:sgB y c=true) (hd:c≠d):sgB y d=false:=by
 obtain ⟨_,ht⟩:=sgB_k h;unfold sgB;rw [ht];have:([c]== [d])=false:=by simpa using hd
 rw [this,Bool.and_false]
theorem rvalue_arr (n:Nat) (hn:n<=15) (ih:RValOk n) {w:World} {pb bt cap:Nat} {ts l:List Tok} {x:Tok} (h:Pa w pb bt cap ts (x::l) 0) (hx:x.k=1) (hc:x.t= [91]):
 Calls Tryz.prog 78 #[.pointer (some ⟨pb,0,none⟩),.int .i64 ((17 - (n+1):Nat):Int)] w (RVRet w pb bt cap ts (n+1) (arrS (valS n) l)):=by
 have hD:((17 - n:Nat):Int)=((17 - (n+1):Nat):Int)+1:=by omega
 have hD1:((17 - (n+1):Nat):Int)<=16:=by omega
 have hD0:(0:Int)<=((17 - (n+1):Nat):Int):=by omega
 have IH:Hid (∀(w':World) (l':List Tok),Pa w' pb bt cap ts l' 0->Calls Tryz.prog 78 #[.pointer (some ⟨pb,0,none⟩),.int .i64 (((17 - (n+1):Nat):Int)+1)] w' (RVRet w' pb bt cap ts n (valS n l'))):=fun w' l' hp=>by rw [<-hD];exact ih w' pb bt cap ts l' hp
 generalize ((17 - (n+1):Nat):Int)=D at *;clear hD ih;obtain ⟨y,l1,rfl⟩:=ex_cons (h.fin.tail (show x.k≠5 by omega));obtain ⟨x0,x1,x2,x3,x4⟩:=h.here;obtain ⟨r0,r1,r2⟩:=three_of h.blk;have pf1:=free_of h.blk 1;have hpl:=h.lt;have htl:=h.blt;have hle:=h.at_.1;have i1:((ts.length - (x::y::l1).length:Nat):Int) < (ts.length:Int):=by omega
 have hln:=h.len;have HN:=Lib.hid (h.next (x:=x) (by omega));have hsuf:=h.suf.length_le;have HSU:Hid ((y::l1).length<=ts.length):=by show _<=_;simp at hsuf⊢;omega
 rw [hx] at x0;rw [hc] at x1;clear h hsuf;obtain ⟨P,HPP⟩:∃P,Hid (ts.length - (x::y::l1).length=P):=⟨_,rfl⟩;rw [HPP.out] at hle i1 r1 x0 x1 x2 x3 x4 HN;obtain ⟨NN,HNN⟩:∃N,Hid (ts.length=N):=⟨_,rfl⟩;rw [HNN.out] at i1 hln hle r0;generalize x.m=M at *;generalize x.e=EE at *;generalize x.p=Q at *;have LS:=Lib.hid (loop_start (w:=w) (W0:=w.setCell ⟨pb,1,none⟩ (.int .i64 ((P:Int)+1))) (n:=n) (K:=6) (by simp [World.setCell]) (Chg.setCell (X:=fun k=>k=pb) (Chg.refl _ w) (p:=⟨pb,1,none⟩) (.inl rfl) _) (.cells #[.int .i64 1,.string ⟨#[91]⟩,.int .i64 M,.int .i64 EE,.int .i64 Q] 109));have IS:=Lib.hid (is_any (HN.out.below LS.out.2.2) 93 _ rfl);obtain ⟨RR,HRR⟩:∃RR,Hid (arrS (valS n) (y::l1)=RR):=⟨_,rfl⟩;rw [HRR.out];obtain ⟨i0,hi0,hz0,hz1,hz2⟩:=info_parts json_info
 have HRR2:Hid (RR=if sgB y 93=true then ⟨0,.mk 6 0 0 [] [] [],l1⟩ else arrL (valS n) (y::l1).length [] (y::l1)):=by
  show _=_;rw [<-HRR.out];rfl
 have hpl':pb < w.heap.size+2:=by omega
 have hnpb:¬pb=w.heap.size+2:=by omega
 generalize hsg:sgB y 93=sg at *;unfold zero6 at IS LS;clear HRR
 go_enter Tryz.func78,Tryz.ntmps78
 go_wp2_with fail
 go_region
 go_wp2_with (go_at_call 109;(with_reducible refine (IS.out).mono ?_);rintro e1 w1 ⟨rfl,hP1,hc1⟩)
 obtain ⟨hF0,hV0,-⟩:=LS.out;have hF1:=Lib.hid (hF0.chgR hpl hc1);have hV1:=Lib.hid (hV0.chgR hpl hc1);have HP1:=Lib.hid hP1;clear hF0 hV0 hP1 hc1 LS IS HN x0 x1 x2 x3 x4 r0 r1 r2 pf1 hle i1
 go_loopw [8] (fun d wr=>(∃(N:Nat) (acc:List J) (l':List Tok),d= .bool false/\Hid (Pa wr pb bt cap ts l' 0)/\Hid (PF w pb wr)/\Hid (PV w n 6 [] acc wr)/\Hid (RR=arrL (valS n) N acc l')/\l'.length<=N/\acc.length+l'.length<=ts.length)∨(d= .bool true/\Hid (PE w pb bt cap ts (n+1) 6 RR wr))) (fun d wr=>dnN d (ts.length - posOf wr pb))
 case atStart=>
  cases sg with
  | true=>
    have e:=HRR2.out;rw [if_pos rfl] at e;simp only [decide_true,Bool.and_self,if_true] at HP1;refine .inr ⟨rfl,?_⟩;show PE _ _ _ _ _ _ _ _ _;subst e;exact ⟨HP1.out,hF1.out,hV1.out.pb,fun _=>hV1.out.pj ⟨by decide,by decide⟩ (by simp) (by simp)⟩
  | false=>
    have e:=HRR2.out;rw [if_neg (by decide)] at e;simp only [Bool.and_false,Bool.false_eq_true,if_false] at HP1;exact .inl ⟨_,[],y::l1,rfl,HP1,hF1,hV1,e,Nat.le_refl _,by simpa using HSU.out⟩
 case round=>
  clear HRR2 HP1 hF1 hV1 hsg;rcases hrel with ⟨N,acc,l',rfl,HPa,HF,HV,HR,hN,hlen⟩ | ⟨rfl,HE⟩
  ·obtain ⟨y',l2,rfl⟩:=ex_cons HPa.out.fin;obtain ⟨N',rfl⟩:∃N',N=N'+1:=⟨N - 1,by simp at hN;omega⟩;have hpos:=HPa.out.pos;obtain ⟨q0,q1,q2⟩:=three_of HPa.out.blk;have hpr:=HPa.out.lt;obtain ⟨nv,iv,vs,hO⟩:=HV.out;have hsz:=HF.out.sz;have hblw:w.heap.size+2 < wr.heap.size:=by omega
   have hblw':w.heap.size+1+1 < wr.heap.size:=by omega
   obtain ⟨ao2,cap2,rfl⟩:=own_slice hO.irow;obtain ⟨y0,y1,y2,y3,y4,y5⟩:=six_of hO.blk;have HO:=Lib.hid hO;have hal:acc.length<=1000000:=by rw [HNN.out] at hlen;omega
   have IC:=Lib.hid (IH.out wr.drew _ (HPa.out.below (Below.refl _ _).drew));have HG:=Lib.hid (val_good n (y'::l2) HPa.out.fin);have HU:=Lib.hid (show arrL (valS n) (N'+1) acc (y'::l2)=_ from by rw [arrL]);unfold RVRet at IC;rw [show D+1=IntKind.i64.wrap (D+1) by rw [IntKind.wrap_i64];omega] at IC;generalize valS n (y'::l2)=S at *;obtain ⟨er,j,l3⟩:=S;simp only at IC HG HU;obtain ⟨z,l4,rfl⟩:=ex_cons HG.out.1;have HPS:=Lib.hid HPa.out.suf.length_le;clear hO IH HV
   go_wp2_with fail
   go_region_law (first
    | (go_simp;go_at_call 78;(with_reducible refine (IC.out).mono ?_);rintro e3 w3 ⟨k3,m3,e3',t3,an3,nn3,cn3,ai3,ni3,ci3,rfl,hP3,hc3,hJ3⟩;have hc3':Chg (fun k=>k=pb) wr w3:=(Chg.of_below ((Below.refl _ _).drew)).trans hc3;have hs3:=hc3'.size;have hl3:w.heap.size+2 < w3.heap.size:=(by omega);have hl3':w.heap.size+1+1 < w3.heap.size:=(by omega);have HO3:=Lib.hid (HO.out.chgR hc3' (by omega) (by omega));have y5':=(six_of HO3.out.blk).2.2.2.2.2;have yf:=free_of HO3.out.blk 5;have HNE:=Lib.hid HO3.out.ine)
    | (refine step_append_lies _ (by rfl) _ _ _ (by rfl) (w.heap.size+3) 49 i0 _ 6 88 Tryz.underlying47 hi0 hz0 hz1 hz2 rfl (by omega) _ acc.length (vs.flatMap aggC) (by rfl) (HO3.out.irow.alloc _) ⟨w3.heap.size,0,none⟩ 1 1 [.int .i64 k3,.int .i64 m3,.int .i64 e3',.string t3,.slice an3 nn3 cn3,.slice ai3 ni3 ci3] (by rfl) (by rfl) (World.news_of_block (cs:=#[.int .i64 k3,.int .i64 m3,.int .i64 e3',.string t3,.slice an3 nn3 cn3,.slice ai3 ni3 ci3]) (t:=49) (fr:=(0,0)) (heap_alloc_new _ _)) (by simp [Value.oneCell']) (by omega) (by unfold maxLen;omega) (by omega) (by simp;omega) (w3.heap.size+1) (by simp) ?_;intro g cp w4 hown hgrow hat hlt;have k5:=(hgrow.cell_far ⟨w.heap.size+2,5,none⟩ (by simp;omega) (fun h=>HNE.out h.symm)).trans ((World.cell?_of_block (w:=w3) (a:=⟨w.heap.size+2,5,none⟩) (Below.heap_alloc _ _ _ (by show w.heap.size+2 < w3.heap.size;omega))).trans y5');have kf:=(hgrow.frozen_far ⟨w.heap.size+2,5,none⟩ (by simp;omega) (fun h=>HNE.out h.symm)).trans ((World.frozen?_of_block (w:=w3) (a:=⟨w.heap.size+2,5,none⟩) (Below.heap_alloc _ _ _ (by show w.heap.size+2 < w3.heap.size;omega))).trans yf)))
   all_goals
    obtain ⟨hP5,hF5,hB5⟩:=item_leaves (g:=g) (cp:=cp) hpl htl HF.out HO.out hc3' hP3 ((Below.refl w3.heap.size w3).alloc (Nat.le_refl _) _) hgrow;have HF5:=Lib.hid hF5;have HB5:=Lib.hid hB5;have I44:=Lib.hid (is_any hP5 44 ⟨#[44]⟩ rfl);obtain ⟨hg1,hg2,hg3⟩:=HG.out;clear hP5 hF5 hB5 HPa y0 y1 y2 y3 y4 y5 y5' yf k5 kf q0 q1 q2 IC
    by_cases he:er=0
    ·subst he;have HV5:=Lib.hid (item_makes hpl HF.out HO.out hc3' ((Below.refl w3.heap.size w3).alloc (Nat.le_refl _) _) hgrow (hat.imp id (fun h=>by omega)) hown (hJ3 rfl));clear hown hgrow hat hlt HO3 HO hJ3 hP3 hc3 HF HNE;have hg4:=hg3 rfl
     cases h44:sgB z 44 with
     | true=>
       rw [h44] at I44;simp only [decide_true,Bool.and_self,if_true] at I44;have h93:=sg_apart h44 (show (44:UInt8)≠93 by decide)
       have HR2:Hid (RR=arrL (valS n) N' (acc++ [j]) l4):=by
        show _=_;rw [HR.out,HU.out,if_pos rfl];unfold moreS;simp only;rw [if_neg (by rw [h93];decide),if_pos h44]
       go_wp2_with (go_at_call 109;(with_reducible refine (I44.out).mono ?_);rintro e6 w6 ⟨rfl,hP6,hc6⟩)
       have hp6:=hP6.pos
       go_roundw
       case rel=>exact .inl ⟨N',acc++ [j],l4,rfl,hP6,HF5.out.chgR hpl hc6,HV5.out.chgR hpl hc6,HR2,by simp at hg4 hN;omega,by simp at hg4 hlen⊢;omega⟩
       case measure=>simp only [dnN];rw [hp6,hpos];simp at hg4⊢;omega
     | false=>
       rw [h44] at I44;simp only [Bool.and_false,Bool.false_eq_true,if_false] at I44
       cases h93:sgB z 93 with
       | true=>
         have HR2:Hid (RR=⟨0,.mk 6 0 0 [] [] (acc++ [j]),l4⟩):=by
          show _=_;rw [HR.out,HU.out,if_pos rfl];unfold moreS;simp only;rw [if_pos h93]
         go_wp2_with (first
          | (go_at_call 109;(with_reducible refine (I44.out).mono ?_);rintro e6 w6 ⟨rfl,hP6,hc6⟩;have M93:=must_any hP6 93 ⟨#[93]⟩ rfl;unfold mustE at M93;rw [h93,if_pos rfl,if_pos rfl] at M93;simp only [decide_true,Bool.and_self,if_true] at M93;have HM:=Lib.hid M93;clear M93)
          | (go_at_call 110;(with_reducible refine (HM.out).mono ?_);rintro e7 w7 ⟨rfl,hP7,hc7⟩))
         go_roundw
         case rel=>
          refine .inr ⟨rfl,?_⟩;show PE _ _ _ _ _ _ _ _ _;have hc67:=hc6.trans hc7;have hV7:=HV5.out.chgR hpl hc67;rw [HR2.out];exact ⟨hP7,HF5.out.chgR hpl hc67,hV7.pb,fun _=>hV7.pj ⟨by decide,by decide⟩ (by simp) (by simp at hlen⊢;have:=HNN.out;omega)⟩
         case measure=>simp only [dnN];omega
       | false=>
         have HR2:Hid (RR=⟨40,j0,z::l4⟩):=by
          show _=_;rw [HR.out,HU.out,if_pos rfl];unfold moreS;simp only;rw [if_neg (by rw [h93];decide),if_neg (by rw [h44];decide)]
         go_wp2_with (first
          | (go_at_call 109;(with_reducible refine (I44.out).mono ?_);rintro e6 w6 ⟨rfl,hP6,hc6⟩;have M93:=must_any hP6 93 ⟨#[93]⟩ rfl;unfold mustE at M93;rw [h93,if_pos rfl,if_neg (by decide)] at M93;simp only [Bool.and_false,Bool.false_eq_true,if_false] at M93;have HM:=Lib.hid M93;clear M93)
          | (go_at_call 110;(with_reducible refine (HM.out).mono ?_);rintro e7 w7 ⟨rfl,hP7,hc7⟩))
         go_roundw
         case rel=>
          refine .inr ⟨rfl,?_⟩;show PE _ _ _ _ _ _ _ _ _;have hc67:=hc6.trans hc7;rw [HR2.out];exact ⟨hP7,HF5.out.chgR hpl hc67,HB5.out.chgR hpl hc67,fun h=>absurd (show (40:Int)=0 from h) (by decide)⟩
         case measure=>simp only [dnN];omega
    ·have HR2:Hid (RR=⟨er,j0,z::l4⟩):=by
      show _=_;rw [HR.out,HU.out,if_neg he]
     rw [decide_eq_false he] at I44;simp only [Bool.false_and,Bool.false_eq_true,if_false] at I44;have HER:=Lib.hid he;clear hown hgrow hat hlt HO3 HO hJ3 hP3 hc3 HF HNE he
     go_wp2_with (first
      | (go_at_call 109;(with_reducible refine (I44.out).mono ?_);rintro e6 w6 ⟨rfl,hP6,hc6⟩;have M93:=must_any hP6 93 ⟨#[93]⟩ rfl;unfold mustE at M93;rw [if_neg HER.out,decide_eq_false HER.out] at M93;simp only [Bool.false_and,Bool.false_eq_true,if_false] at M93;have HM:=Lib.hid M93;clear M93)
      | (go_at_call 110;(with_reducible refine (HM.out).mono ?_);rintro e7 w7 ⟨rfl,hP7,hc7⟩))
     go_roundw
     case rel=>
      refine .inr ⟨rfl,?_⟩;show PE _ _ _ _ _ _ _ _ _;have hc67:=hc6.trans hc7;rw [HR2.out];exact ⟨hP7,HF5.out.chgR hpl hc67,HB5.out.chgR hpl hc67,fun h=>absurd h HER.out⟩
     case measure=>simp only [dnN];omega
  ·obtain ⟨a,nn,c,a',nn',c',hb,hfin⟩:=HE.out.fin hpl htl;obtain ⟨y0,y1,y2,y3,y4,y5⟩:=six_of hb;have hres:=HE.out.pf.bres;unfold zero6 at hres;obtain ⟨z0,z1,z2,z3,z4,z5⟩:=six_of hres;have g0:=free_of hres 0;have g1:=free_of hres 1;have g2:=free_of hres 2;have g3:=free_of hres 3;have g4:=free_of hres 4;have g5:=free_of hres 5;have HFIN:=Lib.hid hfin;have hlb:=Own.block_lt hb;clear hfin hb hres HE IH
   go_wp2_with fail
   refine bodyPost_ret (v:= .agg #[.int .i64 6,.int .i64 0,.int .i64 0,.string ⟨#[]⟩,.slice a nn c,.slice a' nn' c']) (by simp [results,Tryz.results78,go_sem,z0,z1,z2,z3,z4,z5]) rfl ?_;exact HFIN.out _ _ _ _ _ _
end Go.Proofs.YtclghelocglnlaaGreatDoor.Js
namespace Go.Proofs.YtclghelocglnlaaGreatDoor.Js
open Go.RowKit Lex
theorem RVRet.below {w:World} {pb bt cap n:Nat} {ts:List Tok} {r:R} {e:Ending} {w1 w2:World} (h:RVRet w pb bt cap ts n r e w1) (hb:Below w1.heap.size w1 w2):RVRet w pb bt cap ts n r e w2:=by
 obtain ⟨k,m,e1,t,an,nn,cn,ai,ni,ci,h1,h2,h3,h4⟩:=h;exact ⟨k,m,e1,t,an,nn,cn,ai,ni,ci,h1,h2.below hb,h3.trans (.of_below hb),fun he=>(h4 he).below hb (Nat.le_refl _)⟩
theorem own_strs {base bv n:Nat} {k:Int} {an:Option Addr} {cn:Nat} {iv:Value} {ns:List (List UInt8)} {vs:List Value} {acc:List J} {w:World} (h:Own2 base bv n k (.slice an ns.length cn) iv ns vs acc w) (hk:i64B k) (hn:ns.length<=1000000) (ha:acc.length<=1000000):
 StrsAt (fun b=>base<=b) w (.slice an ns.length cn) ns:=by
 obtain ⟨d',an',cn',ai,ci,_,hv,_,_,_,_,hs,_⟩:=(h.jat hk hn ha).open_;simp only [Value.agg.injEq,Array.mk.injEq,List.cons.injEq,Value.slice.injEq,true_and,and_true] at hv;obtain ⟨⟨rfl,rfl⟩,_⟩:=hv;exact hs
theorem obj_key {n:Nat} {D:Int} {pb bt cap:Nat} {ts:List Tok} (IH:∀(w':World) (l':List Tok),Pa w' pb bt cap ts l' 0->Calls Tryz.prog 78 #[.pointer (some ⟨pb,0,none⟩),.int .i64 D] w' (RVRet w' pb bt cap ts n (valS n l'))) (x y:Tok) (l2:List Tok) (hend:EndL (y::l2)) (hk:x.k=2)
 (ns:List (List UInt8)) (acc:List J) (N:Nat) (hns:ns.contains x.t=false):
 ∃lS ES S,(∀w',Pa w' pb bt cap ts (y::l2) 0->Calls Tryz.prog 110 #[.pointer (some ⟨pb,0,none⟩),.string ⟨#[58]⟩] w' fun e w''=>e= .returned (.tuple #[])/\Pa w'' pb bt cap ts lS ES/\Chg (·=pb) w' w'')/\
  (∀wz,Pa wz pb bt cap ts lS ES->Calls Tryz.prog 78 #[.pointer (some ⟨pb,0,none⟩),.int .i64 D] wz (RVRet wz pb bt cap ts n S))/\
  objL (valS n) (N+1) ns acc (x::y::l2)=(if S.er=0 then moreS 125 (.mk 7 0 0 [] (ns++ [x.t]) (acc++ [S.j])) (objL (valS n) N (ns++ [x.t]) (acc++ [S.j])) S.l else ⟨S.er,j0,S.l⟩)/\EndL S.l/\(S.er=0->S.l.length < l2.length):=by
 cases h58:sgB y 58 with
 | true=>
   have he2:=hend.tail (by rw [(sgB_k h58).1];decide);obtain ⟨g1,g2,g3⟩:=val_good n l2 he2;refine ⟨l2,0,valS n l2,fun w' hp=> ?_,fun wz hp=>IH wz l2 hp,?_,g1,g3⟩
   ·have:=must_any hp 58 ⟨#[58]⟩ rfl;unfold mustE at this;rw [h58,if_pos rfl,if_pos rfl] at this
    simpa only [decide_true,Bool.and_self,if_true] using this
   ·rw [objL,name_yes hk hns h58];simp only;rw [if_pos trivial]
 | false=>
   refine ⟨y::l2,40,⟨40,j0,y::l2⟩,fun w' hp=> ?_,fun wz hp=> ?_,?_,hend,fun h=>absurd (show (40:Int)=0 from h) (by decide)⟩
   ·have:=must_any hp 58 ⟨#[58]⟩ rfl;unfold mustE at this;rw [h58,if_pos rfl,if_neg (by decide)] at this
    simpa only [Bool.and_false,Bool.false_eq_true,if_false] using this
   ·refine (rvalue_err hp (by decide) D).mono ?_;rintro e w' ⟨rfl,hb⟩;exact ⟨_,_,_,_,_,_,_,_,_,_,rfl,hp.below hb,.of_below hb,fun h=>absurd (show (40:Int)=0 from h) (by decide)⟩
   ·rw [objL,name_bad hk hns h58];simp only;rw [if_neg (by decide),if_neg (by decide)]
theorem obj_no {n N:Nat} {ns:List (List UInt8)} {acc:List J} {x:Tok} {l:List Tok} (h:x.k≠2):objL (valS n) (N+1) ns acc (x::l)=⟨40,j0,x::l⟩:=by
 rw [objL,name_no h];simp only;rw [if_neg (by decide)]
theorem obj_twice {n N:Nat} {ns:List (List UInt8)} {acc:List J} {x:Tok} {l:List Tok} (h:x.k=2) (hs:ns.contains x.t=true):objL (valS n) (N+1) ns acc (x::l)=⟨42,j0,x::l⟩:=by
 rw [objL,name_twice h hs];simp only;rw [if_neg (by decide)]
theorem brk {w wr w2:World} {pb bt cap n:Nat} {ts l:List Tok} {K:Int} (hp:pb < w.heap.size) (hbt:bt < w.heap.size) (hP:Pa wr pb bt cap ts l 0) (hF:PF w pb wr) (hB:PB w K wr) (hb2:Below wr.heap.size wr w2) (E:Int) (hE:E≠0):
 ∃a nn c a' nn' c',w2.heap[w.heap.size+2]?=some (.cells #[.int .i64 K,.int .i64 0,.int .i64 0,.string ⟨#[]⟩,.slice a nn c,.slice a' nn' c'] 49 (0,0))/\w2.heap[w.heap.size]?=some (.cells zero6 49 (0,0))/\
  w2.heap[pb]?=some (.cells #[.slice (some ⟨bt,0,none⟩) ts.length cap,.int .i64 ((ts.length - l.length:Nat):Int),.int .i64 0] 119 (0,0))/\
  ∀c0 c1 c2 c3 c4 c5,RVRet w pb bt cap ts n ⟨E,j0,l⟩ (.returned (.agg #[.int .i64 K,.int .i64 0,.int .i64 0,.string ⟨#[]⟩,.slice a nn c,.slice a' nn' c'])) (put6 (w2.setCell ⟨pb,2,none⟩ (.int .i64 E)) w.heap.size 0 c0 c1 c2 c3 c4 c5):=by
 have cc:Chg (·=pb) wr (w2.setCell ⟨pb,2,none⟩ (.int .i64 E)):=Chg.setCell (X:=fun k=>k=pb) (.of_below hb2) (p:=⟨pb,2,none⟩) (.inl rfl) _;have hE2:PE w pb bt cap ts n K ⟨E,j0,l⟩ (w2.setCell ⟨pb,2,none⟩ (.int .i64 E)):=⟨(hP.below hb2).err E,hF.chgR hp cc,hB.chgR hp cc,fun h=>absurd h hE⟩;obtain ⟨a,nn,c,a',nn',c',hb,hfin⟩:=hE2.fin hp hbt;have hne:w.heap.size+2≠pb:=by omega
 exact ⟨a,nn,c,a',nn',c',(Below.heap_setCell _ _ _ _ hne).symm.trans hb,(hb2.block _ (by have:=hF.sz;omega)).trans hF.bres,(hP.below hb2).blk,hfin⟩
structure QI (w:World) (pb bt cap:Nat) (ts:List Tok) (n:Nat) (ns:List (List UInt8)) (acc:List J) (S:R) (wx:World):Prop where
 pa:Pa wx pb bt cap ts S.l S.er
 pf:PF w pb wx
 blk:PB w 7 wx
 pv:S.er=0->PV w n 7 ns (acc++ [S.j]) wx
theorem rvalue_obj (n:Nat) (hn:n<=15) (ih:RValOk n) {w:World} {pb bt cap:Nat} {ts l:List Tok} {x:Tok} (h:Pa w pb bt cap ts (x::l) 0) (hx:x.k=1) (hc:x.t= [123]):
 Calls Tryz.prog 78 #[.pointer (some ⟨pb,0,none⟩),.int .i64 ((17 - (n+1):Nat):Int)] w (RVRet w pb bt cap ts (n+1) (objS (valS n) l)):=by
 have hD:((17 - n:Nat):Int)=((17 - (n+1):Nat):Int)+1:=by omega
 have hD1:((17 - (n+1):Nat):Int)<=16:=by omega
 have hD0:(0:Int)<=((17 - (n+1):Nat):Int):=by omega
 have IH:Hid (∀(w':World) (l':List Tok),Pa w' pb bt cap ts l' 0->Calls Tryz.prog 78 #[.pointer (some ⟨pb,0,none⟩),.int .i64 (((17 - (n+1):Nat):Int)+1)] w' (RVRet w' pb bt cap ts n (valS n l'))):=fun w' l' hp=>by rw [<-hD];exact ih w' pb bt cap ts l' hp
 generalize ((17 - (n+1):Nat):Int)=D at *;clear hD ih;obtain ⟨y,l1,rfl⟩:=ex_cons (h.fin.tail (show x.k≠5 by omega));obtain ⟨x0,x1,x2,x3,x4⟩:=h.here;obtain ⟨r0,r1,r2⟩:=three_of h.blk;have pf1:=free_of h.blk 1;have hpl:=h.lt;have htl:=h.blt;have hle:=h.at_.1;have i1:((ts.length - (x::y::l1).length:Nat):Int) < (ts.length:Int):=by omega
 have hln:=h.len;have HN:=Lib.hid (h.next (x:=x) (by omega));have hsuf:=h.suf.length_le;have HSU:Hid ((y::l1).length<=ts.length):=by show _<=_;simp at hsuf⊢;omega
 rw [hx] at x0;rw [hc] at x1;clear h hsuf;obtain ⟨P,HPP⟩:∃P,Hid (ts.length - (x::y::l1).length=P):=⟨_,rfl⟩;rw [HPP.out] at hle i1 r1 x0 x1 x2 x3 x4 HN;obtain ⟨NN,HNN⟩:∃N,Hid (ts.length=N):=⟨_,rfl⟩;rw [HNN.out] at i1 hln hle r0;generalize x.m=M at *;generalize x.e=EE at *;generalize x.p=Q at *;have LS:=Lib.hid (loop_start (w:=w) (W0:=w.setCell ⟨pb,1,none⟩ (.int .i64 ((P:Int)+1))) (n:=n) (K:=7) (by simp [World.setCell]) (Chg.setCell (X:=fun k=>k=pb) (Chg.refl _ w) (p:=⟨pb,1,none⟩) (.inl rfl) _) (.cells #[.int .i64 1,.string ⟨#[123]⟩,.int .i64 M,.int .i64 EE,.int .i64 Q] 109));have IS:=Lib.hid (is_any (HN.out.below LS.out.2.2) 125 _ rfl);obtain ⟨RR,HRR⟩:∃RR,Hid (objS (valS n) (y::l1)=RR):=⟨_,rfl⟩;rw [HRR.out];obtain ⟨i0,hi0,hz0,hz1,hz2⟩:=info_parts json_info;obtain ⟨i9,hi9,hx0,hx1,hx2⟩:=info_parts str_info2
 have HRR2:Hid (RR=if sgB y 125=true then ⟨0,.mk 7 0 0 [] [] [],l1⟩ else objL (valS n) (y::l1).length [] [] (y::l1)):=by
  show _=_;rw [<-HRR.out];rfl
 have hpl':pb < w.heap.size+2:=by omega
 have hnpb:¬pb=w.heap.size+2:=by omega
 generalize hsg:sgB y 125=sg at *;unfold zero6 at IS LS;clear HRR
 go_enter Tryz.func78,Tryz.ntmps78
 go_wp2_with fail
 go_region
 go_wp2_with (go_at_call 109;(with_reducible refine (IS.out).mono ?_);rintro e1 w1 ⟨rfl,hP1,hc1⟩)
 obtain ⟨hF0,hV0,-⟩:=LS.out;have hF1:=Lib.hid (hF0.chgR hpl hc1);have hV1:=Lib.hid (hV0.chgR hpl hc1);have HP1:=Lib.hid hP1;clear hF0 hV0 hP1 hc1 LS IS HN x0 x1 x2 x3 x4 r0 r1 r2 pf1 hle i1
 go_loopw [11] (fun d wr=>(∃(N:Nat) (ns:List (List UInt8)) (acc:List J) (l':List Tok),d= .bool false/\Hid (Pa wr pb bt cap ts l' 0)/\Hid (PF w pb wr)/\Hid (PV w n 7 ns acc wr)/\Hid (RR=objL (valS n) N ns acc l')/\l'.length<=N/\acc.length+l'.length<=ts.length/\ns.length=acc.length)∨(d= .bool true/\Hid (PE w pb bt cap ts (n+1) 7 RR wr))) (fun d wr=>dnN d (ts.length - posOf wr pb))
 case atStart=>
  cases sg with
  | true=>
    have e:=HRR2.out;rw [if_pos rfl] at e;simp only [decide_true,Bool.and_self,if_true] at HP1;refine .inr ⟨rfl,?_⟩;show PE _ _ _ _ _ _ _ _ _;subst e;exact ⟨HP1.out,hF1.out,hV1.out.pb,fun _=>hV1.out.pj ⟨by decide,by decide⟩ (by simp) (by simp)⟩
  | false=>
    have e:=HRR2.out;rw [if_neg (by decide)] at e;simp only [Bool.and_false,Bool.false_eq_true,if_false] at HP1;exact .inl ⟨_,[],[],y::l1,rfl,HP1,hF1,hV1,e,Nat.le_refl _,by simpa using HSU.out,rfl⟩
 case round=>
  clear HRR2 HP1 hF1 hV1 hsg;rcases hrel with ⟨N,ns,acc,l',rfl,HPa,HF,HV,HR,hN,hlen,hnl⟩ | ⟨rfl,HE⟩
  ·obtain ⟨x',l2,rfl⟩:=ex_cons HPa.out.fin;obtain ⟨N',rfl⟩:∃N',N=N'+1:=⟨N - 1,by simp at hN;omega⟩;have hpos:=HPa.out.pos;obtain ⟨q0,q1,q2⟩:=three_of HPa.out.blk;have qf1:=free_of HPa.out.blk 1;have qf2:=free_of HPa.out.blk 2;obtain ⟨x0,x1,x2,x3,x4⟩:=HPa.out.here;have hpr:=HPa.out.lt;have hbr:=HPa.out.blt;have hle:=HPa.out.at_.1;have hgd:=HPa.out.good x' (HPa.out.suf.mem (by simp));have HTX:Hid (txtB x'.t):=hgd.len;obtain ⟨nv,iv,vs,hO⟩:=HV.out;have hsz:=HF.out.sz;have hblw:w.heap.size+2 < wr.heap.size:=by omega
   have hblw':w.heap.size+1+1 < wr.heap.size:=by omega
   have hal:acc.length<=1000000:=by rw [HNN.out] at hlen;omega
   have hnal:ns.length<=1000000:=by omega
   have HNL:=Lib.hid hnl;have hlw0:w.heap.size < wr.heap.size:=by omega
   clear hnl;obtain ⟨ano,capn,rfl⟩:=own_slice hO.nrow;have HO:=Lib.hid hO;have HST:=Lib.hid (own_strs hO ⟨by decide,by decide⟩ hnal hal);have hres:=HF.out.bres;unfold zero6 at hres;have HB7:=Lib.hid HV.out.pb;have j1:((ts.length - (x'::l2).length:Nat):Int) < (ts.length:Int):=by omega
   obtain ⟨P',HPP'⟩:∃P,Hid (ts.length - (x'::l2).length=P):=⟨_,rfl⟩;have HNX:=Lib.hid (fun hx w' (hp:Pa w' pb bt cap ts (x'::l2) 0)=>hp.next (x:=x') hx);rw [HPP'.out] at hle j1 q1 x0 x1 x2 x3 x4 HNX;rw [HNN.out] at hle j1 q0
   by_cases hk:x'.k=2
   ·obtain ⟨y',l5,rfl⟩:=ex_cons (HPa.out.fin.tail (by omega));rw [hk] at x0;have HK2:=Lib.hid hk
    cases hct:ns.contains x'.t with
    | true=>
      have HRE:=Lib.hid (HR.out.trans (obj_twice hk hct));have HA:=Lib.hid (fun w' (hb:Below wr.heap.size wr w')=>has_any _ _ ns x'.t w' (HST.out.below hb (Nat.le_refl _)));rw [hct] at HA;obtain ⟨y0,y1,y2,y3,y4,y5⟩:=six_of hO.blk;clear hk hO hgd hct;generalize x'.m=M' at *;generalize x'.e=E' at *;generalize x'.p=Q'' at *;generalize x'.t=T' at *;have AL:Hid (∀o,Below wr.heap.size wr (wr.alloc o).drew):=fun o=>((Below.refl _ _).alloc (Nat.le_refl _) _).drew
      have BR:=Lib.hid (fun w2 (hb:Below wr.heap.size wr w2)=>brk (n:=n+1) hpl htl HPa.out HF.out HB7.out hb 42 (by decide));unfold zero6 at BR;rw [<-HRE.out] at BR;rw [HPP'.out,HNN.out] at BR
      go_wp2_with fail
      go_region
      go_wp2_with (go_at_call 111;(with_reducible refine (HA.out _ (AL.out _)).mono ?_);rintro e1 w2 ⟨rfl,hb2⟩;have hbw2:Below wr.heap.size wr w2:=(AL.out _).trans (hb2.mono (AL.out _).size);obtain ⟨a,nn,c,a',nn',c',b1,b2,b3,hfin⟩:=BR.out w2 hbw2;have HFIN:=Lib.hid hfin;obtain ⟨v0,v1,v2,v3,v4,v5⟩:=six_of b1;obtain ⟨z0,z1,z2,z3,z4,z5⟩:=six_of b2;have g0:=free_of b2 0;have g1:=free_of b2 1;have g2:=free_of b2 2;have g3:=free_of b2 3;have g4:=free_of b2 4;have g5:=free_of b2 5;obtain ⟨p0,p1,p2⟩:=three_of b3;have pf2:=free_of b3 2;have hl2:=Own.block_lt b1;have hlp:=Own.block_lt b3;clear hfin b1 b2 b3)
      refine bodyPost_ret (v:= .agg #[.int .i64 7,.int .i64 0,.int .i64 0,.string ⟨#[]⟩,.slice a nn c,.slice a' nn' c']) (by simp [results,Tryz.results78,go_sem,z0,z1,z2,z3,z4,z5]) rfl ?_;exact HFIN.out _ _ _ _ _ _
    | false=>
      have HA:=Lib.hid (fun w' (hb:Below wr.heap.size wr w')=>has_any _ _ ns x'.t w' (HST.out.below hb (Nat.le_refl _)));rw [hct] at HA
      have IHw:∀(w':World) (l':List Tok),Pa w' pb bt cap ts l' 0->Calls Tryz.prog 78 #[.pointer (some ⟨pb,0,none⟩),.int .i64 (IntKind.i64.wrap (D+1))] w' (RVRet w' pb bt cap ts n (valS n l')):=fun w' l' hp=>by
       rw [show IntKind.i64.wrap (D+1)=D+1 by rw [IntKind.wrap_i64];omega];exact IH.out w' l' hp
      obtain ⟨lS,ES,S,K1,K2,K3,K4,K5⟩:=obj_key IHw x' y' l5 (HPa.out.fin.tail (by omega)) hk ns acc N' hct;have MU:=Lib.hid K1;have VA:=Lib.hid K2;have HU:=Lib.hid K3;have HG:=Lib.hid (And.intro K4 K5);have HNX2:=Lib.hid (fun w' hb=>HNX.out (by omega) w' (HPa.out.below hb));have AL:Hid (∀o,Below wr.heap.size wr (wr.alloc o).drew):=fun o=>((Below.refl _ _).alloc (Nat.le_refl _) _).drew
      have HPB:=Lib.hid (fun w' (hb:Below wr.heap.size wr w')=>(HPa.out.below hb).blk);rw [HPP'.out,HNN.out] at HPB;obtain ⟨u0,u1,u2,u3,u4,u5⟩:=six_of hO.blk;clear hk hO hgd hct IHw K1 K2 K3 K4 K5 IH HNX;generalize x'.m=M' at *;generalize x'.e=E' at *;generalize x'.p=Q'' at *;generalize x'.t=T' at *;have hPl:(P':Int)<=1000000:=by omega
      go_wp2_with fail
      go_region
      go_upto_region 41 with (first
       | (go_at_call 111;(with_reducible refine (HA.out _ (AL.out _)).mono ?_);rintro e1 w2 ⟨rfl,hb2⟩;have hbw2:Below wr.heap.size wr w2:=(AL.out _).trans (hb2.mono (AL.out _).size);have hb2s:=hb2.size;simp at hb2s;have tb2:w2.heap[wr.heap.size]?=some (.cells #[.int .i64 2,.string ⟨T'.toArray⟩,.int .i64 M',.int .i64 E',.int .i64 Q''] 109 (0,0)):=(hb2.block _ (by simp)).trans (heap_alloc_new wr _);obtain ⟨p0,p1,p2⟩:=three_of (HPB.out w2 hbw2);have pf1:=free_of (HPB.out w2 hbw2) 1;have hlp:pb < w2.heap.size:=(by omega);have hP3:=HNX2.out w2 hbw2;have hc3:Chg (fun k=>k=pb) wr (w2.setCell ⟨pb,1,none⟩ (.int .i64 ((P':Int)+1))):=Chg.setCell (X:=fun k=>k=pb) (.of_below hbw2) (p:=⟨pb,1,none⟩) (.inl rfl) _)
       | (go_at_call 110;(with_reducible refine (MU.out _ hP3).mono ?_);rintro e4 w4 ⟨rfl,hP4,hc4⟩;have hcw4:=hc3.trans hc4;have hs4:=hc4.size;simp [World.setCell] at hs4;have tb4:=(hc4.block wr.heap.size (by simp [World.setCell];omega) (by omega)).trans ((Below.heap_setCell _ _ _ _ (by show wr.heap.size≠pb;omega)).trans tb2);have tc:=box_at (Below.refl w4.heap.size w4) tb4 (Own.block_lt tb4) 1;simp at tc;have hlt4:=Own.block_lt tb4;have HO4:=Lib.hid (HO.out.chgR hcw4 (by omega) (by omega));have HF4:=Lib.hid (HF.out.chgR hpl hcw4);have HP4:=Lib.hid hP4;obtain ⟨y0,y1,y2,y3,y4,y5⟩:=six_of HO4.out.blk;have yf4:=free_of HO4.out.blk 4;have hbl4:w.heap.size+2 < w4.heap.size:=(by omega);have HNV:Hid (some (w.heap.size+2)≠(Value.slice ano ns.length capn).ownBlock):=(fun h=>by have:=(HO4.out.nrow.lt _ h.symm).1;omega);clear hP4 hc4 tb2 tb4 p0 p1 p2 pf1 hP3)
       | (at_builtin;(refine wpList_append_lies _ rfl _ _ 36 rfl (w.heap.size+3) 9 i9 _ 1 16 Tryz.underlying36 hi9 hx0 hx1 hx2 rfl (by omega) _ ns.length (ns.map strW) rfl (HO4.out.nrow.alloc _) ⟨w4.heap.size,0,none⟩ 1 1 [.string ⟨T'.toArray⟩] rfl rfl (World.news_of_block (cs:=#[.string ⟨T'.toArray⟩]) (t:=9) (fr:=(0,0)) (heap_alloc_new _ _)) (by simp [Value.oneCell']) (by omega) (by unfold maxLen;omega) (by omega) (by simp;omega) (w4.heap.size+1) (by simp) ?_);intro g cp w5 hown hgrow hat hlt;have k4:=(hgrow.cell_far ⟨w.heap.size+2,4,none⟩ (by simp;omega) HNV.out).trans ((World.cell?_of_block (w:=w4) (a:=⟨w.heap.size+2,4,none⟩) (Below.heap_alloc _ _ _ hbl4)).trans y4);have kf:=(hgrow.frozen_far ⟨w.heap.size+2,4,none⟩ (by simp;omega) HNV.out).trans ((World.frozen?_of_block (w:=w4) (a:=⟨w.heap.size+2,4,none⟩) (Below.heap_alloc _ _ _ hbl4)).trans yf4)))
      obtain ⟨hP6,hF6,hV6⟩:=name_leaves hpl htl HF4.out HO4.out HP4.out ((Below.refl w4.heap.size w4).alloc (Nat.le_refl _) _) hgrow (hat.imp id (fun h=>by omega)) HTX.out hown;clear hown hgrow hat hlt k4 kf yf4 y0 y1 y2 y3 y4 y5 HF4 HO4 HP4 tc hlt4 hbl4 HNV hcw4 hc3 hbw2 hb2 hb2s hs4;change Code.wp _ _ _ _ (w5.setCell ⟨w.heap.size+2,4,none⟩ _);generalize w5.setCell ⟨w.heap.size+2,4,none⟩ (.slice (some ⟨g,0,none⟩) (ns.length+1) cp)=w6 at *;obtain ⟨nv6,iv6,vs6,hO6⟩:=hV6;have hsz6:=hF6.sz;have hblw6:w.heap.size+2 < w6.heap.size:=(by omega);have hblw6':w.heap.size+1+1 < w6.heap.size:=(by omega);obtain ⟨ao2,cap2,rfl⟩:=own_slice hO6.irow;obtain ⟨y0,y1,y2,y3,y4,y5⟩:=six_of hO6.blk;have HO6:=Lib.hid hO6;have HF6:=Lib.hid hF6;have IC:=Lib.hid (VA.out w6.drew (hP6.below (Below.refl _ _).drew));unfold RVRet at IC;obtain ⟨er,j,l3⟩:=S;simp only at IC HG HU;obtain ⟨z,l4,rfl⟩:=ex_cons HG.out.1;clear hO6 hF6 hP6 VA MU q0 q1 q2 qf1 qf2 x0 x1 x2 x3 x4 u0 u1 u2 u3 u4 u5 hres HST HA AL HPB HNX2 hle j1 hbr HO HF HB7 HV HTX hsz hblw hblw' hlw0 hPl;have HPL:=Lib.hid (And.intro hpos (And.intro hlen hN));clear hpos hlen hN HPP' HPP HK2 hlp hpr hnpb hpl'
      go_cut [177] from 177 to 185 (fun _ wx=>Hid (QI w pb bt cap ts n (ns++ [T']) acc ⟨er,j,z::l4⟩ wx))
      case first=>
       go_region_law (first
        | (go_simp;go_at_call 78;(with_reducible refine (IC.out).mono ?_);rintro e3 w3 ⟨k3,m3,e3',t3,an3,nn3,cn3,ai3,ni3,ci3,rfl,hP3,hc3,hJ3⟩;have hc3':Chg (fun k=>k=pb) w6 w3:=(Chg.of_below ((Below.refl _ _).drew)).trans hc3;have hs3:=hc3'.size;have hl3:w.heap.size+2 < w3.heap.size:=(by omega);have hl3':w.heap.size+1+1 < w3.heap.size:=(by omega);have HO3:=Lib.hid (HO6.out.chgR hc3' (by omega) (by omega));have y5':=(six_of HO3.out.blk).2.2.2.2.2;have yf:=free_of HO3.out.blk 5;have HNE:=Lib.hid HO3.out.ine;have HP3:=Lib.hid hP3;have HC3:=Lib.hid hc3';have HJ3:=Lib.hid hJ3;clear hP3 hc3 hc3' hJ3)
        | (refine step_append_lies _ (by rfl) _ _ _ (by rfl) (w.heap.size+3) 49 i0 _ 6 88 Tryz.underlying47 hi0 hz0 hz1 hz2 rfl (by omega) _ acc.length (vs6.flatMap aggC) (by rfl) (HO3.out.irow.alloc _) ⟨w3.heap.size,0,none⟩ 1 1 [.int .i64 k3,.int .i64 m3,.int .i64 e3',.string t3,.slice an3 nn3 cn3,.slice ai3 ni3 ci3] (by rfl) (by rfl) (World.news_of_block (cs:=#[.int .i64 k3,.int .i64 m3,.int .i64 e3',.string t3,.slice an3 nn3 cn3,.slice ai3 ni3 ci3]) (t:=49) (fr:=(0,0)) (heap_alloc_new _ _)) (by simp [Value.oneCell']) (by omega) (by unfold maxLen;omega) (by omega) (by simp;omega) (w3.heap.size+1) (by simp) ?_;intro g cp w4 hown hgrow hat hlt;have k5:=(hgrow.cell_far ⟨w.heap.size+2,5,none⟩ (by simp;omega) (fun h=>HNE.out h.symm)).trans ((World.cell?_of_block (w:=w3) (a:=⟨w.heap.size+2,5,none⟩) (Below.heap_alloc _ _ _ (by show w.heap.size+2 < w3.heap.size;omega))).trans y5');have kf:=(hgrow.frozen_far ⟨w.heap.size+2,5,none⟩ (by simp;omega) (fun h=>HNE.out h.symm)).trans ((World.frozen?_of_block (w:=w3) (a:=⟨w.heap.size+2,5,none⟩) (Below.heap_alloc _ _ _ (by show w.heap.size+2 < w3.heap.size;omega))).trans yf)))
       all_goals go_wp2_with fail
       all_goals go_meet
       all_goals
        obtain ⟨hP5,hF5,hB5⟩:=item_leaves (g:=g) (cp:=cp) hpl htl HF6.out HO6.out HC3.out HP3.out ((Below.refl w3.heap.size w3).alloc (Nat.le_refl _) _) hgrow;exact ⟨hP5,hF5,hB5,fun he=>item_makes hpl HF6.out HO6.out HC3.out ((Below.refl w3.heap.size w3).alloc (Nat.le_refl _) _) hgrow (hat.imp id (fun h=>by omega)) hown (HJ3.out he)⟩
      case rest=>
       have HQ:=hcut;generalize wc=w5x at *;have HF5:=Lib.hid HQ.out.pf;have HB5:=Lib.hid HQ.out.blk;have I44:=Lib.hid (is_any HQ.out.pa 44 ⟨#[44]⟩ rfl);have hg3:=HG.out.2;have HV5':=Lib.hid HQ.out.pv;clear HQ hcut HO6 HF6 y0 y1 y2 y3 y4 y5 IC
       by_cases he:er=0
       ·subst he;have HV5:Hid (PV w n 7 (ns++ [T']) (acc++ [j]) w5x):=HV5'.out rfl;clear HV5';have hg4:=hg3 rfl
        cases h44:sgB z 44 with
        | true=>
          rw [h44] at I44;simp only [decide_true,Bool.and_self,if_true] at I44;have h93:=sg_apart h44 (show (44:UInt8)≠125 by decide)
          have HR2:Hid (RR=objL (valS n) N' (ns++ [T']) (acc++ [j]) l4):=by
           show _=_;rw [HR.out,HU.out,if_pos rfl];unfold moreS;simp only;rw [if_neg (by rw [h93];decide),if_pos h44]
          go_wp2_with (go_at_call 109;(with_reducible refine (I44.out).mono ?_);rintro e8 w8 ⟨rfl,hP8,hc8⟩)
          have hp6:=hP8.pos;obtain ⟨hpos,hlen,hN⟩:=HPL.out
          go_roundw
          case rel=>exact .inl ⟨N',ns++ [T'],acc++ [j],l4,rfl,hP8,HF5.out.chgR hpl hc8,HV5.out.chgR hpl hc8,HR2,by simp at hg4 hN;omega,by simp at hg4 hlen⊢;omega,by have:=HNL.out;simp;omega⟩
          case measure=>simp only [dnN];rw [hp6,hpos];simp at hg4⊢;omega
        | false=>
          rw [h44] at I44;simp only [Bool.and_false,Bool.false_eq_true,if_false] at I44
          cases h93:sgB z 125 with
          | true=>
            have HR2:Hid (RR=⟨0,.mk 7 0 0 [] (ns++ [T']) (acc++ [j]),l4⟩):=by
             show _=_;rw [HR.out,HU.out,if_pos rfl];unfold moreS;simp only;rw [if_pos h93]
            go_wp2_with (first
             | (go_at_call 109;(with_reducible refine (I44.out).mono ?_);rintro e8 w8 ⟨rfl,hP8,hc8⟩;have M93:=must_any hP8 125 ⟨#[125]⟩ rfl;unfold mustE at M93;rw [h93,if_pos rfl,if_pos rfl] at M93;simp only [decide_true,Bool.and_self,if_true] at M93;have HM:=Lib.hid M93;clear M93)
             | (go_at_call 110;(with_reducible refine (HM.out).mono ?_);rintro e9 w9 ⟨rfl,hP9,hc9⟩))
            obtain ⟨hpos,hlen,hN⟩:=HPL.out
            go_roundw
            case rel=>
             refine .inr ⟨rfl,?_⟩;show PE _ _ _ _ _ _ _ _ _;have hc67:=hc8.trans hc9;have hV7:=HV5.out.chgR hpl hc67;rw [HR2.out];exact ⟨hP9,HF5.out.chgR hpl hc67,hV7.pb,fun _=>hV7.pj ⟨by decide,by decide⟩ (by have:=HNL.out;simp at hlen⊢;have:=HNN.out;omega) (by simp at hlen⊢;have:=HNN.out;omega)⟩
            case measure=>simp only [dnN];omega
          | false=>
            have HR2:Hid (RR=⟨40,j0,z::l4⟩):=by
             show _=_;rw [HR.out,HU.out,if_pos rfl];unfold moreS;simp only;rw [if_neg (by rw [h93];decide),if_neg (by rw [h44];decide)]
            go_wp2_with (first
             | (go_at_call 109;(with_reducible refine (I44.out).mono ?_);rintro e8 w8 ⟨rfl,hP8,hc8⟩;have M93:=must_any hP8 125 ⟨#[125]⟩ rfl;unfold mustE at M93;rw [h93,if_pos rfl,if_neg (by decide)] at M93;simp only [Bool.and_false,Bool.false_eq_true,if_false] at M93;have HM:=Lib.hid M93;clear M93)
             | (go_at_call 110;(with_reducible refine (HM.out).mono ?_);rintro e9 w9 ⟨rfl,hP9,hc9⟩))
            obtain ⟨hpos,hlen,hN⟩:=HPL.out
            go_roundw
            case rel=>
             refine .inr ⟨rfl,?_⟩;show PE _ _ _ _ _ _ _ _ _;have hc67:=hc8.trans hc9;rw [HR2.out];exact ⟨hP9,HF5.out.chgR hpl hc67,HB5.out.chgR hpl hc67,fun h=>absurd (show (40:Int)=0 from h) (by decide)⟩
            case measure=>simp only [dnN];omega
       ·have HR2:Hid (RR=⟨er,j0,z::l4⟩):=by
         show _=_;rw [HR.out,HU.out,if_neg he]
        rw [decide_eq_false he] at I44;simp only [Bool.false_and,Bool.false_eq_true,if_false] at I44;have HER:=Lib.hid he;clear HV5'
        go_wp2_with (first
         | (go_at_call 109;(with_reducible refine (I44.out).mono ?_);rintro e8 w8 ⟨rfl,hP8,hc8⟩;have M93:=must_any hP8 125 ⟨#[125]⟩ rfl;unfold mustE at M93;rw [if_neg HER.out,decide_eq_false HER.out] at M93;simp only [Bool.false_and,Bool.false_eq_true,if_false] at M93;have HM:=Lib.hid M93;clear M93)
         | (go_at_call 110;(with_reducible refine (HM.out).mono ?_);rintro e9 w9 ⟨rfl,hP9,hc9⟩))
        obtain ⟨hpos,hlen,hN⟩:=HPL.out
        go_roundw
        case rel=>
         refine .inr ⟨rfl,?_⟩;show PE _ _ _ _ _ _ _ _ _;have hc67:=hc8.trans hc9;rw [HR2.out];exact ⟨hP9,HF5.out.chgR hpl hc67,HB5.out.chgR hpl hc67,fun h=>absurd h HER.out⟩
        case measure=>simp only [dnN];omega
   ·have hne:((x'.k:Int) !=2)=true:=(by simp;omega);have HRE:=Lib.hid (HR.out.trans (obj_no hk));obtain ⟨a,nn,c,a',nn',c',b1,b2,b3,hfin⟩:=brk (n:=n+1) hpl htl HPa.out HF.out HB7.out (Below.refl wr.heap.size wr) 40 (by decide);rw [<-HRE.out] at hfin;have HFIN:=Lib.hid hfin;unfold zero6 at b2;obtain ⟨v0,v1,v2,v3,v4,v5⟩:=six_of b1;obtain ⟨z0,z1,z2,z3,z4,z5⟩:=six_of b2;have g0:=free_of b2 0;have g1:=free_of b2 1;have g2:=free_of b2 2;have g3:=free_of b2 3;have g4:=free_of b2 4;have g5:=free_of b2 5;have hnz:¬w.heap.size=pb:=(by omega);have hnz2:¬pb=w.heap.size:=(by omega);clear hfin b1 b2 b3 hk hO hgd IH;generalize x'.k=K' at *;generalize x'.m=M' at *;generalize x'.e=E' at *;generalize x'.p=Q'' at *;generalize x'.t=T' at *
    go_wp2_with fail
    go_region
    go_wp2_with fail
    refine bodyPost_ret (v:= .agg #[.int .i64 7,.int .i64 0,.int .i64 0,.string ⟨#[]⟩,.slice a nn c,.slice a' nn' c']) (by simp [results,Tryz.results78,go_sem,z0,z1,z2,z3,z4,z5,hlw0,hnz,hnz2,Nat.ne_of_lt hlw0]) rfl ?_;exact (HFIN.out _ _ _ _ _ _).below ((Below.refl _ _).alloc (Nat.le_refl _) _).drew
  ·obtain ⟨a,nn,c,a',nn',c',hb,hfin⟩:=HE.out.fin hpl htl;obtain ⟨y0,y1,y2,y3,y4,y5⟩:=six_of hb;have hres:=HE.out.pf.bres;unfold zero6 at hres;obtain ⟨z0,z1,z2,z3,z4,z5⟩:=six_of hres;have g0:=free_of hres 0;have g1:=free_of hres 1;have g2:=free_of hres 2;have g3:=free_of hres 3;have g4:=free_of hres 4;have g5:=free_of hres 5;have HFIN:=Lib.hid hfin;have hlb:=Own.block_lt hb;clear hfin hb hres HE IH
   go_wp2_with fail
   refine bodyPost_ret (v:= .agg #[.int .i64 7,.int .i64 0,.int .i64 0,.string ⟨#[]⟩,.slice a nn c,.slice a' nn' c']) (by simp [results,Tryz.results78,go_sem,z0,z1,z2,z3,z4,z5]) rfl ?_;exact HFIN.out _ _ _ _ _ _
end Go.Proofs.YtclghelocglnlaaGreatDoor.Js
namespace Go.Proofs.YtclghelocglnlaaGreatDoor.Js
open Go.RowKit Lex
theorem rv_end {w W1:World} {pb bt cap n:Nat} {ts:List Tok} {r:R} {k m e:Int} {t:ByteArray} {a a':Option Addr} {nn c nn' c':Nat} (hp:pb < w.heap.size) (hbt:bt < w.heap.size) (hP:Pa W1 pb bt cap ts r.l r.er) (hc:Chg (·=pb) w W1)
 (hJ:r.er=0->∀w',JAt (fun b=>w.heap.size<=b) w' n (.agg #[.int .i64 k,.int .i64 m,.int .i64 e,.string t,.slice a nn c,.slice a' nn' c']) r.j) (c0 c1 c2 c3 c4 c5:Value):
 RVRet w pb bt cap ts n r (.returned (.agg #[.int .i64 k,.int .i64 m,.int .i64 e,.string t,.slice a nn c,.slice a' nn' c'])) (put6 W1 w.heap.size 0 c0 c1 c2 c3 c4 c5):=by
 obtain ⟨p1,p2,p3⟩:=put6_os W1 w.heap.size 0 c0 c1 c2 c3 c4 c5
 exact ⟨_,_,_,_,_,_,_,_,_,_,rfl,hP.keep (put6_block _ _ _ _ _ _ _ _ _ _ (by omega)) (put6_block _ _ _ _ _ _ _ _ _ _ (by omega)) (by rw [put6_size];exact Nat.le_refl _),
  ⟨p1.trans hc.os,p2.trans hc.tape,p3.trans hc.output,by rw [put6_size];exact hc.size,fun k hk hx=>(put6_block _ _ _ _ _ _ _ _ _ _ (by omega)).trans (hc.block k hk hx)⟩,
  fun he=>hJ he _⟩
theorem make_map (w:World):(Instr.makeMap 149 none).run Tryz.prog w= .ok (.map (some w.heap.size)) (w.alloc (.map #[] 0)):=by kernel_rfl
theorem five_t {w:World} {b:Nat} {T:TypeId} {f:Nat×Nat} {c0 c1 c2 c3 c4:Value} (h:w.heap[b]?=some (.cells #[c0,c1,c2,c3,c4] T f)):
 w.cell? ⟨b,0,none⟩=some c0/\w.cell? ⟨b,1,none⟩=some c1/\w.cell? ⟨b,2,none⟩=some c2/\w.cell? ⟨b,3,none⟩=some c3/\w.cell? ⟨b,4,none⟩=some c4:=by
 have k:∀i,w.cell? ⟨b,i,none⟩=(#[c0,c1,c2,c3,c4]:Array Value)[i]?:=fun i=>cell_of_row _ _ _ _ _ _ h
 exact ⟨k 0,k 1,k 2,k 3,k 4⟩
theorem zero_int (w:World):(zeroValue 3).run Tryz.prog w= .ok (.int .i64 0) w:=by kernel_rfl
def words3:DataW Unit:=((DataW.put (.map []) (.string nullL) (.lit (.int .i64 1))).put (.string falseL) (.lit (.int .i64 2))).put (.string trueL) (.lit (.int .i64 3))
theorem words_null:words3.atKey (.string nullL) (.lit (.int .i64 0))= .lit (.int .i64 1):=by kernel_rfl
theorem words_false:words3.atKey (.string falseL) (.lit (.int .i64 0))= .lit (.int .i64 2):=by kernel_rfl
theorem words_true:words3.atKey (.string trueL) (.lit (.int .i64 0))= .lit (.int .i64 3):=by kernel_rfl
theorem key_null:keyOf Tryz.prog 9 (.string ⟨#[110,117,108,108]⟩)=some (.string nullL):=Go.WideMaps.keyOf_string_mk Tryz.underlying9 (by decide)
theorem key_false:keyOf Tryz.prog 9 (.string ⟨#[102,97,108,115,101]⟩)=some (.string falseL):=Go.WideMaps.keyOf_string_mk Tryz.underlying9 (by decide)
theorem key_true:keyOf Tryz.prog 9 (.string ⟨#[116,114,117,101]⟩)=some (.string trueL):=Go.WideMaps.keyOf_string_mk Tryz.underlying9 (by decide)
theorem elem_int (n:Int) (h:(Lit.int .i64 n).wf=true):plainElem (H:=Unit) Tryz.prog 3 (.int .i64 n)=some (.lit (.int .i64 n),[]):=plainElem_int Tryz.underlying3 h
theorem filled {W w1 w2 w3:World} {b:Nat} (hb:b=W.heap.size) (g1:((W.alloc (.map #[] 0)).drew).grownBy w1 (some b)) (g2:w1.grownBy w2 (some b)) (g3:w2.grownBy w3 (some b)):Below W.heap.size W w3:=by
 subst hb;have s1:=g1.size;have s2:=g2.size;have s3:=g3.size;simp at s1;refine ⟨g3.os.trans (g2.os.trans g1.os),g3.tape.trans (g2.tape.trans g1.tape),g3.output.trans (g2.output.trans g1.output),by omega,fun k hk=> ?_⟩;have hne:some k≠some W.heap.size:=fun h=>by cases h;omega
 rw [g3.block k (by omega) hne,g2.block k (by omega) hne,g1.block k (by simp;omega) hne];exact Below.heap_alloc _ _ _ hk
theorem fill3 (W:World) (b:Nat) (hb:b=W.heap.size):∃w1 w2 w3,(Instr.mapUpdate 149 (.map (some b)) (.string ⟨#[110,117,108,108]⟩) (.int .i64 1)).run Tryz.prog ((W.alloc (.map #[] 0)).drew)= .ok () w1/\
 (Instr.mapUpdate 149 (.map (some b)) (.string ⟨#[102,97,108,115,101]⟩) (.int .i64 2)).run Tryz.prog w1= .ok () w2/\
 (Instr.mapUpdate 149 (.map (some b)) (.string ⟨#[116,114,117,101]⟩) (.int .i64 3)).run Tryz.prog w2= .ok () w3/\Below W.heap.size W w3/\
 (Instr.lookup 149 (.map (some b)) (.string ⟨#[110,117,108,108]⟩) false).run Tryz.prog w3= .ok (.int .i64 1) w3/\
 (Instr.lookup 149 (.map (some b)) (.string ⟨#[102,97,108,115,101]⟩) false).run Tryz.prog w3= .ok (.int .i64 2) w3/\
 (Instr.lookup 149 (.map (some b)) (.string ⟨#[116,114,117,101]⟩) false).run Tryz.prog w3= .ok (.int .i64 3) w3:=by
 have h0:((W.alloc (.map #[] 0)).drew).ownsMap Tryz.prog 9 (plainElem (H:=Unit) Tryz.prog 3) b 0 (.map []):=by rw [hb];exact World.ownsMap_made _ _ _ _
 obtain ⟨w1,r1,h1,g1⟩:=h0.update law_str Tryz.underlying149 (by unfold maxLen;omega) key_null (elem_int 1 rfl);obtain ⟨w2,r2,h2,g2⟩:=h1.update law_str Tryz.underlying149 (by unfold maxLen;omega) key_false (elem_int 2 rfl);obtain ⟨w3,r3,h3,g3⟩:=h2.update law_str Tryz.underlying149 (by unfold maxLen;omega) key_true (elem_int 3 rfl);refine ⟨w1,w2,w3,r1,r2,r3,filled hb g1 g2 g3,?_,?_,?_⟩
 ·obtain ⟨c,hc,ha,_⟩:=h3.lookup_int law_str Tryz.underlying149 Tryz.underlying3 (zero_int _) key_null;rw [hc];have:=words_null.symm.trans ha;cases this;rfl
 ·obtain ⟨c,hc,ha,_⟩:=h3.lookup_int law_str Tryz.underlying149 Tryz.underlying3 (zero_int _) key_false;rw [hc];have:=words_false.symm.trans ha;cases this;rfl
 ·obtain ⟨c,hc,ha,_⟩:=h3.lookup_int law_str Tryz.underlying149 Tryz.underlying3 (zero_int _) key_true;rw [hc];have:=words_true.symm.trans ha;cases this;rfl
theorem rleaf_null {w:World} {pb bt cap:Nat} {ts l:List Tok} {x:Tok} (h:Pa w pb bt cap ts (x::l) 0) (hx:x.k=4) (hc:x.t=nullL) (D:Int) (hD:D<=16) (n:Nat):
 Calls Tryz.prog 78 #[.pointer (some ⟨pb,0,none⟩),.int .i64 D] w (RVRet w pb bt cap ts (n+1) ⟨0,begunS x,l⟩):=by
 have HP:=Lib.hid h;obtain ⟨x0,x1,x2,x3,x4⟩:=h.here;obtain ⟨r0,r1,r2⟩:=three_of h.blk;have pf:=free_of h.blk 2;have pf1:=free_of h.blk 1;have hpl:=h.lt;have htl:=h.blt;have hle:=h.at_.1;have i1:((ts.length - (x::l).length:Nat):Int) < (ts.length:Int):=by omega
 have hln:=h.len
 have HJ:Hid (∀w',JAt (fun b=>w.heap.size<=b) w' (n+1) (.agg #[.int .i64 1,.int .i64 0,.int .i64 0,.string ⟨#[]⟩,.slice none 0 0,.slice none 0 0]) (begunS x)):=fun w'=>by
  have:=begun_jat (S:=fun b=>w.heap.size<=b) (w:=w') (d:=n) (h.good x (h.suf.mem (by simp)));unfold begunV bareV at this;have hb:begunS x= .mk 1 0 0 [] [] []:=by unfold begunS;rw [if_neg (by omega),if_neg (by omega),if_pos (.inl hx),hc];rfl
  rw [hb] at this⊢;exact this
 have HN:=Lib.hid (h.next (x:=x) (by omega));rw [hx] at x0;rw [hc] at x1;unfold nullL at x1;clear h;obtain ⟨P,HPP⟩:∃P,Hid (ts.length - (x::l).length=P):=⟨_,rfl⟩;rw [HPP.out] at hle i1 r1 x0 x1 x2 x3 x4;obtain ⟨NN,HNN⟩:∃N,Hid (ts.length=N):=⟨_,rfl⟩;rw [HNN.out] at i1 hln hle r0;rw [HPP.out] at HN;generalize x.m=M at *;generalize x.e=EE at *;generalize x.p=Q at *;obtain ⟨w1,w2,w3,f1,f2,f3,fb,l1,l2,l3⟩:=fill3 (((w.setCell ⟨pb,1,none⟩ (.int .i64 ((P:Int)+1))).alloc (.cells #[.int .i64 0,.int .i64 0,.int .i64 0,.string ⟨#[]⟩,.slice none 0 0,.slice none 0 0] 49)).alloc (.cells #[.int .i64 4,.string ⟨#[110,117,108,108]⟩,.int .i64 M,.int .i64 EE,.int .i64 Q] 109)) (w.heap.size+1+1) (by simp [World.setCell]);have hs0:(w.setCell ⟨pb,1,none⟩ (.int .i64 ((P:Int)+1))).heap.size=w.heap.size:=by simp [World.setCell]
 have q0:w3.heap[w.heap.size]?=some (.cells #[.int .i64 0,.int .i64 0,.int .i64 0,.string ⟨#[]⟩,.slice none 0 0,.slice none 0 0] 49 (0,0)):=by
  rw [fb.block _ (by simp [World.setCell] <;> omega)];have:=two_old (w.setCell ⟨pb,1,none⟩ (.int .i64 ((P:Int)+1))) (.cells #[.int .i64 0,.int .i64 0,.int .i64 0,.string ⟨#[]⟩,.slice none 0 0,.slice none 0 0] 49) (.cells #[.int .i64 4,.string ⟨#[110,117,108,108]⟩,.int .i64 M,.int .i64 EE,.int .i64 Q] 109)
  rwa [hs0] at this
 have q1:w3.heap[w.heap.size+1]?=some (.cells #[.int .i64 4,.string ⟨#[110,117,108,108]⟩,.int .i64 M,.int .i64 EE,.int .i64 Q] 109 (0,0)):=by
  rw [fb.block _ (by simp [World.setCell] <;> omega)];have:=two_new (w.setCell ⟨pb,1,none⟩ (.int .i64 ((P:Int)+1))) (.cells #[.int .i64 0,.int .i64 0,.int .i64 0,.string ⟨#[]⟩,.slice none 0 0,.slice none 0 0] 49) (.cells #[.int .i64 4,.string ⟨#[110,117,108,108]⟩,.int .i64 M,.int .i64 EE,.int .i64 Q] 109)
  rwa [hs0] at this
 have HB:Hid (Below (w.setCell ⟨pb,1,none⟩ (.int .i64 ((P:Int)+1))).heap.size (w.setCell ⟨pb,1,none⟩ (.int .i64 ((P:Int)+1))) w3):=(((Below.refl _ _).alloc (Nat.le_refl _) _).alloc (by simp) _).trans (fb.mono (by simp;omega));obtain ⟨z0,z1,z2,z3,z4,z5⟩:=six_of q0;obtain ⟨y0,y1,y2,y3,y4⟩:=five_t q1;have g0:=free_of q0 0;have g1:=free_of q0 1;have g2:=free_of q0 2;have g3:=free_of q0 3;have g4:=free_of q0 4;have g5:=free_of q0 5;have mk:=make_map;have hlq:=Own.block_lt q1;clear fb q0 q1 hs0
 go_enter Tryz.func78,Tryz.ntmps78
 go_wp2_with fail
 go_region
 go_wp2_with fail
 refine bodyPost_ret (v:= .agg #[.int .i64 1,.int .i64 0,.int .i64 0,.string ⟨#[]⟩,.slice none 0 0,.slice none 0 0]) (by simp [results,Tryz.results78,go_sem,z0,z1,z2,z3,z4,z5]) rfl ?_;exact rv_end hpl htl (HN.out.below HB.out) ((Chg.setCell (X:=fun k=>k=pb) (Chg.refl _ w) (p:=⟨pb,1,none⟩) (.inl rfl) _).trans (.of_below HB.out)) (fun _ w'=>HJ.out w') _ _ _ _ _ _
theorem rleaf_false {w:World} {pb bt cap:Nat} {ts l:List Tok} {x:Tok} (h:Pa w pb bt cap ts (x::l) 0) (hx:x.k=4) (hc:x.t=falseL) (D:Int) (hD:D<=16) (n:Nat):
 Calls Tryz.prog 78 #[.pointer (some ⟨pb,0,none⟩),.int .i64 D] w (RVRet w pb bt cap ts (n+1) ⟨0,begunS x,l⟩):=by
 have HP:=Lib.hid h;obtain ⟨x0,x1,x2,x3,x4⟩:=h.here;obtain ⟨r0,r1,r2⟩:=three_of h.blk;have pf:=free_of h.blk 2;have pf1:=free_of h.blk 1;have hpl:=h.lt;have htl:=h.blt;have hle:=h.at_.1;have i1:((ts.length - (x::l).length:Nat):Int) < (ts.length:Int):=by omega
 have hln:=h.len
 have HJ:Hid (∀w',JAt (fun b=>w.heap.size<=b) w' (n+1) (.agg #[.int .i64 2,.int .i64 0,.int .i64 0,.string ⟨#[]⟩,.slice none 0 0,.slice none 0 0]) (begunS x)):=fun w'=>by
  have:=begun_jat (S:=fun b=>w.heap.size<=b) (w:=w') (d:=n) (h.good x (h.suf.mem (by simp)));unfold begunV bareV at this;have hb:begunS x= .mk 2 0 0 [] [] []:=by unfold begunS;rw [if_neg (by omega),if_neg (by omega),if_pos (.inl hx),hc];rfl
  rw [hb] at this⊢;exact this
 have HN:=Lib.hid (h.next (x:=x) (by omega));rw [hx] at x0;rw [hc] at x1;unfold falseL at x1;clear h;obtain ⟨P,HPP⟩:∃P,Hid (ts.length - (x::l).length=P):=⟨_,rfl⟩;rw [HPP.out] at hle i1 r1 x0 x1 x2 x3 x4;obtain ⟨NN,HNN⟩:∃N,Hid (ts.length=N):=⟨_,rfl⟩;rw [HNN.out] at i1 hln hle r0;rw [HPP.out] at HN;generalize x.m=M at *;generalize x.e=EE at *;generalize x.p=Q at *;obtain ⟨w1,w2,w3,f1,f2,f3,fb,l1,l2,l3⟩:=fill3 (((w.setCell ⟨pb,1,none⟩ (.int .i64 ((P:Int)+1))).alloc (.cells #[.int .i64 0,.int .i64 0,.int .i64 0,.string ⟨#[]⟩,.slice none 0 0,.slice none 0 0] 49)).alloc (.cells #[.int .i64 4,.string ⟨#[102,97,108,115,101]⟩,.int .i64 M,.int .i64 EE,.int .i64 Q] 109)) (w.heap.size+1+1) (by simp [World.setCell]);have hs0:(w.setCell ⟨pb,1,none⟩ (.int .i64 ((P:Int)+1))).heap.size=w.heap.size:=by simp [World.setCell]
 have q0:w3.heap[w.heap.size]?=some (.cells #[.int .i64 0,.int .i64 0,.int .i64 0,.string ⟨#[]⟩,.slice none 0 0,.slice none 0 0] 49 (0,0)):=by
  rw [fb.block _ (by simp [World.setCell] <;> omega)];have:=two_old (w.setCell ⟨pb,1,none⟩ (.int .i64 ((P:Int)+1))) (.cells #[.int .i64 0,.int .i64 0,.int .i64 0,.string ⟨#[]⟩,.slice none 0 0,.slice none 0 0] 49) (.cells #[.int .i64 4,.string ⟨#[102,97,108,115,101]⟩,.int .i64 M,.int .i64 EE,.int .i64 Q] 109)
  rwa [hs0] at this
 have q1:w3.heap[w.heap.size+1]?=some (.cells #[.int .i64 4,.string ⟨#[102,97,108,115,101]⟩,.int .i64 M,.int .i64 EE,.int .i64 Q] 109 (0,0)):=by
  rw [fb.block _ (by simp [World.setCell] <;> omega)];have:=two_new (w.setCell ⟨pb,1,none⟩ (.int .i64 ((P:Int)+1))) (.cells #[.int .i64 0,.int .i64 0,.int .i64 0,.string ⟨#[]⟩,.slice none 0 0,.slice none 0 0] 49) (.cells #[.int .i64 4,.string ⟨#[102,97,108,115,101]⟩,.int .i64 M,.int .i64 EE,.int .i64 Q] 109)
  rwa [hs0] at this
 have HB:Hid (Below (w.setCell ⟨pb,1,none⟩ (.int .i64 ((P:Int)+1))).heap.size (w.setCell ⟨pb,1,none⟩ (.int .i64 ((P:Int)+1))) w3):=(((Below.refl _ _).alloc (Nat.le_refl _) _).alloc (by simp) _).trans (fb.mono (by simp;omega));obtain ⟨z0,z1,z2,z3,z4,z5⟩:=six_of q0;obtain ⟨y0,y1,y2,y3,y4⟩:=five_t q1;have g0:=free_of q0 0;have g1:=free_of q0 1;have g2:=free_of q0 2;have g3:=free_of q0 3;have g4:=free_of q0 4;have g5:=free_of q0 5;have mk:=make_map;have hlq:=Own.block_lt q1;clear fb q0 q1 hs0
 go_enter Tryz.func78,Tryz.ntmps78
 go_wp2_with fail
 go_region
 go_wp2_with fail
 refine bodyPost_ret (v:= .agg #[.int .i64 2,.int .i64 0,.int .i64 0,.string ⟨#[]⟩,.slice none 0 0,.slice none 0 0]) (by simp [results,Tryz.results78,go_sem,z0,z1,z2,z3,z4,z5]) rfl ?_;exact rv_end hpl htl (HN.out.below HB.out) ((Chg.setCell (X:=fun k=>k=pb) (Chg.refl _ w) (p:=⟨pb,1,none⟩) (.inl rfl) _).trans (.of_below HB.out)) (fun _ w'=>HJ.out w') _ _ _ _ _ _
theorem rleaf_true {w:World} {pb bt cap:Nat} {ts l:List Tok} {x:Tok} (h:Pa w pb bt cap ts (x::l) 0) (hx:x.k=4) (hc:x.t=trueL) (D:Int) (hD:D<=16) (n:Nat):
 Calls Tryz.prog 78 #[.pointer (some ⟨pb,0,none⟩),.int .i64 D] w (RVRet w pb bt cap ts (n+1) ⟨0,begunS x,l⟩):=by
 have HP:=Lib.hid h;obtain ⟨x0,x1,x2,x3,x4⟩:=h.here;obtain ⟨r0,r1,r2⟩:=three_of h.blk;have pf:=free_of h.blk 2;have pf1:=free_of h.blk 1;have hpl:=h.lt;have htl:=h.blt;have hle:=h.at_.1;have i1:((ts.length - (x::l).length:Nat):Int) < (ts.length:Int):=by omega
 have hln:=h.len
 have HJ:Hid (∀w',JAt (fun b=>w.heap.size<=b) w' (n+1) (.agg #[.int .i64 3,.int .i64 0,.int .i64 0,.string ⟨#[]⟩,.slice none 0 0,.slice none 0 0]) (begunS x)):=fun w'=>by
  have:=begun_jat (S:=fun b=>w.heap.size<=b) (w:=w') (d:=n) (h.good x (h.suf.mem (by simp)));unfold begunV bareV at this;have hb:begunS x= .mk 3 0 0 [] [] []:=by unfold begunS;rw [if_neg (by omega),if_neg (by omega),if_pos (.inl hx),hc];rfl
  rw [hb] at this⊢;exact this
 have HN:=Lib.hid (h.next (x:=x) (by omega));rw [hx] at x0;rw [hc] at x1;unfold trueL at x1;clear h;obtain ⟨P,HPP⟩:∃P,Hid (ts.length - (x::l).length=P):=⟨_,rfl⟩;rw [HPP.out] at hle i1 r1 x0 x1 x2 x3 x4;obtain ⟨NN,HNN⟩:∃N,Hid (ts.length=N):=⟨_,rfl⟩;rw [HNN.out] at i1 hln hle r0;rw [HPP.out] at HN;generalize x.m=M at *;generalize x.e=EE at *;generalize x.p=Q at *;obtain ⟨w1,w2,w3,f1,f2,f3,fb,l1,l2,l3⟩:=fill3 (((w.setCell ⟨pb,1,none⟩ (.int .i64 ((P:Int)+1))).alloc (.cells #[.int .i64 0,.int .i64 0,.int .i64 0,.string ⟨#[]⟩,.slice none 0 0,.slice none 0 0] 49)).alloc (.cells #[.int .i64 4,.string ⟨#[116,114,117,101]⟩,.int .i64 M,.int .i64 EE,.int .i64 Q] 109)) (w.heap.size+1+1) (by simp [World.setCell]);have hs0:(w.setCell ⟨pb,1,none⟩ (.int .i64 ((P:Int)+1))).heap.size=w.heap.size:=by simp [World.setCell]
 have q0:w3.heap[w.heap.size]?=some (.cells #[.int .i64 0,.int .i64 0,.int .i64 0,.string ⟨#[]⟩,.slice none 0 0,.slice none 0 0] 49 (0,0)):=by
  rw [fb.block _ (by simp [World.setCell] <;> omega)];have:=two_old (w.setCell ⟨pb,1,none⟩ (.int .i64 ((P:Int)+1))) (.cells #[.int .i64 0,.int .i64 0,.int .i64 0,.string ⟨#[]⟩,.slice none 0 0,.slice none 0 0] 49) (.cells #[.int .i64 4,.string ⟨#[116,114,117,101]⟩,.int .i64 M,.int .i64 EE,.int .i64 Q] 109)
  rwa [hs0] at this
 have q1:w3.heap[w.heap.size+1]?=some (.cells #[.int .i64 4,.string ⟨#[116,114,117,101]⟩,.int .i64 M,.int .i64 EE,.int .i64 Q] 109 (0,0)):=by
  rw [fb.block _ (by simp [World.setCell] <;> omega)];have:=two_new (w.setCell ⟨pb,1,none⟩ (.int .i64 ((P:Int)+1))) (.cells #[.int .i64 0,.int .i64 0,.int .i64 0,.string ⟨#[]⟩,.slice none 0 0,.slice none 0 0] 49) (.cells #[.int .i64 4,.string ⟨#[116,114,117,101]⟩,.int .i64 M,.int .i64 EE,.int .i64 Q] 109)
  rwa [hs0] at this
 have HB:Hid (Below (w.setCell ⟨pb,1,none⟩ (.int .i64 ((P:Int)+1))).heap.size (w.setCell ⟨pb,1,none⟩ (.int .i64 ((P:Int)+1))) w3):=(((Below.refl _ _).alloc (Nat.le_refl _) _).alloc (by simp) _).trans (fb.mono (by simp;omega));obtain ⟨z0,z1,z2,z3,z4,z5⟩:=six_of q0;obtain ⟨y0,y1,y2,y3,y4⟩:=five_t q1;have g0:=free_of q0 0;have g1:=free_of q0 1;have g2:=free_of q0 2;have g3:=free_of q0 3;have g4:=free_of q0 4;have g5:=free_of q0 5;have mk:=make_map;have hlq:=Own.block_lt q1;clear fb q0 q1 hs0
 go_enter Tryz.func78,Tryz.ntmps78
 go_wp2_with fail
 go_region
 go_wp2_with fail
 refine bodyPost_ret (v:= .agg #[.int .i64 3,.int .i64 0,.int .i64 0,.string ⟨#[]⟩,.slice none 0 0,.slice none 0 0]) (by simp [results,Tryz.results78,go_sem,z0,z1,z2,z3,z4,z5]) rfl ?_;exact rv_end hpl htl (HN.out.below HB.out) ((Chg.setCell (X:=fun k=>k=pb) (Chg.refl _ w) (p:=⟨pb,1,none⟩) (.inl rfl) _).trans (.of_below HB.out)) (fun _ w'=>HJ.out w') _ _ _ _ _ _
end Go.Proofs.YtclghelocglnlaaGreatDoor.Js
namespace Go.Proofs.YtclghelocglnlaaGreatDoor.Js
open Go.RowKit Lex
theorem belowP (w:World) (o:Obj):Below w.heap.size w (w.alloc o):=(Below.refl _ _).alloc (Nat.le_refl _) _
theorem kind_sign (c:UInt8) (h1:c≠91) (h2:c≠123):kindS [c]=0:=by
 unfold kindS;rw [if_neg (by unfold nullL;simp),if_neg (by unfold falseL;simp),if_neg (by unfold trueL;simp),if_neg (by simpa using h1),if_neg (by simpa using h2)]
theorem begun_one {x:Tok} (h:x.k=1):(begunS x).k=kindS x.t:=by unfold begunS;rw [if_neg (by omega),if_neg (by omega),if_pos (.inr h)];rfl
theorem begun_two {x:Tok} (h:x.k=2):(begunS x).k=5:=by unfold begunS;rw [if_pos h];rfl
theorem begun_three {x:Tok} (h:x.k=3):(begunS x).k=4:=by unfold begunS;rw [if_neg (by omega),if_pos h];rfl
theorem begun_four {x:Tok} (h:x.k=4):(begunS x).k=kindS x.t:=by unfold begunS;rw [if_neg (by omega),if_neg (by omega),if_pos (.inl h)];rfl
theorem begun_five {x:Tok} (h:x.k=5):(begunS x).k=0:=by unfold begunS;rw [if_neg (by omega),if_neg (by omega),if_neg (by omega)];rfl
theorem kind_null:kindS nullL=1:=by decide
theorem kind_false:kindS falseL=2:=by decide
theorem kind_true:kindS trueL=3:=by decide
theorem val0 {x:Tok} {l:List Tok} {e:Int} (h:(if (begunS x).k=0 then 40 else 41)=e):valS 0 (x::l)=⟨e,j0,x::l⟩:=by rw [valS,h]
theorem valn {n:Nat} {x:Tok} {l:List Tok} (h0:(begunS x).k≠0) (h6:(begunS x).k≠6) (h7:(begunS x).k≠7):valS (n+1) (x::l)=⟨0,begunS x,l⟩:=by
 rw [valS,if_neg h0,if_neg h6,if_neg h7]
theorem valn0 {n:Nat} {x:Tok} {l:List Tok} (h0:(begunS x).k=0):valS (n+1) (x::l)=⟨40,j0,x::l⟩:=by
 rw [valS,if_pos h0]
theorem rval_ok:∀n,n<=16->RValOk n
 | 0,_=>fun w pb bt cap ts l h=>by
   obtain ⟨x,l',rfl⟩:=ex_cons h.fin;have hD:(16:Int) < ((17 - 0:Nat):Int):=by decide
   rcases h.word x (h.suf.mem (by simp)) with ⟨hk,c,hc⟩ | hk | hk | ⟨hk,hc⟩ | hk
   ·by_cases h1:c=91
    ·subst h1;rw [val0 (show _=(41:Int) from by rw [begun_one hk,hc];decide)];exact rdeep_arr h hk hc _ hD 0
    ·by_cases h2:c=123
     ·subst h2;rw [val0 (show _=(41:Int) from by rw [begun_one hk,hc];decide)];exact rdeep_obj h hk hc _ hD 0
     ·rw [val0 (show _=(40:Int) from by rw [begun_one hk,hc,kind_sign c h1 h2];rfl)];exact rvalue_sign h hk hc h1 h2 _ 0
   ·rw [val0 (show _=(41:Int) from by rw [begun_two hk];rfl)];exact rdeep_text h hk _ hD 0
   ·rw [val0 (show _=(41:Int) from by rw [begun_three hk];rfl)];exact rdeep_num h hk _ hD 0
   ·rw [val0 (show _=(41:Int) from by rw [begun_four hk];rcases hc with hc | hc | hc <;> rw [hc] <;> decide)];exact rdeep_word h hk _ hD 0
   ·rw [val0 (show _=(40:Int) from by rw [begun_five hk];rfl)];exact rvalue_five h hk _ 0
 | n+1,hn=>fun w pb bt cap ts l h=>by
   obtain ⟨x,l',rfl⟩:=ex_cons h.fin;have hD:((17 - (n+1):Nat):Int)<=16:=by omega
   rcases h.word x (h.suf.mem (by simp)) with ⟨hk,c,hc⟩ | hk | hk | ⟨hk,hc⟩ | hk
   ·by_cases h1:c=91
    ·subst h1;have e:(begunS x).k=6:=(by rw [begun_one hk,hc];decide);rw [show valS (n+1) (x::l')=arrS (valS n) l' by rw [valS,if_neg (by rw [e];decide),if_pos e]];exact rvalue_arr n (by omega) (rval_ok n (by omega)) h hk hc
    ·by_cases h2:c=123
     ·subst h2;have e:(begunS x).k=7:=(by rw [begun_one hk,hc];decide);rw [show valS (n+1) (x::l')=objS (valS n) l' by rw [valS,if_neg (by rw [e];decide),if_neg (by rw [e];decide),if_pos e]];exact rvalue_obj n (by omega) (rval_ok n (by omega)) h hk hc
     ·rw [valn0 (by rw [begun_one hk,hc,kind_sign c h1 h2];rfl)];exact rvalue_sign h hk hc h1 h2 _ (n+1)
   ·rw [valn (by rw [begun_two hk];decide) (by rw [begun_two hk];decide) (by rw [begun_two hk];decide)];exact rleaf_text h hk _ hD n
   ·rw [valn (by rw [begun_three hk];decide) (by rw [begun_three hk];decide) (by rw [begun_three hk];decide)];exact rleaf_num h hk _ hD n
   ·rcases hc with hc | hc | hc
    ·rw [valn (by rw [begun_four hk,hc,kind_null];decide) (by rw [begun_four hk,hc,kind_null];decide) (by rw [begun_four hk,hc,kind_null];decide)];exact rleaf_null h hk hc _ hD n
    ·rw [valn (by rw [begun_four hk,hc,kind_false];decide) (by rw [begun_four hk,hc,kind_false];decide) (by rw [begun_four hk,hc,kind_false];decide)];exact rleaf_false h hk hc _ hD n
    ·rw [valn (by rw [begun_four hk,hc,kind_true];decide) (by rw [begun_four hk,hc,kind_true];decide) (by rw [begun_four hk,hc,kind_true];decide)];exact rleaf_true h hk hc _ hD n
   ·rw [valn0 (begun_five hk)];exact rvalue_five h hk _ (n+1)
theorem rscan_l (s:List UInt8) (w:World) (hs:s.length<=maxLen):Calls Tryz.prog 77 #[.string ⟨s.toArray⟩] w (ScanRet (scanS s) w):=Lex.rscan_any ⟨s.toArray⟩ w (by rw [bs_size];exact hs)
theorem rscan_toks (s:List UInt8) (ts:List Tok) (h:scanS s= .inr ts) (w:World) (hs:s.length<=maxLen):Calls Tryz.prog 77 #[.string ⟨s.toArray⟩] w fun e w'=>
 ∃bt cap,e= .returned (.tuple #[.slice (some ⟨bt,0,none⟩) ts.length cap,.int .i64 0,.int .i64 0])/\bt < w'.heap.size/\(∀j,j < ts.length->TokIn w' bt (j * 5) (ts.getD j tok0))/\Below w.heap.size w w'/\w.heap.size<=bt:=by
 refine (rscan_l s w hs).mono ?_;rw [h];rintro e w' ⟨v,rfl,ho,hb⟩;have h2:=ho.2;rcases ToksOwn.at_ ho with ⟨_,_,_,h0⟩ | ⟨b,cap,rfl,_,_,hlt,hT⟩
 ·exact absurd h0 (scanS_inr h).1.ne
 ·refine ⟨b,cap,rfl,hlt,hT,hb,?_⟩;rcases h2 with ⟨hv,_⟩ | ⟨g,cap',cur,hv,hbg,_⟩
  ·cases hv
  ·simp only [Value.slice.injEq,Option.some.injEq,Addr.mk.injEq] at hv;obtain ⟨⟨rfl,_⟩,_⟩:=hv;exact hbg
theorem scanS_word {s:List UInt8} {ts:List Tok} (h:scanS s= .inr ts):WordG ts:=by
 unfold scanS at h
 split at h
 ·cases h
 ·exact scan_tokQ h
theorem pa_new {w:World} {ts:List Tok} {bt cap:Nat} (hb:bt < w.heap.size) (hT:∀j,j < ts.length->TokIn w bt (j * 5) (ts.getD j tok0)) (h:EndL ts/\AllG 1099511627776 ts/\ts.length<=1000000) (hw:WordG ts):
 Pa (w.alloc (.cells #[.slice (some ⟨bt,0,none⟩) ts.length cap,.int .i64 0,.int .i64 0] 119)) w.heap.size bt cap ts ts 0:=
 ⟨by rw [heap_alloc_new,Nat.sub_self];rfl,fun j hj=>(hT j hj).below ((Below.refl w.heap.size w).alloc (Nat.le_refl _) _) hb,by omega,by simp;omega,List.suffix_refl _,h.1,h.2.2,h.2.1,hw⟩
theorem pa_stays {w w1 w2:World} {cs pa vb:Array Value} {T1 T2 T3:TypeId} (hres:w1.heap[w.heap.size]?=some (.cells cs T1 (0,0))) (hbw:Below w.heap.size w w1)
 (hc:Chg (·=w1.heap.size) (w1.alloc (.cells pa T2)) w2):
 (w2.alloc (.cells vb T3)).heap[w.heap.size]?=some (.cells cs T1 (0,0))/\(w2.alloc (.cells vb T3)).heap[w2.heap.size]?=some (.cells vb T3 (0,0))/\Below w.heap.size w (w2.alloc (.cells vb T3))/\w1.heap.size+1<=w2.heap.size/\w.heap.size < w1.heap.size:=by
 have hl:=Own.block_lt hres;have s1:=hc.size;simp at s1
 have h2:w2.heap[w.heap.size]?=some (.cells cs T1 (0,0)):=by
  rw [hc.block _ (by simp;omega) (by omega),Below.heap_alloc _ _ _ hl];exact hres
 have hb2:Below w.heap.size w w2:=(hbw.alloc (by omega) _).trans (hc.below (by simp;omega) (fun k hk=>by omega));exact ⟨by rw [Below.heap_alloc _ _ _ (by omega)];exact h2,heap_alloc_new _ _,hb2.alloc hb2.size _,s1,hl⟩
theorem rparse_any (s:List UInt8) (w:World) (hs:s.length<=maxLen):Calls Tryz.prog 40 #[.string ⟨s.toArray⟩] w (ParseRet (parseS s) w):=by
 have S1:=Lib.hid (fun w=>rscan_l s w hs);unfold ScanRet at S1;obtain ⟨PP,HPP⟩:∃PP,Hid (parseS s=PP):=⟨_,rfl⟩;rw [HPP.out]
 cases hsc:scanS s with
 | inl n=>
   rw [hsc] at S1;have hP:PP=(30,j0,n):=by rw [<-HPP.out];unfold parseS;rw [hsc]
   subst hP;simp only [toksR,errR,placeR] at S1;clear HPP hsc
   go_enter Tryz.func40,Tryz.ntmps40
   go_wp2_with (go_at_call 77;(with_reducible refine (S1.out _).mono ?_);rintro e1 w1 ⟨v,rfl,ho,hb1⟩;obtain ⟨hres,hl2,hbw⟩:=res_block hb1 (Below.refl _ w1);obtain ⟨z0,z1,z2,z3,z4,z5⟩:=six_of hres;have f0:=free_of hres 0;have f1:=free_of hres 1;have f2:=free_of hres 2;have f3:=free_of hres 3;have f4:=free_of hres 4;have f5:=free_of hres 5)
   refine bodyPost_ret (v:= .tuple #[.agg #[.int .i64 0,.int .i64 0,.int .i64 0,.string ⟨#[]⟩,.slice none 0 0,.slice none 0 0],.int .i64 30,.int .i64 n]) (by simp [results,Tryz.results40,go_sem,z0,z1,z2,z3,z4,z5]) rfl ?_;exact ⟨_,_,_,_,_,_,_,_,_,_,rfl,⟨1,zero_jat⟩,below_put6 (bres:=w.heap.size) hbw (Nat.le_refl _) _ _ _ _ _ _⟩
 | inr ts=>
   have S2:=Lib.hid (fun w=>rscan_toks s ts hsc w hs);have hEG:=scanS_inr hsc;have HWG:=Lib.hid (scanS_word hsc);have hP:PP=parseT ts:=by rw [<-HPP.out];unfold parseS;rw [hsc]
   unfold parseT at hP;have HP:=Lib.hid hP;have HEG:=Lib.hid hEG;have V:=Lib.hid (fun w' pb bt cap hr=>rval_ok 16 (by omega) w' pb bt cap ts ts hr);rw [show ((17 - 16:Nat):Int)=1 from rfl] at V;have HVG:=Lib.hid (val_good 16 ts hEG.1);obtain ⟨RR,HRR⟩:∃RR,Hid (valS 16 ts=RR):=⟨_,rfl⟩;rw [HRR.out] at HP HVG V;obtain ⟨y,l2,hl2⟩:=ex_cons HVG.out.1;obtain ⟨ER,JR,LR⟩:=RR;simp only at hl2;subst hl2;have HPN:=Lib.hid (fun w bt cap hb hT=>pa_new (w:=w) (ts:=ts) (bt:=bt) (cap:=cap) hb hT HEG.out HWG.out);clear HPP hsc hEG hP HRR HVG S1;unfold RVRet at V;simp only at V;obtain ⟨n,HN⟩:∃n,Hid (ts.length=n):=⟨_,rfl⟩;rw [HN.out] at S2;have HPN2:=Lib.hid (fun w bt cap hb (hT:∀j,j < n->TokIn w bt (j * 5) (ts.getD j tok0))=>HPN.out w bt cap hb (by rw [HN.out];exact hT));rw [HN.out] at HPN2;obtain ⟨YK,YT,YM,YE,YP⟩:=y
   go_enter Tryz.func40,Tryz.ntmps40
   go_upto_region 6 with (first
    | (go_at_call 77;(with_reducible refine (S2.out _).mono ?_);rintro e1 w1 ⟨bt,cap,rfl,hbt,hT,hb1,hbb⟩;simp at hbb;have HBB:=Lib.hid hbb;clear hbb;have HT:=Lib.hid hT;clear hT;have hr0:=Lib.hid (HPN2.out w1 bt cap hbt HT.out);obtain ⟨hres,hl2,hbw⟩:=res_block hb1 (Below.refl _ w1);have HRES:=Lib.hid hres;have HBW:=Lib.hid hbw;clear hres hbw hb1)
    | (go_at_call 78;(with_reducible refine (V.out _ _ _ _ hr0.out).mono ?_);rintro e2 w2 ⟨k,m,e',t,an,nn,cn,ai,ni,ci,rfl,hr2,hc2,hJ2⟩;have HR2:=Lib.hid hr2;have HC2:=Lib.hid hc2;have HJ2:=Lib.hid hJ2;clear hr2 hc2 hJ2))
   obtain ⟨q1,q2,q3,q4,q5⟩:=pa_stays (vb:=#[.int .i64 k,.int .i64 m,.int .i64 e',.string t,.slice an nn cn,.slice ai ni ci]) (T3:=49) HRES.out HBW.out HC2.out;have HQ3:=Lib.hid q3;have HP3:=Lib.hid (HR2.out.below (belowP w2 (.cells #[.int .i64 k,.int .i64 m,.int .i64 e',.string t,.slice an nn cn,.slice ai ni ci] 49)));have HJ3:=Lib.hid (fun he=>(HJ2.out he).below (belowP w2 (.cells #[.int .i64 k,.int .i64 m,.int .i64 e',.string t,.slice an nn cn,.slice ai ni ci] 49)) (Nat.le_refl _));clear HR2 HC2 HJ2 HRES HBW hr0 HT S2 V HPN HPN2 q3;obtain ⟨x0,x1,x2,x3,x4⟩:=HP3.out.here;obtain ⟨r0,r1,r2⟩:=three_of HP3.out.blk;have pf2:=free_of HP3.out.blk 2;have hpl:=HP3.out.lt;have htl:=HP3.out.blt;have hle:=HP3.out.at_.1;have i1:((ts.length - (⟨YK,YT,YM,YE,YP⟩::l2:List Tok).length:Nat):Int) < (ts.length:Int):=by omega
   have hln:=HP3.out.len;have hpb:w.heap.size < w1.heap.size:=q5;have hbb:w.heap.size < bt:=by have:=HBB.out;omega
   generalize hw3:w2.alloc (.cells #[.int .i64 k,.int .i64 m,.int .i64 e',.string t,.slice an nn cn,.slice ai ni ci] 49)=w3 at *;have hsz3:w2.heap.size < w3.heap.size:=Own.block_lt q2;obtain ⟨P,HPP⟩:∃P,Hid (ts.length - (⟨YK,YT,YM,YE,YP⟩::l2:List Tok).length=P):=⟨_,rfl⟩;rw [HPP.out] at hle i1 r1 x0 x1 x2 x3 x4;rw [HN.out] at i1 hln hle r0;clear hw3;simp only at x0 x4;have f0:=free_of q1 0;have f1:=free_of q1 1;have f2:=free_of q1 2;have f3:=free_of q1 3;have f4:=free_of q1 4;have f5:=free_of q1 5;obtain ⟨z0,z1,z2,z3,z4,z5⟩:=six_of q1;obtain ⟨y0,y1,y2,y3,y4,y5⟩:=six_of q2;have hres3:=Own.block_lt q1;clear x1 x2 x3
   by_cases hER:ER=0
   ·subst hER
    by_cases hk5:YK=5
    ·have hPP:PP=(0,JR,0):=(by rw [HP.out];unfold topS;simp [hk5]);subst hPP;subst hk5;clear HP
     go_quiet (fail)
     go_wp2_with fail
     refine bodyPost_ret (v:= .tuple #[.agg #[.int .i64 k,.int .i64 m,.int .i64 e',.string t,.slice an nn cn,.slice ai ni ci],.int .i64 0,.int .i64 0]) (by simp [results,Tryz.results40,go_sem,z0,z1,z2,z3,z4,z5]) rfl ?_
     have hJ4:JAt (fun b=>w.heap.size<=b) (put6 (w3.drewN nq) w.heap.size 0 (.int .i64 k) (.int .i64 m) (.int .i64 e') (.string t) (.slice an nn cn) (.slice ai ni ci)) 16 (.agg #[.int .i64 k,.int .i64 m,.int .i64 e',.string t,.slice an nn cn,.slice ai ni ci]) JR:=
      (HJ3.out trivial).keep (fun b hb _=>by simp at hb;omega) (fun b hb hlt=>by simp at hb;exact (put6_block _ _ _ _ _ _ _ _ _ _ (by omega)).trans rfl) (by rw [put6_size];exact Nat.le_refl _)
     exact ⟨_,_,_,_,_,_,_,_,_,_,rfl,⟨16,hJ4⟩,below_put6 (bres:=w.heap.size) (below_drewN HQ3.out nq) (Nat.le_refl _) _ _ _ _ _ _⟩
    ·have hPP:PP=(40,j0,YP):=(by rw [HP.out];unfold topS;simp [hk5]);subst hPP;clear HP;have hne:((YK:Int) !=5)=true:=(by simp;omega);have HB4:=Lib.hid (fun nq=>(below_drewN HQ3.out nq).setCell (p:=⟨w1.heap.size,2,none⟩) (by show w.heap.size<=w1.heap.size;omega) (.int .i64 40))
     go_quiet (fail)
     go_wp2_with fail
     go_region
     go_wp2_with fail
     refine bodyPost_ret (v:= .tuple #[.agg #[.int .i64 0,.int .i64 0,.int .i64 0,.string ⟨#[]⟩,.slice none 0 0,.slice none 0 0],.int .i64 40,.int .i64 YP]) (by simp [results,Tryz.results40,go_sem,z0,z1,z2,z3,z4,z5]) rfl ?_;exact ⟨_,_,_,_,_,_,_,_,_,_,rfl,⟨1,zero_jat⟩,(below_put6 (bres:=w.heap.size) (HB4.out nq) (Nat.le_refl _) (.int .i64 0) (.int .i64 0) (.int .i64 0) (.string ⟨#[]⟩) (.slice none 0 0) (.slice none 0 0)).drew⟩
   ·have hPP:PP=(ER,j0,YP):=(by rw [HP.out];unfold topS;rw [if_neg hER];rfl);subst hPP;have hne:(ER !=0)=true:=(by simpa using hER);have hne2:(ER==0)=false:=(by simpa using hER);clear HP
    go_quiet (fail)
    go_wp2_with fail
    go_region
    go_wp2_with fail
    refine bodyPost_ret (v:= .tuple #[.agg #[.int .i64 0,.int .i64 0,.int .i64 0,.string ⟨#[]⟩,.slice none 0 0,.slice none 0 0],.int .i64 ER,.int .i64 YP]) (by simp [results,Tryz.results40,go_sem,z0,z1,z2,z3,z4,z5]) rfl ?_;exact ⟨_,_,_,_,_,_,_,_,_,_,rfl,⟨1,zero_jat⟩,below_put6 (bres:=w.heap.size) (below_drewN HQ3.out (nq+1)) (Nat.le_refl _) _ _ _ _ _ _⟩
end Go.Proofs.YtclghelocglnlaaGreatDoor.Js
