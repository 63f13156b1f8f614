import Derived.Test.YtclghelocglnlaaGreatDoorPr
import Derived.BigRegion
import Derived.Test.YtclghelocglnlaaGreatDoorWr3
import Derived.Deep.RegionLaw
import Derived.Deep.DrawnRows
set_option maxHeartbeats 0
set_option maxRecDepth 100000
set_option linter.all false
namespace Go.Proofs.YtclghelocglnlaaGreatDoor.Js
open Go.RowKit Lex
structure Rd (w:World) (rb bt cap:Nat) (ts l:List Tok):Prop where
 blk:w.heap[rb]?=some (.cells #[.slice (some ⟨bt,0,none⟩) ts.length cap,.int .i64 ((ts.length - l.length:Nat):Int)] 105 (0,0))
 toks:∀j,j < ts.length->TokIn w bt (j * 5) (ts.getD j tok0)
 ne:bt≠rb
 blt:bt < w.heap.size
 suf:l <:+ts
 fin:EndL l
 len:ts.length<=1000000
 good:AllG 1099511627776 ts
theorem Rd.lt {w:World} {rb bt cap:Nat} {ts l:List Tok} (h:Rd w rb bt cap ts l):rb < w.heap.size:=Own.block_lt h.blk
theorem Rd.keep {w w':World} {rb bt cap:Nat} {ts l:List Tok} (h:Rd w rb bt cap ts l) (h1:w'.heap[rb]?=w.heap[rb]?) (h2:w'.heap[bt]?=w.heap[bt]?) (hs:w.heap.size<=w'.heap.size):Rd w' rb bt cap ts l:=
 ⟨h1.trans h.blk,fun j hj=>by
   obtain ⟨a,b,c,d,e⟩:=h.toks j hj;have q:∀o,w'.cell? ⟨bt,o,none⟩=w.cell? ⟨bt,o,none⟩:=fun o=>World.cell?_of_block (w:=w) (a:=⟨bt,o,none⟩) h2
   exact ⟨(q _).trans a,(q _).trans b,(q _).trans c,(q _).trans d,(q _).trans e⟩,h.ne,Nat.lt_of_lt_of_le h.blt hs,h.suf,h.fin,h.len,h.good⟩
theorem Rd.below {w w':World} {rb bt cap:Nat} {ts l:List Tok} (h:Rd w rb bt cap ts l) (hb:Below w.heap.size w w'):Rd w' rb bt cap ts l:=
 h.keep (hb.block _ h.lt) (hb.block _ h.blt) hb.size
theorem Rd.at_ {w:World} {rb bt cap:Nat} {ts l:List Tok} {x:Tok} (h:Rd w rb bt cap ts (x::l)):ts.length - (x::l).length < ts.length/\ts.getD (ts.length - (x::l).length) tok0=x:=by
 obtain ⟨p,hp⟩:=h.suf;have hl:=congrArg List.length hp;rw [List.length_append] at hl;have he:ts.length - (x::l).length=p.length:=by omega
 refine ⟨by simp at hl⊢;omega,?_⟩;rw [he,<-hp,List.getD_eq_getElem?_getD,List.getElem?_append_right (Nat.le_refl _)];simp
theorem Rd.next {w:World} {rb bt cap:Nat} {ts l:List Tok} {x:Tok} (h:Rd w rb bt cap ts (x::l)) (hx:x.k≠5):
 Rd (w.setCell ⟨rb,1,none⟩ (.int .i64 (((ts.length - (x::l).length:Nat):Int)+1))) rb bt cap ts l:=by
 have h1:=h.at_.1;have hl:=h.suf.length_le;simp at hl;refine ⟨?_,fun j hj=> ?_,h.ne,by simpa [World.setCell] using h.blt,(List.suffix_cons x l).trans h.suf,h.fin.tail hx,h.len,h.good⟩
 ·rw [show (((ts.length - (x::l).length:Nat):Int)+1)=((ts.length - l.length:Nat):Int) by simp at h1⊢;omega];simp only [World.setCell];rw [Array.getElem?_modify,if_pos rfl,h.blk]
  rfl
 ·obtain ⟨a,b,c,d,e⟩:=h.toks j hj;have q:∀o v,(w.setCell ⟨rb,1,none⟩ v).cell? ⟨bt,o,none⟩=w.cell? ⟨bt,o,none⟩:=fun o v=>World.cell?_of_block (w:=w) (a:=⟨bt,o,none⟩) (Below.heap_setCell _ _ _ _ h.ne)
  exact ⟨(q _ _).trans a,(q _ _).trans b,(q _ _).trans c,(q _ _).trans d,(q _ _).trans e⟩
theorem two_of {w:World} {b:Nat} {T:TypeId} {f:Nat×Nat} {c0 c1:Value} (h:w.heap[b]?=some (.cells #[c0,c1] T f)):w.cell? ⟨b,0,none⟩=some c0/\w.cell? ⟨b,1,none⟩=some c1:=by
 have k:∀i,w.cell? ⟨b,i,none⟩=(#[c0,c1]:Array Value)[i]?:=fun i=>cell_of_row _ _ _ _ _ _ h
 exact ⟨k 0,k 1⟩
theorem free_of {w:World} {b:Nat} {cs:Array Value} {T:TypeId} (h:w.heap[b]?=some (.cells cs T (0,0))) (i:Nat):w.frozen? ⟨b,i,none⟩=false:=by
 simp [World.frozen?,h]
theorem here_any {w:World} {rb bt cap:Nat} {ts l:List Tok} {x:Tok} (h:Rd w rb bt cap ts (x::l)):Calls Tryz.prog 68 #[.pointer (some ⟨rb,0,none⟩)] w (Ret (tokV x) w):=by
 obtain ⟨h1,h2⟩:=h.at_;have hT:=h.toks _ h1;rw [h2] at hT;obtain ⟨x0,x1,x2,x3,x4⟩:=hT;obtain ⟨r0,r1⟩:=two_of h.blk;have hrl:=h.lt;have htl:=h.blt;have i0:(0:Int)<=((ts.length - (x::l).length:Nat):Int):=by omega
 have i1:((ts.length - (x::l).length:Nat):Int) < (ts.length:Int):=by omega
 have hlen:=h.len;clear h h2;generalize ts.length - (x::l).length=p at *;generalize ts.length=n at *;unfold tokV;obtain ⟨K,T,M,E,Q⟩:=x;simp only at x0 x1 x2 x3 x4⊢
 go_enter Tryz.func68,Tryz.ntmps68
 go_wp2
 go_region
 all_goals go_wp2_with fail
 all_goals refine bodyPost_ret (v:= .agg #[.int .i64 K,.string ⟨T.toArray⟩,.int .i64 M,.int .i64 E,.int .i64 Q]) (by simp [results,Tryz.results68,go_sem]) rfl ⟨rfl,?_⟩
 all_goals exact ((Below.refl _ _).alloc (Nat.le_refl _) _).drew
theorem take_any {w:World} {rb bt cap:Nat} {ts l:List Tok} {x:Tok} (h:Rd w rb bt cap ts (x::l)) (c:UInt8) (s:ByteArray) (hs:(⟨#[c]⟩:ByteArray)=s):
 Calls Tryz.prog 163 #[.pointer (some ⟨rb,0,none⟩),.string s] w fun e w'=>e= .returned (.bool (sgB x c))/\Rd w' rb bt cap ts (if sgB x c=true then l else x::l)/\Moves w.heap.size rb w w':=by
 subst hs;have H1:=Lib.hid (here_any h);unfold tokV at H1
 by_cases hk:x.k=1
 ·by_cases ht:x.t= [c]
  ·have hsg:sgB x c=true:=by unfold sgB;simp [hk,ht]
   rw [hsg];have HN:=Lib.hid (fun w' (hb:Below w.heap.size w w')=>(h.below hb).next (by omega));rw [hk,ht] at H1;have hrl:=h.lt;have hl:=h.len;have hle:=h.at_.1;have HB:=Lib.hid (fun w' (hb:Below w.heap.size w w')=>(h.below hb).blk);clear h hk ht hsg;generalize hP:ts.length - (x::l).length=P at *;have HPP:=Lib.hid hP;clear hP
   go_enter Tryz.func163,Tryz.ntmps163
   go_wp2_with (go_at_call 68;(with_reducible refine (H1.out).mono ?_);rintro e1 w1 ⟨rfl,hb1⟩;have hs1:=hb1.size;obtain ⟨r0,r1⟩:=two_of (HB.out w1 hb1);have rf:=free_of (HB.out w1 hb1) 1;have hrl2:rb < w1.heap.size:=by omega)
   go_ret
   refine ⟨rfl,(HN.out w1 hb1).below ((Below.refl _ _).alloc (Nat.le_refl _) _),((Moves.of_below hb1).setCell (p:=⟨rb,1,none⟩) (.inr rfl) _).alloc ?_ _⟩;show w.heap.size<=(w1.setCell _ _).heap.size
   simpa [World.setCell] using hs1
  ·have hsg:sgB x c=false:=by unfold sgB;simp [hk,ht]
   rw [hsg];have hne:(x.t== [c])=false:=by simpa using ht
   rw [hk] at H1;have HN:=Lib.hid (fun w' (hb:Below w.heap.size w w')=>(h.below hb));clear h hk ht hsg
   go_enter Tryz.func163,Tryz.ntmps163
   go_wp2_with (go_at_call 68;(with_reducible refine (H1.out).mono ?_);rintro e1 w1 ⟨rfl,hb1⟩;have hs1:=hb1.size)
   go_ret
   have hbb:=fun o=>hb1.alloc hs1 o
   exact ⟨rfl,HN.out _ (hbb _),Moves.of_below (hbb _)⟩
 ·have hsg:sgB x c=false:=by unfold sgB;simp [hk]
  rw [hsg];have hne:((x.k:Int) !=1)=true:=by simp;omega
  have HN:=Lib.hid (fun w' (hb:Below w.heap.size w w')=>(h.below hb));clear h hk hsg
  go_enter Tryz.func163,Tryz.ntmps163
  go_wp2_with (go_at_call 68;(with_reducible refine (H1.out).mono ?_);rintro e1 w1 ⟨rfl,hb1⟩;have hs1:=hb1.size)
  go_ret
  have hbb:=fun o=>hb1.alloc hs1 o
  exact ⟨rfl,HN.out _ (hbb _),Moves.of_below (hbb _)⟩
theorem beq_of_ne {a b:List UInt8} (h:a≠b):(a==b)=false:=by simpa using h
theorem kindOf_any (t:List UInt8) (w:World):Calls Tryz.prog 135 #[.string ⟨t.toArray⟩] w fun e w'=>e= .returned (.int .i64 (kindS t))/\w=w':=by
 unfold kindS nullL falseL trueL
 by_cases h1:t= [110,117,108,108]
 ·subst h1
  go_enter Tryz.func135,Tryz.ntmps135
  go_wp2_with fail
  go_ret
  exact ⟨rfl,rfl⟩
 ·rw [if_neg h1];have e1:=beq_of_ne h1
  by_cases h2:t= [102,97,108,115,101]
  ·subst h2
   go_enter Tryz.func135,Tryz.ntmps135
   go_wp2_with fail
   go_ret
   exact ⟨rfl,rfl⟩
  ·rw [if_neg h2];have e2:=beq_of_ne h2
   by_cases h3:t= [116,114,117,101]
   ·subst h3
    go_enter Tryz.func135,Tryz.ntmps135
    go_wp2_with fail
    go_ret
    exact ⟨rfl,rfl⟩
   ·rw [if_neg h3];have e3:=beq_of_ne h3
    by_cases h4:t= [91]
    ·subst h4
     go_enter Tryz.func135,Tryz.ntmps135
     go_wp2_with fail
     go_ret
     exact ⟨rfl,rfl⟩
    ·rw [if_neg h4];have e4:=beq_of_ne h4
     by_cases h5:t= [123]
     ·subst h5
      go_enter Tryz.func135,Tryz.ntmps135
      go_wp2_with fail
      go_ret
      exact ⟨rfl,rfl⟩
     ·rw [if_neg h5];have e5:=beq_of_ne h5
      go_enter Tryz.func135,Tryz.ntmps135
      go_wp2_with fail
      go_ret
      exact ⟨rfl,rfl⟩
def bareV (k m e:Int) (t:List UInt8):Value:= .agg #[.int .i64 k,.int .i64 m,.int .i64 e,.string ⟨t.toArray⟩,.slice none 0 0,.slice none 0 0]
def begunV (x:Tok):Value:=bareV (begunS x).k (begunS x).m (begunS x).e (begunS x).t
theorem begun_any (x:Tok) (w:World):Calls Tryz.prog 97 #[tokV x] w (Ret (begunV x) w):=by
 obtain ⟨K,T,M,E,Q⟩:=x;unfold begunV begunS tokV;simp only;have hbb:∀o o',Below w.heap.size w ((w.alloc o).alloc o'):=fun o o'=>((Below.refl _ _).alloc (Nat.le_refl _) _).alloc (by simp) _
 have HB:=Lib.hid hbb;clear hbb;have hq:=fun w=>kindOf_any T w
 have HQ:=Lib.hid hq;clear hq
 by_cases h2:K=2
 ·subst h2;simp only [if_true,J.k,J.m,J.e,J.t]
  go_enter Tryz.func97,Tryz.ntmps97
  go_wp2_with fail
  exact bodyPost_ret (v:=bareV 5 0 0 T) (by simp [bareV,results,Tryz.results97,go_sem]) rfl ⟨rfl,HB.out _ _⟩
 ·rw [if_neg h2];have e2:((K:Int)==2)=false:=by simp;omega
  by_cases h3:K=3
  ·subst h3;simp only [if_true,J.k,J.m,J.e,J.t]
   go_enter Tryz.func97,Tryz.ntmps97
   go_wp2_with fail
   exact bodyPost_ret (v:=bareV 4 M E []) (by simp [bareV,results,Tryz.results97,go_sem]) rfl ⟨rfl,HB.out _ _⟩
  ·rw [if_neg h3];have e3:((K:Int)==3)=false:=by simp;omega
   by_cases h4:K=4∨K=1
   ·rw [if_pos h4];simp only [J.k,J.m,J.e,J.t];generalize kindS T=R at *;rcases h4 with rfl | rfl
    all_goals
     go_enter Tryz.func97,Tryz.ntmps97
     go_wp2_with (go_at_call 135;(with_reducible refine (HQ.out _).mono ?_);rintro e1 w1 ⟨rfl,rfl⟩)
     exact bodyPost_ret (v:=bareV R 0 0 []) (by simp [bareV,results,Tryz.results97,go_sem]) rfl ⟨rfl,HB.out _ _⟩
   ·rw [if_neg h4];have e4:((K:Int)==4)=false:=(by simp;omega);have e1:((K:Int)==1)=false:=(by simp;omega);simp only [j0,J.k,J.m,J.e,J.t];clear h2 h3 h4
    go_enter Tryz.func97,Tryz.ntmps97
    go_wp2_with fail
    exact bodyPost_ret (v:=bareV 0 0 0 []) (by simp [bareV,results,Tryz.results97,go_sem]) rfl ⟨rfl,HB.out _ _⟩
end Go.Proofs.YtclghelocglnlaaGreatDoor.Js
namespace Go.Proofs.YtclghelocglnlaaGreatDoor.Js
open Go.RowKit Lex
structure Chg (X:Nat->Prop) (w w':World):Prop where
 os:w'.os=w.os
 tape:w'.tape=w.tape
 output:w'.output=w.output
 size:w.heap.size<=w'.heap.size
 block:∀k,k < w.heap.size->¬X k->w'.heap[k]?=w.heap[k]?
theorem Chg.refl (X:Nat->Prop) (w:World):Chg X w w:=⟨rfl,rfl,rfl,Nat.le_refl _,fun _ _ _=>rfl⟩
theorem Chg.trans {X:Nat->Prop} {a b c:World} (h:Chg X a b) (k:Chg X b c):Chg X a c:=
 ⟨k.os.trans h.os,k.tape.trans h.tape,k.output.trans h.output,Nat.le_trans h.size k.size,fun i hi hx=>(k.block i (Nat.lt_of_lt_of_le hi h.size) hx).trans (h.block i hi hx)⟩
theorem Chg.mono {X Y:Nat->Prop} {w w':World} (h:Chg X w w') (hX:∀k,k < w.heap.size->X k->Y k):Chg Y w w':=⟨h.os,h.tape,h.output,h.size,fun k hk hx=>h.block k hk (fun hy=>hx (hX k hk hy))⟩
theorem Chg.of_below {X:Nat->Prop} {w w':World} (h:Below w.heap.size w w'):Chg X w w':=⟨h.os,h.tape,h.output,h.size,fun k hk _=>h.block k hk⟩
theorem Chg.of_moves {x:Nat} {w w':World} (h:Moves w.heap.size x w w'):Chg (·=x) w w':=⟨h.os,h.tape,h.output,h.size,fun k hk hx=>h.block k hk hx⟩
theorem Chg.alloc {X:Nat->Prop} {a w:World} (h:Chg X a w) (o:Obj):Chg X a (w.alloc o):=h.trans (.of_below ((Below.refl _ _).alloc (Nat.le_refl _) _))
theorem Chg.drew {X:Nat->Prop} {a w:World} (h:Chg X a w):Chg X a w.drew:=⟨h.os,h.tape,h.output,h.size,h.block⟩
theorem Chg.setCell {X:Nat->Prop} {a w:World} (h:Chg X a w) {p:Addr} (hp:X p.block∨a.heap.size<=p.block) (u:Value):Chg X a (w.setCell p u):=
 ⟨h.os,h.tape,h.output,by simpa [World.setCell] using h.size,fun k hk hx=>(Below.heap_setCell _ _ _ _ (fun e=>by subst e;rcases hp with hp | hp;exact hx hp;omega)).trans (h.block k hk hx)⟩
theorem Chg.grown {X:Nat->Prop} {a w w':World} {row:Option Nat} (h:Chg X a w) (hg:w.grownBy w' row) (hr:∀k,row=some k->X k∨a.heap.size<=k):Chg X a w':=
 ⟨hg.os.trans h.os,hg.tape.trans h.tape,hg.output.trans h.output,Nat.le_trans h.size hg.size,fun k hk hx=>(hg.block k (Nat.lt_of_lt_of_le hk h.size) (fun e=>by rcases hr k e.symm with h' | h';exact hx h';omega)).trans (h.block k hk hx)⟩
theorem Chg.below {X:Nat->Prop} {w w':World} {B:Nat} (h:Chg X w w') (hB:B<=w.heap.size) (hX:∀k,X k->B<=k):Below B w w':=⟨h.os,h.tape,h.output,h.size,fun k hk=>h.block k (by omega) (fun hx=>by have:=hX k hx;omega)⟩
def untilS {σ:Type} (step:σ->List Tok->Int×σ×List Tok) (close:UInt8):Nat->σ->List Tok->Int×σ×List Tok
 | 0,st,l=>(40,st,l)
 | n+1,st,l=>
   if (step st l).1=0 then
    match (step st l).2.2 with
    | []=>(40,(step st l).2.1,[])
    | y::l'=>if sgB y close=true then (0,(step st l).2.1,l') else if sgB y 44=true then untilS step close n (step st l).2.1 l' else (40,(step st l).2.1,y::l')
   else step st l
def StepOk {σ:Type} (fn:FuncId) (caps:Array Value) (X:Nat->Prop) (Inv:σ->World->Prop) (Bad:World->Prop) (step:σ->List Tok->Int×σ×List Tok) (cnt:σ->Nat) (rb bt cap:Nat) (ts:List Tok):Prop:=
 ∀st l w,Inv st w->Rd w rb bt cap ts l->cnt st+l.length<=ts.length->Calls Tryz.prog fn caps w fun e w'=>e= .returned (.int .i64 (step st l).1)/\Rd w' rb bt cap ts (step st l).2.2/\Chg X w w'/\((step st l).1=0->Inv (step st l).2.1 w')/\Bad w'/\((step st l).1=0->(step st l).2.2.length < l.length)
def posOf (w:World) (rb:Nat):Nat:=match w.cell? ⟨rb,1,none⟩ with
 | some v=>(intOf v).toNat
 | none=>0
theorem Rd.pos {w:World} {rb bt cap:Nat} {ts l:List Tok} (h:Rd w rb bt cap ts l):ts.length - posOf w rb=l.length:=by
 unfold posOf;rw [(two_of h.blk).2];have:=h.suf.length_le;simp [intOf]
 omega
theorem ex_cons {l:List Tok} (h:EndL l):∃y r,l=y::r:=by
 cases l with
 | nil=>exact absurd rfl h.ne
 | cons y r=>exact ⟨y,r,rfl⟩
theorem until_arr {σ:Type} (caps:Array Value) (X:Nat->Prop) (Inv:σ->World->Prop) (Bad:World->Prop) (step:σ->List Tok->Int×σ×List Tok) (cnt:σ->Nat) (hcnt:∀st l,cnt (step st l).2.1<=cnt st+1) (rb bt cap:Nat) (ts:List Tok) (close:UInt8) (s:ByteArray) (hs:(⟨#[close]⟩:ByteArray)=s)
 (hX:X rb) (hst:StepOk 137 caps X Inv Bad step cnt rb bt cap ts) (hki:∀st w w',Inv st w->Chg (·=rb) w w'->Inv st w') (hkb:∀w w',Bad w->Chg (·=rb) w w'->Bad w') (hib:∀st w,Inv st w->Bad w)
 (st:σ) (x:Tok) (l:List Tok) (w:World) (hI:Inv st w) (hR:Rd w rb bt cap ts (x::l)) (hc0:cnt st+(x::l).length<=ts.length):
 Calls Tryz.prog 136 #[.pointer (some ⟨rb,0,none⟩),.string s,.func (.func 137) #[] caps] w fun e w'=>
  let r:=if sgB x close=true then (0,st,l) else untilS step close (x::l).length st (x::l)
  e= .returned (.int .i64 r.1)/\Rd w' rb bt cap ts r.2.2/\Chg X w w'/\(r.1=0->Inv r.2.1 w')/\Bad w':=by
 have T1:=Lib.hid (take_any hR close s hs);have HI:=Lib.hid hI;have HR:=Lib.hid hR;have HST:=Lib.hid hst;have hmX:∀{w w'},Chg (·=rb) w w'->Chg X w w':=fun h=>h.mono (fun k _ e=>by subst e;exact hX)
 have HM:Hid (∀w w',Chg (·=rb) w w'->Chg X w w'):=fun w w' h=>hmX h
 have HKI:=Lib.hid hki;have HKB:=Lib.hid hkb;have HIB:=Lib.hid hib;have HC0:=Lib.hid hc0;have HCN:=Lib.hid hcnt;clear hI hR hst hmX hki hkb hib hX hc0 hcnt
 cases hc:sgB x close with
 | true=>
   rw [hc] at T1;simp only [if_true] at T1⊢
   go_enter Tryz.func136,Tryz.ntmps136
   go_wp2_with (go_at_call 163;(with_reducible refine (T1.out).mono ?_);rintro e1 w1 ⟨rfl,hR1,hm1⟩)
   go_ret
   have hc1:=Chg.of_moves hm1;exact ⟨rfl,hR1,HM.out _ _ hc1,fun _=>HKI.out _ _ _ HI.out hc1,HKB.out _ _ (HIB.out _ _ HI.out) hc1⟩
 | false=>
   rw [hc] at T1;simp only [Bool.false_eq_true,if_false] at T1⊢;obtain ⟨R,HRR⟩:∃R,Hid (untilS step close (x::l).length st (x::l)=R):=⟨_,rfl⟩;rw [HRR.out]
   go_enter Tryz.func136,Tryz.ntmps136
   go_wp2_with (go_at_call 163;(with_reducible refine (T1.out).mono ?_);rintro e1 w1 ⟨rfl,hR1,hm1⟩)
   have hc1:=Chg.of_moves hm1;have HI1:=Lib.hid (HKI.out _ _ _ HI.out hc1);have HC1:=Lib.hid (HM.out _ _ hc1);have HSZ:=Lib.hid hR1.suf.length_le;clear hm1 hc1 T1 HI HR
   go_loopw [] (fun wr=>∃(n:Nat) (st':σ) (l':List Tok),Rd wr rb bt cap ts l'/\Hid (Inv st' wr)/\Hid (Chg X w wr)/\Hid (R=untilS step close n st' l')/\l'.length<=n/\cnt st'+l'.length<=ts.length) (fun wr=>ts.length - posOf wr rb)
   case atStart=>exact ⟨_,st,x::l,hR1,HI1,HC1,HRR.out.symm,Nat.le_refl _,HC0.out⟩
   case round=>
    clear HRR HI1 HC1 hR1;obtain ⟨n,st',l',hR1,HI1,HC1,HRR,hn,hcl⟩:=hrel;have hpos:=hR1.pos;have hll:=hR1.fin.ne;have hl0:0 < l'.length:=List.length_pos_iff.2 hll;obtain ⟨n',rfl⟩:∃n',n=n'+1:=⟨n - 1,by omega⟩;have C:=Lib.hid (HST.out st' l' wr HI1.out hR1 hcl);have HCS:=Lib.hid (HCN.out st' l');have HU:=Lib.hid (show untilS step close (n'+1) st' l'=_ from by rw [untilS]);generalize step st' l'=S at *;obtain ⟨E,st2,l2⟩:=S;simp only at C HU HCS;clear hR1 HI1
    by_cases hE:E=0
    ·subst hE;simp only [if_true,true_implies,forall_const] at HU C
     go_wp2_with (go_at_call 137;(with_reducible refine (C.out).mono ?_);rintro e1 w2 ⟨rfl,hR2,hc2,hI2,hb2,hlt2⟩)
     obtain ⟨y,l3,rfl⟩:=ex_cons hR2.fin;have hc02:=HC1.out.trans hc2;simp only at HU;have T2:=take_any hR2 close s hs
     cases hy:sgB y close with
     | true=>
       rw [hy] at T2 HU;simp only [if_true] at T2 HU
       (with_reducible refine T2.mono ?_)
       rintro e2 w3 ⟨rfl,hR3,hm3⟩;have hc3:=Chg.of_moves hm3
       go_wp2_with fail
       go_ret
       rw [HRR.out,HU.out];exact ⟨rfl,hR3,hc02.trans (HM.out _ _ hc3),fun _=>HKI.out _ _ _ hI2 hc3,HKB.out _ _ hb2 hc3⟩
     | false=>
       rw [hy] at T2 HU;simp only [Bool.false_eq_true,if_false] at T2 HU
       (with_reducible refine T2.mono ?_)
       rintro e2 w3 ⟨rfl,hR3,hm3⟩;have hc3:=Chg.of_moves hm3;have T3:=take_any hR3 44 ⟨#[44]⟩ rfl;have HI3:=Lib.hid (HKI.out _ _ _ hI2 hc3);have HB3:=Lib.hid (HKB.out _ _ hb2 hc3);have hc03:=hc02.trans (HM.out _ _ hc3);clear T2 hR3 hR2 hI2 hb2 hc2 hc02 hm3 hc3 C
       cases hz:sgB y 44 with
       | true=>
         rw [hz] at T3 HU;simp only [if_true] at T3 HU
         go_wp2_with fail
         (with_reducible refine T3.mono ?_)
         rintro e3 w4 ⟨rfl,hR4,hm4⟩;have hc4:=Chg.of_moves hm4;have hpos4:=hR4.pos
         go_wp2_with fail
         go_roundw
         case rel=>exact ⟨n',st2,l3,hR4,HKI.out _ _ _ HI3.out hc4,hc03.trans (HM.out _ _ hc4),HRR.out.trans HU.out,by simp at hlt2;omega,by have:=HCS.out;simp at hlt2;omega⟩
         case measure=>rw [hpos4,hpos];simp at hlt2;omega
       | false=>
         rw [hz] at T3 HU;simp only [Bool.false_eq_true,if_false] at T3 HU
         go_wp2_with fail
         (with_reducible refine T3.mono ?_)
         rintro e3 w4 ⟨rfl,hR4,hm4⟩;have hc4:=Chg.of_moves hm4
         go_wp2_with fail
         go_ret
         rw [HRR.out,HU.out];exact ⟨rfl,hR4,hc03.trans (HM.out _ _ hc4),fun h=>absurd (show (40:Int)=0 from h) (by decide),HKB.out _ _ HB3.out hc4⟩
    ·have hne:(E !=0)=true:=(by simpa using hE);rw [if_neg hE] at HU
     go_wp2_with (go_at_call 137;(with_reducible refine (C.out).mono ?_);rintro e1 w2 ⟨rfl,hR2,hc2,hI2,hb2,hlt2⟩)
     go_ret
     rw [HRR.out,HU.out];exact ⟨rfl,hR2,HC1.out.trans hc2,fun h=>absurd h hE,hb2⟩
theorem until_obj {σ:Type} (caps:Array Value) (X:Nat->Prop) (Inv:σ->World->Prop) (Bad:World->Prop) (step:σ->List Tok->Int×σ×List Tok) (cnt:σ->Nat) (hcnt:∀st l,cnt (step st l).2.1<=cnt st+1) (rb bt cap:Nat) (ts:List Tok) (close:UInt8) (s:ByteArray) (hs:(⟨#[close]⟩:ByteArray)=s)
 (hX:X rb) (hst:StepOk 138 caps X Inv Bad step cnt rb bt cap ts) (hki:∀st w w',Inv st w->Chg (·=rb) w w'->Inv st w') (hkb:∀w w',Bad w->Chg (·=rb) w w'->Bad w') (hib:∀st w,Inv st w->Bad w)
 (st:σ) (x:Tok) (l:List Tok) (w:World) (hI:Inv st w) (hR:Rd w rb bt cap ts (x::l)) (hc0:cnt st+(x::l).length<=ts.length):
 Calls Tryz.prog 136 #[.pointer (some ⟨rb,0,none⟩),.string s,.func (.func 138) #[] caps] w fun e w'=>
  let r:=if sgB x close=true then (0,st,l) else untilS step close (x::l).length st (x::l)
  e= .returned (.int .i64 r.1)/\Rd w' rb bt cap ts r.2.2/\Chg X w w'/\(r.1=0->Inv r.2.1 w')/\Bad w':=by
 have T1:=Lib.hid (take_any hR close s hs);have HI:=Lib.hid hI;have HR:=Lib.hid hR;have HST:=Lib.hid hst;have hmX:∀{w w'},Chg (·=rb) w w'->Chg X w w':=fun h=>h.mono (fun k _ e=>by subst e;exact hX)
 have HM:Hid (∀w w',Chg (·=rb) w w'->Chg X w w'):=fun w w' h=>hmX h
 have HKI:=Lib.hid hki;have HKB:=Lib.hid hkb;have HIB:=Lib.hid hib;have HC0:=Lib.hid hc0;have HCN:=Lib.hid hcnt;clear hI hR hst hmX hki hkb hib hX hc0 hcnt
 cases hc:sgB x close with
 | true=>
   rw [hc] at T1;simp only [if_true] at T1⊢
   go_enter Tryz.func136,Tryz.ntmps136
   go_wp2_with (go_at_call 163;(with_reducible refine (T1.out).mono ?_);rintro e1 w1 ⟨rfl,hR1,hm1⟩)
   go_ret
   have hc1:=Chg.of_moves hm1;exact ⟨rfl,hR1,HM.out _ _ hc1,fun _=>HKI.out _ _ _ HI.out hc1,HKB.out _ _ (HIB.out _ _ HI.out) hc1⟩
 | false=>
   rw [hc] at T1;simp only [Bool.false_eq_true,if_false] at T1⊢;obtain ⟨R,HRR⟩:∃R,Hid (untilS step close (x::l).length st (x::l)=R):=⟨_,rfl⟩;rw [HRR.out]
   go_enter Tryz.func136,Tryz.ntmps136
   go_wp2_with (go_at_call 163;(with_reducible refine (T1.out).mono ?_);rintro e1 w1 ⟨rfl,hR1,hm1⟩)
   have hc1:=Chg.of_moves hm1;have HI1:=Lib.hid (HKI.out _ _ _ HI.out hc1);have HC1:=Lib.hid (HM.out _ _ hc1);have HSZ:=Lib.hid hR1.suf.length_le;clear hm1 hc1 T1 HI HR
   go_loopw [] (fun wr=>∃(n:Nat) (st':σ) (l':List Tok),Rd wr rb bt cap ts l'/\Hid (Inv st' wr)/\Hid (Chg X w wr)/\Hid (R=untilS step close n st' l')/\l'.length<=n/\cnt st'+l'.length<=ts.length) (fun wr=>ts.length - posOf wr rb)
   case atStart=>exact ⟨_,st,x::l,hR1,HI1,HC1,HRR.out.symm,Nat.le_refl _,HC0.out⟩
   case round=>
    clear HRR HI1 HC1 hR1;obtain ⟨n,st',l',hR1,HI1,HC1,HRR,hn,hcl⟩:=hrel;have hpos:=hR1.pos;have hll:=hR1.fin.ne;have hl0:0 < l'.length:=List.length_pos_iff.2 hll;obtain ⟨n',rfl⟩:∃n',n=n'+1:=⟨n - 1,by omega⟩;have C:=Lib.hid (HST.out st' l' wr HI1.out hR1 hcl);have HCS:=Lib.hid (HCN.out st' l');have HU:=Lib.hid (show untilS step close (n'+1) st' l'=_ from by rw [untilS]);generalize step st' l'=S at *;obtain ⟨E,st2,l2⟩:=S;simp only at C HU HCS;clear hR1 HI1
    by_cases hE:E=0
    ·subst hE;simp only [if_true,true_implies,forall_const] at HU C
     go_wp2_with (go_at_call 138;(with_reducible refine (C.out).mono ?_);rintro e1 w2 ⟨rfl,hR2,hc2,hI2,hb2,hlt2⟩)
     obtain ⟨y,l3,rfl⟩:=ex_cons hR2.fin;have hc02:=HC1.out.trans hc2;simp only at HU;have T2:=take_any hR2 close s hs
     cases hy:sgB y close with
     | true=>
       rw [hy] at T2 HU;simp only [if_true] at T2 HU
       (with_reducible refine T2.mono ?_)
       rintro e2 w3 ⟨rfl,hR3,hm3⟩;have hc3:=Chg.of_moves hm3
       go_wp2_with fail
       go_ret
       rw [HRR.out,HU.out];exact ⟨rfl,hR3,hc02.trans (HM.out _ _ hc3),fun _=>HKI.out _ _ _ hI2 hc3,HKB.out _ _ hb2 hc3⟩
     | false=>
       rw [hy] at T2 HU;simp only [Bool.false_eq_true,if_false] at T2 HU
       (with_reducible refine T2.mono ?_)
       rintro e2 w3 ⟨rfl,hR3,hm3⟩;have hc3:=Chg.of_moves hm3;have T3:=take_any hR3 44 ⟨#[44]⟩ rfl;have HI3:=Lib.hid (HKI.out _ _ _ hI2 hc3);have HB3:=Lib.hid (HKB.out _ _ hb2 hc3);have hc03:=hc02.trans (HM.out _ _ hc3);clear T2 hR3 hR2 hI2 hb2 hc2 hc02 hm3 hc3 C
       cases hz:sgB y 44 with
       | true=>
         rw [hz] at T3 HU;simp only [if_true] at T3 HU
         go_wp2_with fail
         (with_reducible refine T3.mono ?_)
         rintro e3 w4 ⟨rfl,hR4,hm4⟩;have hc4:=Chg.of_moves hm4;have hpos4:=hR4.pos
         go_wp2_with fail
         go_roundw
         case rel=>exact ⟨n',st2,l3,hR4,HKI.out _ _ _ HI3.out hc4,hc03.trans (HM.out _ _ hc4),HRR.out.trans HU.out,by simp at hlt2;omega,by have:=HCS.out;simp at hlt2;omega⟩
         case measure=>rw [hpos4,hpos];simp at hlt2;omega
       | false=>
         rw [hz] at T3 HU;simp only [Bool.false_eq_true,if_false] at T3 HU
         go_wp2_with fail
         (with_reducible refine T3.mono ?_)
         rintro e3 w4 ⟨rfl,hR4,hm4⟩;have hc4:=Chg.of_moves hm4
         go_wp2_with fail
         go_ret
         rw [HRR.out,HU.out];exact ⟨rfl,hR4,hc03.trans (HM.out _ _ hc4),fun h=>absurd (show (40:Int)=0 from h) (by decide),HKB.out _ _ HB3.out hc4⟩
    ·have hne:(E !=0)=true:=(by simpa using hE);rw [if_neg hE] at HU
     go_wp2_with (go_at_call 138;(with_reducible refine (C.out).mono ?_);rintro e1 w2 ⟨rfl,hR2,hc2,hI2,hb2,hlt2⟩)
     go_ret
     rw [HRR.out,HU.out];exact ⟨rfl,hR2,HC1.out.trans hc2,fun h=>absurd h hE,hb2⟩
end Go.Proofs.YtclghelocglnlaaGreatDoor.Js
namespace Go.Proofs.YtclghelocglnlaaGreatDoor.Js
open Go.RowKit Lex
theorem set_ne {w:World} {sb b:Nat} {seen:List (List UInt8)} {cs:Array Value} {T:TypeId} {f:Nat×Nat} (h:SetIs w sb seen) (hb:w.heap[b]?=some (.cells cs T f)):sb≠b:=by
 rintro rfl;obtain ⟨es,clock,q,_⟩:=h;rw [q] at hb;cases hb
theorem name_no {seen:List (List UInt8)} {x:Tok} {l:List Tok} (h:x.k≠2):nameS seen (x::l)=(40,[],x::l):=by unfold nameS;simp [h]
theorem name_twice {seen:List (List UInt8)} {x:Tok} {l:List Tok} (h:x.k=2) (hs:seen.contains x.t=true):nameS seen (x::l)=(42,[],x::l):=by unfold nameS;dsimp only;rw [if_pos h,if_pos hs]
theorem name_yes {seen:List (List UInt8)} {x y:Tok} {l:List Tok} (h:x.k=2) (hs:seen.contains x.t=false) (hy:sgB y 58=true):nameS seen (x::y::l)=(0,x.t,l):=by unfold nameS;dsimp only;rw [if_pos h,if_neg (by rw [hs];decide)];rw [if_pos hy]
theorem name_bad {seen:List (List UInt8)} {x y:Tok} {l:List Tok} (h:x.k=2) (hs:seen.contains x.t=false) (hy:sgB y 58=false):nameS seen (x::y::l)=(40,[],y::l):=by unfold nameS;dsimp only;rw [if_pos h,if_neg (by rw [hs];decide)];rw [if_neg (by rw [hy];decide)]
theorem Rd.chg {w w':World} {rb bt cap:Nat} {ts l:List Tok} {X:Nat->Prop} (h:Rd w rb bt cap ts l) (hc:Chg X w w') (h1:¬X rb) (h2:¬X bt):Rd w' rb bt cap ts l:=
 h.keep (hc.block _ h.lt h1) (hc.block _ h.blt h2) hc.size
theorem SetIs.chg {w w':World} {sb:Nat} {seen:List (List UInt8)} {X:Nat->Prop} (h:SetIs w sb seen) (hc:Chg X w w') (h1:¬X sb):SetIs w' sb seen:=h.keep (hc.block _ h.lt h1)
theorem Rd.tok_ne {w:World} {rb bt cap:Nat} {ts l:List Tok} (h:Rd w rb bt cap ts l) {sb:Nat} {seen:List (List UInt8)} (hs:SetIs w sb seen):sb≠rb/\sb≠bt:=by
 refine ⟨set_ne hs h.blk,?_⟩;rintro rfl;obtain ⟨x,r,rfl⟩:=ex_cons h.fin;have h0:=(h.toks _ h.at_.1).c0;obtain ⟨es,clock,q,_⟩:=hs;simp [World.cell?,q] at h0
theorem name_any {w:World} {rb bt cap sb:Nat} {ts l:List Tok} {seen:List (List UInt8)} (h:Rd w rb bt cap ts l) (hs:SetIs w sb seen) (hl:seen.length<=1000000):
 Calls Tryz.prog 139 #[.pointer (some ⟨rb,0,none⟩),.map (some sb)] w fun e w'=>e= .returned (.tuple #[.string ⟨(nameS seen l).2.1.toArray⟩,.int .i64 (nameS seen l).1])/\Rd w' rb bt cap ts (nameS seen l).2.2/\Chg (fun k=>k=rb∨k=sb) w w'/\
  ((nameS seen l).1=0->SetIs w' sb (seen++ [(nameS seen l).2.1])):=by
 obtain ⟨x,l1,rfl⟩:=ex_cons h.fin;have H1:=Lib.hid (here_any h);unfold tokV at H1;have HR:=Lib.hid h;have HS:=Lib.hid hs;obtain ⟨n1,n2⟩:=h.tok_ne hs;have HNE:=Lib.hid (And.intro n1 n2);have hrl:=h.lt;have hsl:=hs.lt;have hxt:txtB x.t:=(h.good x (h.suf.mem (by simp))).len;have HX:=Lib.hid hxt;have hm1:∀w w',Chg (·=rb) w w'->Chg (fun k=>k=rb∨k=sb) w w':=fun w w' h=>h.mono (fun _ _ e=> .inl e)
 have hm2:∀w w',Chg (·=sb) w w'->Chg (fun k=>k=rb∨k=sb) w w':=fun w w' h=>h.mono (fun _ _ e=> .inr e)
 have HM:=Lib.hid (And.intro hm1 hm2);have HSL:=Lib.hid hsl;clear h hs n1 n2 hxt hsl hm1 hm2
 by_cases hk:x.k=2
 ·cases hc:seen.contains x.t with
  | true=>
    rw [name_twice hk hc];rw [hk] at H1;obtain ⟨K,T,M,E,Q⟩:=x;simp only at *
    go_enter Tryz.func139,Tryz.ntmps139
    go_wp2_with (first
     | (go_at_call 68;(with_reducible refine (H1.out).mono ?_);rintro e1 w1 ⟨rfl,hb1⟩;have hb1':=fun o=>hb1.alloc hb1.size o)
     | (go_at_call 164;(with_reducible refine (add_any sb seen T _ (HS.out.chg (.of_below (X:=fun _=>False) (hb1' _)) (fun h=>h)) HX.out (by omega)).mono ?_);rw [hc];rintro e2 w2 ⟨rfl,hs2,hm2⟩))
    go_ret2
    have hc2:=(Chg.of_below (X:=fun k=>k=rb∨k=sb) (hb1' _)).trans (HM.out.2 _ _ (Chg.of_moves hm2));refine ⟨rfl,?_,hc2,fun h=>absurd (show (42:Int)=0 from h) (by decide)⟩;exact (HR.out.below (hb1' _)).chg (Chg.of_moves hm2) (fun h=>HNE.out.1 h.symm) (fun h=>HNE.out.2 h.symm)
  | false=>
    rw [hk] at H1;have hx5:x.k≠5:=(by omega);obtain ⟨y,l2,rfl⟩:=ex_cons (HR.out.fin.tail hx5);have HNX:=Lib.hid (fun w' (hr:Rd w' rb bt cap ts (x::y::l2))=>hr.next hx5);have HKK:=Lib.hid hk;have hle:=HR.out.at_.1;have hln:=HR.out.len;obtain ⟨P,HP⟩:∃P,Hid (ts.length - (x::y::l2).length=P):=⟨_,rfl⟩;have HBK:=Lib.hid (fun w' (hr:Rd w' rb bt cap ts (x::y::l2))=>hr.blk);rw [HP.out] at HNX HBK hle;have hPl:P<=1000000:=(by omega);obtain ⟨T,HT⟩:∃T,Hid (x.t=T):=⟨_,rfl⟩;have HCC:=Lib.hid hc;rw [HT.out] at H1 HX hc
    cases hy:sgB y 58 with
    | true=>
      rw [name_yes hk HCC.out hy,HT.out];clear hk hle hln
      go_enter Tryz.func139,Tryz.ntmps139
      go_wp2_with (first
       | (go_at_call 68;(with_reducible refine (H1.out).mono ?_);rintro e1 w1 ⟨rfl,hb1⟩;have hb1':=fun o=>hb1.alloc hb1.size o;have hs1:=hb1.size)
       | (go_at_call 164;(with_reducible refine (add_any sb seen T _ (HS.out.chg (.of_below (X:=fun _=>False) (hb1' _)) (fun h=>h)) HX.out (by omega)).mono ?_);rw [hc];rintro e2 w2 ⟨rfl,hs2,hm2⟩;have hr2:=(HR.out.below (hb1' _)).chg (Chg.of_moves hm2) (fun h=>HNE.out.1 h.symm) (fun h=>HNE.out.2 h.symm);obtain ⟨r0,r1⟩:=two_of (HBK.out _ hr2);have rf:=free_of (HBK.out _ hr2) 1;have hsz2:=hm2.size;simp at hsz2;have tb2:=((Chg.of_moves hm2).block w1.heap.size (by simp) (fun h=>by have:=HSL.out;omega)).trans (heap_alloc_new w1 _))
       | (go_at_call 163;(with_reducible refine (take_any (HNX.out _ hr2) 58 _ rfl).mono ?_);rw [hy];rintro e3 w3 ⟨rfl,hr3,hm3⟩;have tb3:=((Chg.of_moves hm3).block w1.heap.size (by simp [World.setCell];omega) (fun h=>by omega)).trans ((Below.heap_setCell _ _ _ _ (by show w1.heap.size≠rb;omega)).trans tb2);have tc:=box_at (Below.refl w3.heap.size w3) tb3 (Own.block_lt tb3) 1;simp at tc))
      go_ret2
      have hc2:=(Chg.of_below (X:=fun k=>k=rb∨k=sb) (hb1' _)).trans (HM.out.2 _ _ (Chg.of_moves hm2));have hc3:=(hc2.setCell (p:=⟨rb,1,none⟩) (.inl (.inl rfl)) _).trans (HM.out.1 _ _ (Chg.of_moves hm3));refine ⟨rfl,hr3,hc3,fun _=> ?_⟩;simp only [Bool.false_eq_true,if_false] at hs2;refine (SetIs.keep hs2 (Below.heap_setCell _ _ _ _ (by show sb≠rb;exact HNE.out.1))).chg (Chg.of_moves hm3) (fun h=>HNE.out.1 h)
    | false=>
      rw [name_bad hk HCC.out hy];clear hk hle hln
      go_enter Tryz.func139,Tryz.ntmps139
      go_wp2_with (first
       | (go_at_call 68;(with_reducible refine (H1.out).mono ?_);rintro e1 w1 ⟨rfl,hb1⟩;have hb1':=fun o=>hb1.alloc hb1.size o;have hs1:=hb1.size)
       | (go_at_call 164;(with_reducible refine (add_any sb seen T _ (HS.out.chg (.of_below (X:=fun _=>False) (hb1' _)) (fun h=>h)) HX.out (by omega)).mono ?_);rw [hc];rintro e2 w2 ⟨rfl,hs2,hm2⟩;have hr2:=(HR.out.below (hb1' _)).chg (Chg.of_moves hm2) (fun h=>HNE.out.1 h.symm) (fun h=>HNE.out.2 h.symm);obtain ⟨r0,r1⟩:=two_of (HBK.out _ hr2);have rf:=free_of (HBK.out _ hr2) 1;have hsz2:=hm2.size;simp at hsz2;have tb2:=((Chg.of_moves hm2).block w1.heap.size (by simp) (fun h=>by have:=HSL.out;omega)).trans (heap_alloc_new w1 _))
       | (go_at_call 163;(with_reducible refine (take_any (HNX.out _ hr2) 58 _ rfl).mono ?_);rw [hy];rintro e3 w3 ⟨rfl,hr3,hm3⟩;have tb3:=((Chg.of_moves hm3).block w1.heap.size (by simp [World.setCell];omega) (fun h=>by omega)).trans ((Below.heap_setCell _ _ _ _ (by show w1.heap.size≠rb;omega)).trans tb2);have tc:=box_at (Below.refl w3.heap.size w3) tb3 (Own.block_lt tb3) 1;simp at tc))
      go_ret2
      have hc2:=(Chg.of_below (X:=fun k=>k=rb∨k=sb) (hb1' _)).trans (HM.out.2 _ _ (Chg.of_moves hm2));have hc3:=(hc2.setCell (p:=⟨rb,1,none⟩) (.inl (.inl rfl)) _).trans (HM.out.1 _ _ (Chg.of_moves hm3));exact ⟨rfl,hr3,hc3,fun h=>absurd (show (40:Int)=0 from h) (by decide)⟩
 ·have hne:((x.k:Int) !=2)=true:=by simp;omega
  rw [name_no hk];simp only
  go_enter Tryz.func139,Tryz.ntmps139
  go_wp2_with (go_at_call 68;(with_reducible refine (H1.out).mono ?_);rintro e1 w1 ⟨rfl,hb1⟩;have hb1':=fun o=>hb1.alloc hb1.size o)
  go_ret2
  exact ⟨rfl,HR.out.below (hb1' _),.of_below (hb1' _),fun h=>absurd (show (40:Int)=0 from h) (by decide)⟩
end Go.Proofs.YtclghelocglnlaaGreatDoor.Js
namespace Go.Proofs.YtclghelocglnlaaGreatDoor.Js
open Go.RowKit Lex
def VRet (w:World) (rb bt cap:Nat) (ts:List Tok) (n:Nat) (r:R) (e:Ending) (w':World):Prop:=
 ∃k m e1 t an nn cn ai ni ci,e= .returned (.tuple #[.agg #[.int .i64 k,.int .i64 m,.int .i64 e1,.string t,.slice an nn cn,.slice ai ni ci],.int .i64 r.er])/\Rd w' rb bt cap ts r.l/\Chg (·=rb) w w'/\
  (r.er=0->JAt (fun b=>w.heap.size<=b) w' n (.agg #[.int .i64 k,.int .i64 m,.int .i64 e1,.string t,.slice an nn cn,.slice ai ni ci]) r.j)
def ValOk (n:Nat):Prop:=∀(w:World) (rb bt cap:Nat) (ts l:List Tok),Rd w rb bt cap ts l->Calls Tryz.prog 67 #[.pointer (some ⟨rb,0,none⟩),.int .i64 ((17 - n:Nat):Int)] w (VRet w rb bt cap ts n (valS n l))
def InS (base bv:Nat) (nv iv:Value) (b:Nat):Prop:=base<=b/\some b≠iv.ownBlock/\some b≠nv.ownBlock/\b≠bv
structure Own2 (base bv n:Nat) (k:Int) (nv iv:Value) (ns:List (List UInt8)) (vs:List Value) (acc:List J) (w:World):Prop where
 blk:w.heap[bv]?=some (.cells #[.int .i64 k,.int .i64 0,.int .i64 0,.string ⟨#[]⟩,nv,iv] 49 (0,0))
 irow:w.ownsRow base 49 6 iv acc.length (vs.flatMap aggC)
 nrow:w.ownsRow base 9 1 nv ns.length (ns.map strW)
 vl:vs.length=acc.length
 ine:iv.ownBlock≠some bv
 txt:∀x∈ns,txtB x
 items:∀i,i < acc.length->JAt (InS base bv nv iv) w n (vs.getD i undef) (acc.getD i j0)
theorem json_info:(Tryz.prog.info? 49).map (fun i=>(i.zero,i.size,i.bytes))=some (some (.agg #[.int .i64 0,.int .i64 0,.int .i64 0,.string ⟨#[]⟩,.slice none 0 0,.slice none 0 0]),6,88):=by kernel_rfl
theorem new_cells {w:World} {base T g n cap:Nat} {xs:List Value} {c0 c1 c2 c3 c4 c5:Value} (h:w.ownsRow base T 6 (.slice (some ⟨g,0,none⟩) (n+1) cap) (n+1) (xs++ [c0,c1,c2,c3,c4,c5])):
 w.cell? ⟨g,n * 6,none⟩=some c0/\w.cell? ⟨g,n * 6+1,none⟩=some c1/\w.cell? ⟨g,n * 6+2,none⟩=some c2/\w.cell? ⟨g,n * 6+3,none⟩=some c3/\w.cell? ⟨g,n * 6+4,none⟩=some c4/\w.cell? ⟨g,n * 6+5,none⟩=some c5:=by
 have hl:xs.length=n * 6:=by have:=h.1;simp at this;omega
 have k:∀i,i < 6->w.cell? ⟨g,n * 6+i,none⟩= [c0,c1,c2,c3,c4,c5][i]?:=fun i hi=>by
  rw [h.cellAt _ (by omega),List.getElem?_append_right (by omega),hl,Nat.add_sub_cancel_left]
 exact ⟨k 0 (by omega),k 1 (by omega),k 2 (by omega),k 3 (by omega),k 4 (by omega),k 5 (by omega)⟩
theorem set6 (xs:List Value) (n:Nat) (hl:xs.length=n * 6) (z0 z1 z2 z3 z4 z5 c0 c1 c2 c3 c4 c5:Value):
 ((((((xs++ [z0,z1,z2,z3,z4,z5]).set (n * 6) c0).set (n * 6+1) c1).set (n * 6+2) c2).set (n * 6+3) c3).set (n * 6+4) c4).set (n * 6+5) c5=xs++ [c0,c1,c2,c3,c4,c5]:=by
 simp [List.set_append,hl]
theorem stored6 {w:World} {base T g n cap:Nat} {xs:List Value} {z0 z1 z2 z3 z4 z5:Value} (h:w.ownsRow base T 6 (.slice (some ⟨g,0,none⟩) (n+1) cap) (n+1) (xs++ [z0,z1,z2,z3,z4,z5])) (c0 c1 c2 c3 c4 c5:Value):
 ((((((w.setCell ⟨g,n * 6,none⟩ c0).setCell ⟨g,n * 6+1,none⟩ c1).setCell ⟨g,n * 6+2,none⟩ c2).setCell ⟨g,n * 6+3,none⟩ c3).setCell ⟨g,n * 6+4,none⟩ c4).setCell ⟨g,n * 6+5,none⟩ c5).ownsRow base T 6 (.slice (some ⟨g,0,none⟩) (n+1) cap) (n+1) (xs++ [c0,c1,c2,c3,c4,c5]):=by
 have hl:xs.length=n * 6:=by have:=h.1;simp at this;omega
 rw [<-set6 xs n hl z0 z1 z2 z3 z4 z5 c0 c1 c2 c3 c4 c5];exact ((((((h.stored _ c0).1.stored _ c1).1.stored _ c2).1.stored _ c3).1.stored _ c4).1.stored _ c5).1
theorem setCell_comm (w:World) (a b:Addr) (u v:Value) (h:a.block≠b.block):(w.setCell a u).setCell b v=(w.setCell b v).setCell a u:=by
 unfold World.setCell
 congr 1
 apply Array.ext_getElem?
 intro i;simp only [Array.getElem?_modify]
 by_cases h1:b.block=i
 ·by_cases h2:a.block=i
  ·exact absurd (h2.trans h1.symm) h
  ·simp [h1,h2]
 ·simp [h1]
def put6 (w:World) (g o:Nat) (c0 c1 c2 c3 c4 c5:Value):World:=
 (((((w.setCell ⟨g,o,none⟩ c0).setCell ⟨g,o+1,none⟩ c1).setCell ⟨g,o+2,none⟩ c2).setCell ⟨g,o+3,none⟩ c3).setCell ⟨g,o+4,none⟩ c4).setCell ⟨g,o+5,none⟩ c5
theorem put6_swap (w:World) (g o bv i:Nat) (u c0 c1 c2 c3 c4 c5:Value) (h:bv≠g):put6 (w.setCell ⟨bv,i,none⟩ u) g o c0 c1 c2 c3 c4 c5=(put6 w g o c0 c1 c2 c3 c4 c5).setCell ⟨bv,i,none⟩ u:=by
 unfold put6;rw [setCell_comm w ⟨bv,i,none⟩ ⟨g,o,none⟩ _ _ h,setCell_comm _ ⟨bv,i,none⟩ ⟨g,o+1,none⟩ _ _ h,setCell_comm _ ⟨bv,i,none⟩ ⟨g,o+2,none⟩ _ _ h,setCell_comm _ ⟨bv,i,none⟩ ⟨g,o+3,none⟩ _ _ h,setCell_comm _ ⟨bv,i,none⟩ ⟨g,o+4,none⟩ _ _ h,setCell_comm _ ⟨bv,i,none⟩ ⟨g,o+5,none⟩ _ _ h]
theorem put6_block (w:World) (g o:Nat) (c0 c1 c2 c3 c4 c5:Value) (b:Nat) (h:b≠g):(put6 w g o c0 c1 c2 c3 c4 c5).heap[b]?=w.heap[b]?:=by
 unfold put6;rw [Below.heap_setCell _ _ _ _ h,Below.heap_setCell _ _ _ _ h,Below.heap_setCell _ _ _ _ h,Below.heap_setCell _ _ _ _ h,Below.heap_setCell _ _ _ _ h,Below.heap_setCell _ _ _ _ h]
theorem setCell_os (w:World) (a:Addr) (u:Value):(w.setCell a u).os=w.os:=rfl
theorem setCell_tape (w:World) (a:Addr) (u:Value):(w.setCell a u).tape=w.tape:=rfl
theorem setCell_output (w:World) (a:Addr) (u:Value):(w.setCell a u).output=w.output:=rfl
theorem put6_os (w:World) (g o:Nat) (c0 c1 c2 c3 c4 c5:Value):(put6 w g o c0 c1 c2 c3 c4 c5).os=w.os/\(put6 w g o c0 c1 c2 c3 c4 c5).tape=w.tape/\(put6 w g o c0 c1 c2 c3 c4 c5).output=w.output:=by
 unfold put6;exact ⟨by rw [setCell_os,setCell_os,setCell_os,setCell_os,setCell_os,setCell_os],by rw [setCell_tape,setCell_tape,setCell_tape,setCell_tape,setCell_tape,setCell_tape],by rw [setCell_output,setCell_output,setCell_output,setCell_output,setCell_output,setCell_output]⟩
theorem put6_size (w:World) (g o:Nat) (c0 c1 c2 c3 c4 c5:Value):(put6 w g o c0 c1 c2 c3 c4 c5).heap.size=w.heap.size:=by
 unfold put6;simp [World.setCell]
theorem set_cell5 {w:World} {b:Nat} {T:TypeId} {c0 c1 c2 c3 c4 c5:Value} (h:w.heap[b]?=some (.cells #[c0,c1,c2,c3,c4,c5] T (0,0))) (u:Value):(w.setCell ⟨b,5,none⟩ u).heap[b]?=some (.cells #[c0,c1,c2,c3,c4,u] T (0,0)):=by
 simp only [World.setCell,Array.getElem?_modify];rw [if_pos trivial,h]
 rfl
section
variable {base bv n:Nat} {k:Int} {nv iv:Value} {ns:List (List UInt8)} {vs:List Value} {acc:List J} {w1 wS w2:World} {g cp:Nat}
theorem step_frame (hgrow:wS.grownBy w2 iv.ownBlock) (hBS:Below w1.heap.size w1 wS) (hat:iv.ownBlock=some g∨w1.heap.size<=g) (c0 c1 c2 c3 c4 c5 u:Value):
 let W:=(put6 w2 g (acc.length * 6) c0 c1 c2 c3 c4 c5).setCell ⟨bv,5,none⟩ u
 (∀b,b < w1.heap.size->some b≠iv.ownBlock->b≠bv->W.heap[b]?=w1.heap[b]?)/\w1.heap.size<=W.heap.size/\W.os=w1.os/\W.tape=w1.tape/\W.output=w1.output:=by
 have hs:=hgrow.size;obtain ⟨p1,p2,p3⟩:=put6_os w2 g (acc.length * 6) c0 c1 c2 c3 c4 c5;have s1:=setCell_os (put6 w2 g (acc.length * 6) c0 c1 c2 c3 c4 c5) ⟨bv,5,none⟩ u;have s2:=setCell_tape (put6 w2 g (acc.length * 6) c0 c1 c2 c3 c4 c5) ⟨bv,5,none⟩ u;have s3:=setCell_output (put6 w2 g (acc.length * 6) c0 c1 c2 c3 c4 c5) ⟨bv,5,none⟩ u;have a1:w2.os=w1.os:=hgrow.os.trans hBS.os;have a2:w2.tape=w1.tape:=hgrow.tape.trans hBS.tape;have a3:w2.output=w1.output:=hgrow.output.trans hBS.output;refine ⟨fun b hb h1 h2=> ?_,?_,(s1.trans p1).trans a1,(s2.trans p2).trans a2,(s3.trans p3).trans a3⟩
 ·have hg:b≠g:=by
   rcases hat with h | h
   ·rintro rfl;exact h1 h.symm
   ·omega
  have hal:=hBS.block b hb;have hsS:=hBS.size;rw [Below.heap_setCell _ _ _ _ h2,put6_block _ _ _ _ _ _ _ _ _ _ hg,hgrow.block b (by omega) h1,hal]
 ·have:(put6 w2 g (acc.length * 6) c0 c1 c2 c3 c4 c5).heap.size=w2.heap.size:=put6_size _ _ _ _ _ _ _ _ _;have hs2:=hBS.size;simp only [World.setCell,Array.size_modify] at this⊢
  omega
theorem step_own (hO:Own2 base bv n k nv iv ns vs acc w1) (hgrow:wS.grownBy w2 iv.ownBlock) (hBS:Below w1.heap.size w1 wS) (hat:iv.ownBlock=some g∨w1.heap.size<=g)
 {z0 z1 z2 z3 z4 z5 c0 c1 c2 c3 c4 c5:Value} (hown:w2.ownsRow base 49 6 (.slice (some ⟨g,0,none⟩) (acc.length+1) cp) (acc.length+1) (vs.flatMap aggC++ [z0,z1,z2,z3,z4,z5]))
 {S:Nat->Prop} {j:J} (hJ:JAt S w1 n (.agg #[c0,c1,c2,c3,c4,c5]) j) (hq:∀b,S b->b < w1.heap.size->base<=b/\some b≠iv.ownBlock/\some b≠nv.ownBlock/\b≠bv):
 Own2 base bv n k nv (.slice (some ⟨g,0,none⟩) (acc.length+1) cp) ns (vs++ [.agg #[c0,c1,c2,c3,c4,c5]]) (acc++ [j])
  ((put6 w2 g (acc.length * 6) c0 c1 c2 c3 c4 c5).setCell ⟨bv,5,none⟩ (.slice (some ⟨g,0,none⟩) (acc.length+1) cp)):=by
 obtain ⟨F1,F2,F3,F4,F5⟩:=step_frame (acc:=acc) (bv:=bv) (iv:=iv) hgrow hBS hat c0 c1 c2 c3 c4 c5 (.slice (some ⟨g,0,none⟩) (acc.length+1) cp);have hbl:=Own.block_lt hO.blk
 have hbg:bv≠g:=by
  rcases hat with h | h
  ·rintro rfl;exact hO.ine h
  ·omega
 have hal:=hBS.block bv hbl;have hsS:=hBS.size;have hne2:some bv≠iv.ownBlock:=fun h=>hO.ine h.symm
 have hb2:(put6 w2 g (acc.length * 6) c0 c1 c2 c3 c4 c5).heap[bv]?=w1.heap[bv]?:=by
  rw [put6_block _ _ _ _ _ _ _ _ _ _ hbg,hgrow.block bv (by omega) hne2,hal]
 have hnlt:∀b,nv.ownBlock=some b->b < w1.heap.size:=fun b hb=>(hO.nrow.lt b hb).2
 have hnapart:nv.ownBlock=none∨nv.ownBlock≠iv.ownBlock:=Own.own_apart hO.irow hO.nrow (by decide);refine ⟨set_cell5 (hb2.trans hO.blk) _,?_,?_,by simp [hO.vl],by simpa [Value.ownBlock] using Ne.symm hbg,hO.txt,fun i hi=> ?_⟩
 ·have h6:=stored6 hown c0 c1 c2 c3 c4 c5;have:=ownsRow_setCell_other h6 (a:=⟨bv,5,none⟩) (by simpa [Value.ownBlock] using Ne.symm hbg) (.slice (some ⟨g,0,none⟩) (acc.length+1) cp)
  simpa [put6,aggC] using this
 ·refine ⟨hO.nrow.1,?_⟩;rcases hO.nrow.2 with hn | ⟨gn,cap,cur,hv,hbg',hg,hr⟩
  ·exact .inl hn
  ·refine .inr ⟨gn,cap,cur,hv,hbg',?_,hr⟩;have e1:nv.ownBlock=some gn:=by rw [hv];rfl
   rw [F1 gn (hnlt gn e1) ?_ ?_];exact hg
   ·intro h;rcases hnapart with h' | h'
    ·rw [h'] at e1;cases e1
    ·exact h' (e1.trans h)
   ·rintro rfl;have:=hO.blk;rw [hg] at this;cases this
 ·have hS:∀b,(base<=b/\some b≠iv.ownBlock/\some b≠nv.ownBlock/\b≠bv)->b < w1.heap.size->InS base bv nv (.slice (some ⟨g,0,none⟩) (acc.length+1) cp) b:=fun b hb hlt=>by
   refine ⟨hb.1,?_,hb.2.2.1,hb.2.2.2⟩;show some b≠some g;intro e
   cases e
   rcases hat with h | h
   ·exact hb.2.1 h.symm
   ·omega
  by_cases hia:i < acc.length
  ·have:=hO.items i hia;have e1:(vs++ [Value.agg #[c0,c1,c2,c3,c4,c5]]).getD i undef=vs.getD i undef:=by rw [List.getD_eq_getElem?_getD,List.getD_eq_getElem?_getD,List.getElem?_append_left (by rw [hO.vl];exact hia)]
   have e2:(acc++ [j]).getD i j0=acc.getD i j0:=by rw [List.getD_eq_getElem?_getD,List.getD_eq_getElem?_getD,List.getElem?_append_left hia]
   rw [e1,e2];exact this.keep (fun b hb hlt=>hS b hb hlt) (fun b hb hlt=>F1 b hlt hb.2.1 hb.2.2.2) F2
  ·have hi':i=acc.length:=by simp at hi;omega
   subst hi';have e1:(vs++ [Value.agg #[c0,c1,c2,c3,c4,c5]]).getD acc.length undef= .agg #[c0,c1,c2,c3,c4,c5]:=by rw [<-hO.vl,List.getD_eq_getElem?_getD,List.getElem?_append_right (Nat.le_refl _)];simp
   have e2:(acc++ [j]).getD acc.length j0=j:=by rw [List.getD_eq_getElem?_getD,List.getElem?_append_right (Nat.le_refl _)];simp
   rw [e1,e2];exact hJ.keep (fun b hb hlt=>hS b (hq b hb hlt) hlt) (fun b hb hlt=>F1 b hlt (hq b hb hlt).2.1 (hq b hb hlt).2.2.2) F2
theorem name_frame (hgrow:wS.grownBy w2 nv.ownBlock) (hBS:Below w1.heap.size w1 wS) (u:Value):
 (∀b,b < w1.heap.size->some b≠nv.ownBlock->b≠bv->(w2.setCell ⟨bv,4,none⟩ u).heap[b]?=w1.heap[b]?)/\w1.heap.size<=(w2.setCell ⟨bv,4,none⟩ u).heap.size/\(w2.setCell ⟨bv,4,none⟩ u).os=w1.os/\(w2.setCell ⟨bv,4,none⟩ u).tape=w1.tape/\(w2.setCell ⟨bv,4,none⟩ u).output=w1.output:=by
 have hs:=hgrow.size;have hsS:=hBS.size;refine ⟨fun b hb h1 h2=> ?_,?_,hgrow.os.trans hBS.os,hgrow.tape.trans hBS.tape,hgrow.output.trans hBS.output⟩
 ·rw [Below.heap_setCell _ _ _ _ h2,hgrow.block b (by omega) h1,hBS.block b hb]
 ·simp only [World.setCell,Array.size_modify];omega
theorem set_cell4 {w:World} {b:Nat} {T:TypeId} {c0 c1 c2 c3 c4 c5:Value} (h:w.heap[b]?=some (.cells #[c0,c1,c2,c3,c4,c5] T (0,0))) (u:Value):(w.setCell ⟨b,4,none⟩ u).heap[b]?=some (.cells #[c0,c1,c2,c3,u,c5] T (0,0)):=by
 simp only [World.setCell,Array.getElem?_modify];rw [if_pos trivial,h]
 rfl
theorem step_name (hO:Own2 base bv n k nv iv ns vs acc w1) (hbv:bv < base) (hgrow:wS.grownBy w2 nv.ownBlock) (hBS:Below w1.heap.size w1 wS) (hat:nv.ownBlock=some g∨w1.heap.size<=g) {nm:List UInt8} (ht:txtB nm)
 (hown:w2.ownsRow base 9 1 (.slice (some ⟨g,0,none⟩) (ns.length+1) cp) (ns.length+1) (ns.map strW++ [strW nm])):
 Own2 base bv n k (.slice (some ⟨g,0,none⟩) (ns.length+1) cp) iv (ns++ [nm]) vs acc (w2.setCell ⟨bv,4,none⟩ (.slice (some ⟨g,0,none⟩) (ns.length+1) cp)):=by
 obtain ⟨F1,F2,F3,F4,F5⟩:=name_frame (bv:=bv) (nv:=nv) hgrow hBS (.slice (some ⟨g,0,none⟩) (ns.length+1) cp);have hbl:=Own.block_lt hO.blk;have hsS:=hBS.size;have hnlt:∀b,nv.ownBlock=some b->base<=b/\b < w1.heap.size:=fun b hb=>hO.nrow.lt b hb
 have hne:some bv≠nv.ownBlock:=fun h=>by have:=(hnlt bv h.symm).1;omega
 have hbg:bv≠g:=by
  rcases hat with h | h
  ·rintro rfl;exact hne h.symm
  ·omega
 have hb2:w2.heap[bv]?=w1.heap[bv]?:=by rw [hgrow.block bv (by omega) hne,hBS.block bv hbl]
 have hapart:iv.ownBlock=none∨iv.ownBlock≠nv.ownBlock:=Own.own_apart hO.nrow hO.irow (by decide);have hilt:∀b,iv.ownBlock=some b->base<=b/\b < w1.heap.size:=fun b hb=>hO.irow.lt b hb
 refine ⟨set_cell4 (hb2.trans hO.blk) _,?_,?_,hO.vl,hO.ine,?_,fun i hi=> ?_⟩
 ·refine ⟨hO.irow.1,?_⟩;rcases hO.irow.2 with hn | ⟨gi,cap,cur,hv,hbg',hg,hr⟩
  ·exact .inl hn
  ·refine .inr ⟨gi,cap,cur,hv,hbg',?_,hr⟩;have e1:iv.ownBlock=some gi:=by rw [hv];rfl
   rw [F1 gi (hilt gi e1).2 ?_ (by omega)];exact hg;intro h;rcases hapart with h' | h'
   ·rw [h'] at e1;cases e1
   ·exact h' (e1.trans h)
 ·have:=ownsRow_setCell_other hown (a:=⟨bv,4,none⟩) (by simpa [Value.ownBlock] using Ne.symm hbg) (.slice (some ⟨g,0,none⟩) (ns.length+1) cp)
  simpa using this
 ·intro x hx;rcases List.mem_append.1 hx with hx | hx
  ·exact hO.txt x hx
  ·simp at hx;subst hx;exact ht
 ·refine (hO.items i hi).keep (fun b hb hlt=>⟨hb.1,hb.2.1,?_,hb.2.2.2⟩) (fun b hb hlt=>F1 b hlt hb.2.2.1 hb.2.2.2) F2;show some b≠some g;intro e
  cases e
  rcases hat with h | h
  ·exact hb.2.2.1 h.symm
  ·omega
end
end Go.Proofs.YtclghelocglnlaaGreatDoor.Js
