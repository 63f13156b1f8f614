import Derived.Test.YtclghelocglnlaaGreatDoorMA
import Derived.Test.YtclghelocglnlaaGreatDoorQs
set_option maxHeartbeats 0
set_option maxRecDepth 100000
set_option linter.all false
namespace Go.Proofs.YtclghelocglnlaaGreatDoor.Js
open Go.RowKit Lex
structure Fd where
 nm:List UInt8
 k:Int
 lo:Int
 hi:Int
 fr:Bool
def fd0:Fd:=⟨[],0,0,0,false⟩
def Fd.good (f:Fd):Prop:=txtB f.nm/\i64B f.k/\i64B f.lo/\i64B f.hi
def fdV (f:Fd):Value:= .agg #[.string ⟨f.nm.toArray⟩,.int .i64 f.k,.int .i64 f.lo,.int .i64 f.hi,.bool f.fr]
def plcL (nm:List UInt8):List (List UInt8)->Nat->Nat->Int
 | [],_,_=> -1
 | x::r,i,n=>if i < n then (if x=nm then (i:Int) else plcL nm r (i+1) n) else -1
def plc (j:J) (nm:List UInt8):Int:=if j.k=7 then plcL nm j.ns 0 j.is.length else -1
def getS (j:J) (nm:List UInt8):J×Bool:=if plc j nm < 0 then (j0,false) else (j.is.getD (plc j nm).toNat j0,true)
def numS (x:J):Int×Bool:=if x.k=4 then Dec.intS x.m x.e else (0,false)
def txtS (x:J):List UInt8×Bool:=if x.k=5 then (x.t,true) else ([],false)
def flagS (x:J):Bool×Bool:=(x.k==3,x.k==3 || x.k==2)
def lstS (x:J):List J×Bool:=if x.k=6 then (x.is,true) else ([],false)
def inB (n:Int) (f:Fd):Bool:=decide (f.lo<=n) && decide (n<=f.hi)
def fitB (x:J) (f:Fd):Bool:=
 if f.k=8 then (flagS x).2 else if x.k≠f.k then false else if f.k=4 then (numS x).2 && inB (numS x).1 f else if f.k=5 then inB x.t.length f else if f.k=6 then inB x.is.length f else true
def hasB (j:J) (f:Fd):Bool:=if (getS j f.nm).2=true then fitB (getS j f.nm).1 f else f.fr
def chkL (j:J):List Fd->Nat->Int
 | [],_=> -1
 | f::r,i=>if j.k=7/\hasB j f=true then chkL j r (i+1) else i
theorem plcL_ge (nm:List UInt8):∀(l:List (List UInt8)) (i n:Nat),-1<=plcL nm l i n/\plcL nm l i n < n/\plcL nm l i n < i+l.length
 | [],i,n=>by unfold plcL;omega
 | x::r,i,n=>by
   unfold plcL;have:=plcL_ge nm r (i+1) n
   split
   ·split
    ·simp;omega
    ·simp only [List.length_cons];omega
   ·simp only [List.length_cons];omega
theorem plc_lt (j:J) (nm:List UInt8): -1<=plc j nm/\plc j nm < j.is.length:=by
 unfold plc
 split
 ·exact ⟨(plcL_ge nm _ 0 _).1,(plcL_ge nm _ 0 _).2.1⟩
 ·omega
theorem drop_getD0 {α:Type} {l:List α} {q:Nat} (z:α) (h:q < l.length):l.drop q=l.getD q z::l.drop (q+1):=by
 rw [List.drop_eq_getElem_cons h,List.getD_eq_getElem?_getD,List.getElem?_eq_getElem h]
 rfl
theorem place_any (S:Nat->Prop) (d:Nat) (v:Value) (j:J) (nm:List UInt8) (w:World) (h:JAt S w d v j):Calls Tryz.prog 140 #[v,.string ⟨nm.toArray⟩] w (Ret (.int .i64 (plc j nm)) w):=by
 obtain ⟨k,m,e,t,ns,is⟩:=j;obtain ⟨d',an,cn,ai,ci,hd',rfl,_,_,_,_,hns,hn1,hn,hi1,hi,hit⟩:=h.open_;have hb:∀o,Below w.heap.size w (w.alloc o):=fun o=>(Below.refl _ _).alloc (Nat.le_refl _) _
 have HB:=Lib.hid hb;obtain ⟨_,_,e1,_,_,_,hc1⟩:=hns
 cases e1
 have H1:=Lib.hid hc1;clear hc1 hit hb hd' h;unfold plc
 by_cases hk:k=7
 ·subst hk;rw [if_pos (show (J.mk 7 m e t ns is).k=7 from rfl)];show Calls _ _ _ _ (Ret (.int .i64 (plcL nm ns 0 is.length)) w);obtain ⟨R,HR⟩:∃R,Hid (plcL nm ns 0 is.length=R):=⟨_,rfl⟩;rw [HR.out];obtain ⟨nn,HN⟩:∃n,Hid (ns.length=n):=⟨_,rfl⟩;obtain ⟨ni,HI⟩:∃n,Hid (is.length=n):=⟨_,rfl⟩;rw [HN.out] at H1 hn hn1⊢;rw [HI.out] at hi hi1 HR⊢
  go_enter Tryz.func140,Tryz.ntmps140
  go_wp2_with fail
  go_loopw [16] (fun i wr=>∃q:Nat,q<=nn/\q<=ni/\i= .int .i64 q/\w.alloc (.cells #[.int .i64 7,.int .i64 m,.int .i64 e,.string ⟨t.toArray⟩,.slice an nn cn,.slice ai ni ci] 49)=wr/\Hid (plcL nm (ns.drop q) q ni=R)) (fun i _=>nn - (intOf i).toNat)
  case atStart=>exact ⟨0,Nat.zero_le _,Nat.zero_le _,rfl,rfl,HR⟩
  case round=>
   obtain ⟨q,hq,hq2,rfl,rfl,HK⟩:=hrel
   by_cases hlt:q < nn/\q < ni
   ·obtain ⟨l1,l2⟩:=hlt;obtain ⟨b1,o1,rfl,_,hb1,hx1⟩:=H1.out (by omega);have x1:=(cell_alloc_old w (.cells #[.int .i64 7,.int .i64 m,.int .i64 e,.string ⟨t.toArray⟩,.slice (some ⟨b1,o1,none⟩) nn cn,.slice ai ni ci] 49) b1 (o1+q) hb1).trans (hx1 q l1);have HS:=Lib.hid (drop_getD0 (l:=ns) (q:=q) [] (by rw [HN.out];exact l1));unfold strW at x1;have i1:(q:Int) < min (nn:Int) (ni:Int):=(by omega);have i2:(q:Int) < (nn:Int):=(by omega);clear hx1 H1;generalize ns.getD q []=X at *
    by_cases hxy:X=nm
    ·subst hxy
     go_wp2_with fail
     go_ret
     refine ⟨Quo.ret_int ?_,HB.out _⟩;rw [<-HK.out,HS.out,plcL,if_pos l2,if_pos rfl]
    ·have hne:(X==nm)=false:=(by simpa using hxy);have HXY:=Lib.hid hxy;clear hxy
     go_wp2_with fail
     go_roundw
     case rel=>exact ⟨q+1,by omega,by omega,by go_num,trivial,by show _=_;rw [<-HK.out,HS.out,plcL,if_pos l2,if_neg HXY.out]⟩
     case measure=>simp [intOf];omega
   ·have i1:¬(q:Int) < min (nn:Int) (ni:Int):=by omega
    have HE:Hid (R= -1):=by
     show _=_;rw [<-HK.out]
     by_cases h:q < nn
     ·rw [drop_getD0 (l:=ns) (q:=q) [] (by rw [HN.out];exact h),plcL,if_neg (by omega)]
     ·rw [List.drop_of_length_le (by rw [HN.out];omega),plcL]
    go_wp2_with fail
    go_ret
    exact ⟨Quo.ret_int HE.out.symm,HB.out _⟩
 ·rw [if_neg (show¬(J.mk k m e t ns is).k=7 from hk)];have hne:(k !=7)=true:=by simpa using hk
  go_enter Tryz.func140,Tryz.ntmps140
  go_wp2_with fail
  go_ret
  exact ⟨rfl,HB.out _⟩
theorem bdrewN {B:Nat} {a w:World} (h:Below B a w) (n:Nat):Below B a (w.drewN n):=h.trans ⟨rfl,rfl,rfl,Nat.le_refl _,fun _ _=>rfl⟩
theorem number_any (S:Nat->Prop) (d:Nat) (v:Value) (j:J) (w:World) (h:JAt S w d v j):Calls Tryz.prog 101 #[v] w (Ret (.tuple #[.int .i64 (numS j).1,.bool (numS j).2]) w):=by
 obtain ⟨k,m,e,t,ns,is⟩:=j;obtain ⟨d',an,cn,ai,ci,hd',rfl,_,_,_,_,_⟩:=h.open_;unfold numS
 by_cases hk:k=4
 ·subst hk;rw [if_pos (show (J.mk 4 m e t ns is).k=4 from rfl)];show Calls _ _ _ _ (Ret (.tuple #[.int .i64 (Dec.intS m e).1,.bool (Dec.intS m e).2]) w);have I1:=Lib.hid (fun w=>Dec.int_any m e w);unfold Dec.rsV at I1;generalize Dec.intS m e=R at *;obtain ⟨r1,r2⟩:=R
  go_enter Tryz.func101,Tryz.ntmps101
  go_wp2_with (go_at_call 141;(with_reducible refine (I1.out _).mono ?_);rintro e1 w1 ⟨rfl,hb1⟩)
  go_ret2
  exact ⟨rfl,Dec.below_call hb1⟩
 ·rw [if_neg (show¬(J.mk k m e t ns is).k=4 from hk)];have hne:(k !=4)=true:=by simpa using hk
  go_enter Tryz.func101,Tryz.ntmps101
  go_wp2_with fail
  go_ret2
  exact ⟨rfl,(Below.refl _ _).alloc (Nat.le_refl _) _⟩
theorem text_any (S:Nat->Prop) (d:Nat) (v:Value) (j:J) (w:World) (h:JAt S w d v j):Calls Tryz.prog 103 #[v] w (Ret (.tuple #[.string ⟨(txtS j).1.toArray⟩,.bool (txtS j).2]) w):=by
 obtain ⟨k,m,e,t,ns,is⟩:=j;obtain ⟨d',an,cn,ai,ci,hd',rfl,_,_,_,_,_⟩:=h.open_;unfold txtS
 by_cases hk:k=5
 ·subst hk;rw [if_pos (show (J.mk 5 m e t ns is).k=5 from rfl)]
  go_enter Tryz.func103,Tryz.ntmps103
  go_wp2_with fail
  go_ret2
  exact ⟨rfl,(Below.refl _ _).alloc (Nat.le_refl _) _⟩
 ·rw [if_neg (show¬(J.mk k m e t ns is).k=5 from hk)];have hne:(k !=5)=true:=by simpa using hk
  go_enter Tryz.func103,Tryz.ntmps103
  go_wp2_with fail
  go_ret2
  exact ⟨rfl,(Below.refl _ _).alloc (Nat.le_refl _) _⟩
theorem flag_any (S:Nat->Prop) (d:Nat) (v:Value) (j:J) (w:World) (h:JAt S w d v j):Calls Tryz.prog 145 #[v] w (Ret (.tuple #[.bool (flagS j).1,.bool (flagS j).2]) w):=by
 obtain ⟨k,m,e,t,ns,is⟩:=j;obtain ⟨d',an,cn,ai,ci,hd',rfl,_,_,_,_,_⟩:=h.open_;unfold flagS;show Calls _ _ _ _ (Ret (.tuple #[.bool (k==3),.bool (k==3 || k==2)]) w)
 by_cases hk:k=3
 ·subst hk
  go_enter Tryz.func145,Tryz.ntmps145
  go_wp2_with fail
  go_quiet (fail)
  go_wp2_with fail
  go_ret2
  exact ⟨rfl,bdrewN ((Below.refl _ _).alloc (Nat.le_refl _) _) _⟩
 ·have hne:(k==3)=false:=by simpa using hk
  rw [hne];obtain ⟨b,hb⟩:∃b,(k==2)=b:=⟨_,rfl⟩;rw [hb]
  go_enter Tryz.func145,Tryz.ntmps145
  go_wp2_with fail
  go_quiet (fail)
  go_wp2_with fail
  go_ret2
  exact ⟨rfl,bdrewN ((Below.refl _ _).alloc (Nat.le_refl _) _) _⟩
end Go.Proofs.YtclghelocglnlaaGreatDoor.Js
namespace Go.Proofs.YtclghelocglnlaaGreatDoor.Js
open Go.RowKit Lex
theorem put6_row {w:World} {b o:Nat} {T:TypeId} {cur:Array Value} (h:w.heap[b]?=some (.cells cur T (0,0))) (ho:o+6<=cur.size) (c0 c1 c2 c3 c4 c5:Value):
 ∃cur',(put6 w b o c0 c1 c2 c3 c4 c5).heap[b]?=some (.cells cur' T (0,0))/\cur'.size=cur.size/\(∀i,i < o∨o+6<=i->cur'[i]?=cur[i]?)/\∀i,i < 6->cur'[o+i]?=(#[c0,c1,c2,c3,c4,c5]:Array Value)[i]?:=by
 unfold put6;have e1:=heap_setCell_same w b o _ T c0 h;have e2:=heap_setCell_same _ b (o+1) _ T c1 e1;have e3:=heap_setCell_same _ b (o+2) _ T c2 e2;have e4:=heap_setCell_same _ b (o+3) _ T c3 e3;have e5:=heap_setCell_same _ b (o+4) _ T c4 e4;have e6:=heap_setCell_same _ b (o+5) _ T c5 e5;refine ⟨_,e6,by simp,fun i hi=> ?_,fun i hi=> ?_⟩
 ·simp only [Array.getElem?_setIfInBounds,Array.size_setIfInBounds]
  repeat rw [if_neg (by omega)]
 ·obtain rfl | rfl | rfl | rfl | rfl | rfl:i=0∨i=1∨i=2∨i=3∨i=4∨i=5:=by omega
  all_goals
   simp only [Array.getElem?_setIfInBounds,Array.size_setIfInBounds];clear e1 e2 e3 e4 e5 e6
   repeat (first | rw [if_pos (by first | omega | trivial)] | rw [if_neg (by omega)])
   try rfl
structure CI (w:World) (d:Nat) (is:List J) (q:Nat) (wr:World):Prop where
 bel:Below w.heap.size w wr
 blk:∃cur,wr.heap[w.heap.size]?=some (.cells cur 49 (0,0))/\cur.size=is.length * 6
 its:∀i,i < q->∃u,(aggC u).length=6/\LiesAt wr w.heap.size (i * 6) u/\JAt (fun b=>w.heap.size < b) wr d u (is.getD i j0)
theorem CI.cells {w:World} {d:Nat} {is:List J} {q:Nat} {wr w2:World} (h:CI w d is q wr) (hb:Below wr.heap.size wr w2) (hq:q < is.length):
 (∀i,i < 6->∃c,w2.cell? ⟨w.heap.size,q * 6+i,none⟩=some c)/\∀i,w2.frozen? ⟨w.heap.size,i,none⟩=false:=by
 obtain ⟨cur,hc,hs⟩:=h.blk;have hc2:=(hb.block _ (Own.block_lt hc)).trans hc;refine ⟨fun i hi=>⟨cur[q * 6+i]'(by omega),?_⟩,fun i=>free_of hc2 i⟩;rw [cell_of_row _ _ _ _ _ _ hc2,Array.getElem?_eq_getElem]
theorem CI.step {w:World} {d:Nat} {is:List J} {q:Nat} {wr w2:World} (h:CI w d is q wr) (hb:Below wr.heap.size wr w2) (hq:q < is.length) {c0 c1 c2 c3 c4 c5:Value} (hJ:JAt (fun b=>wr.heap.size<=b) w2 d (.agg #[c0,c1,c2,c3,c4,c5]) (is.getD q j0)):
 CI w d is (q+1) (put6 w2 w.heap.size (q * 6) c0 c1 c2 c3 c4 c5):=by
 obtain ⟨cur,hc,hs⟩:=h.blk;have hl:=Own.block_lt hc;have hc2:=(hb.block _ hl).trans hc;obtain ⟨cur',g1,g2,g3,g4⟩:=put6_row hc2 (o:=q * 6) (by omega) c0 c1 c2 c3 c4 c5;have hsz:=put6_size w2 w.heap.size (q * 6) c0 c1 c2 c3 c4 c5;have hot:=put6_block w2 w.heap.size (q * 6) c0 c1 c2 c3 c4 c5;obtain ⟨p1,p2,p3⟩:=put6_os w2 w.heap.size (q * 6) c0 c1 c2 c3 c4 c5;have hbs:=hb.size;generalize put6 w2 w.heap.size (q * 6) c0 c1 c2 c3 c4 c5=W at *;refine ⟨⟨p1.trans (hb.os.trans h.bel.os),p2.trans (hb.tape.trans h.bel.tape),p3.trans (hb.output.trans h.bel.output),by have:=h.bel.size;omega,fun k hk=>(hot k (by omega)).trans ((hb.block k (by omega)).trans (h.bel.block k hk))⟩,⟨cur',g1,by omega⟩,fun i hi=> ?_⟩
 by_cases hiq:i < q
 ·obtain ⟨u,h6,hu1,hu2⟩:=h.its i hiq;refine ⟨u,h6,fun x c hx=> ?_,(hu2.below hb (Nat.le_refl _)).keep (fun _ h _=>h) (fun b hb' _=>hot b (by omega)) (by omega)⟩;have hx6:=(List.getElem?_eq_some_iff.1 hx).1;have:=hu1 x c hx;rw [cell_of_row _ _ _ _ _ _ hc] at this;rw [cell_of_row _ _ _ _ _ _ g1,g3 _ (by omega)];exact this
 ·obtain rfl:i=q:=by omega
  refine ⟨_,rfl,fun x c hx=> ?_,hJ.keep (fun b hb' _=>by omega) (fun b hb' _=>hot b (by omega)) (by omega)⟩;have hx6:x < 6:=by simpa [aggC] using (List.getElem?_eq_some_iff.1 hx).1
  rw [cell_of_row _ _ _ _ _ _ g1,g4 x hx6]
  simpa [aggC] using hx
theorem CI.items {w:World} {d:Nat} {is:List J} {wr:World} (h:CI w d is is.length wr):ItemsAt (fun b=>w.heap.size<=b) wr d (some ⟨w.heap.size,0,none⟩) is:=fun _=>by
 obtain ⟨cur,hc,hs⟩:=h.blk;refine ⟨_,0,rfl,Nat.le_refl _,Own.block_lt hc,fun i hi=> ?_⟩;obtain ⟨u,_,h1,h2⟩:=h.its i hi;exact ⟨u,by rw [Nat.zero_add];exact h1,h2.keep (fun b hb _=>Nat.le_of_lt hb) (fun _ _ _=>rfl) (Nat.le_refl _)⟩
def CRet (w:World) (n:Nat) (j:J) (e:Ending) (w':World):Prop:=
 ∃k m e1 t an nn cn ai ni ci,e= .returned (.agg #[.int .i64 k,.int .i64 m,.int .i64 e1,.string t,.slice an nn cn,.slice ai ni ci])/\
  JAt (fun b=>w.heap.size<=b) w' n (.agg #[.int .i64 k,.int .i64 m,.int .i64 e1,.string t,.slice an nn cn,.slice ai ni ci]) j/\Below w.heap.size w w'
def CopOk (d:Nat):Prop:=∀(S:Nat->Prop) (w:World) (v:Value) (j:J),JAt S w d v j->Calls Tryz.prog 87 #[v] w (CRet w d j)
def LRet (w:World) (d:Nat) (is:List J) (e:Ending) (w':World):Prop:=
 ∃ai ci,e= .returned (.slice ai is.length ci)/\is.length<=ci/\ItemsAt (fun b=>w.heap.size<=b) w' d ai is/\Below w.heap.size w w'
theorem copiedAll_any (S:Nat->Prop) (d:Nat) (ih:CopOk d) (w:World) (ai:Option Addr) (ci:Nat) (is:List J) (hl:is.length<=1599289640354) (hc:is.length<=ci) (hit:ItemsAt S w d ai is):Calls Tryz.prog 121 #[.slice ai is.length ci] w (LRet w d is):=by
 obtain ⟨i0,hi0,hz0,hz1,hz2⟩:=info_parts json_info;have HIT:=Lib.hid hit;have IH:=Lib.hid ih;obtain ⟨n,HN⟩:∃n,Hid (is.length=n):=⟨_,rfl⟩;rw [HN.out] at hl hc⊢;clear hit ih
 go_enter Tryz.func121,Tryz.ntmps121
 go_wp2_with (refine wpList_make_full _ rfl _ _ 47 rfl w.heap.size 49 i0 _ 6 Tryz.underlying47 hi0 hz0 hz1 .i64 .i64 _ _ n rfl rfl rfl rfl (by rw [hz2];omega) (by unfold maxLen;omega) (Nat.le_refl _) ?_;intro w1 hown1 hgrow1)
 have hCI:CI w d is 0 w1:=by
  rcases hown1.2 with ⟨e,_⟩ | ⟨g,cap,cur,hv,hbg,hg,hnc,hcm,hcs,htake⟩
  ·cases e
  ·cases hv
   exact ⟨(Below.refl _ _).grown hgrow1 (Nat.le_refl _) (fun k hk=>by cases hk),⟨cur,hg,by rw [HN.out];exact hcs⟩,fun i hi=>absurd hi (Nat.not_lt_zero _)⟩
 have HCI:=Lib.hid hCI;clear hown1 hgrow1 hCI
 go_loopw [11] (fun i wr=>∃q:Nat,q<=n/\i= .int .i64 q/\Hid (CI w d is q wr)) (fun i _=>n - (intOf i).toNat)
 case atStart=>exact ⟨0,Nat.zero_le _,rfl,HCI⟩
 case round=>
  clear HCI;obtain ⟨q,hq,rfl,HC⟩:=hrel
  by_cases hlt:q < n
  ·obtain ⟨b,off,rfl,hSb,hbl,hel⟩:=HIT.out (by rw [HN.out];omega);obtain ⟨u,hu1,hu2⟩:=hel q (by rw [HN.out];omega);obtain ⟨k1,m1,e1,t1,an1,nn1,cn1,ai1,ni1,ci1,rfl⟩:=jAt_form hu2;obtain ⟨x0,x1,x2,x3,x4,x5⟩:=(hu1.keep (HC.out.bel.block b hbl)).six;have hblr:b < wr.heap.size:=Nat.lt_of_lt_of_le hbl HC.out.bel.size;have q1:(q:Int) < (n:Int):=by omega
   have hlr:w.heap.size < wr.heap.size:=by obtain ⟨cur,hc,_⟩:=HC.out.blk;exact Own.block_lt hc
   have C1:Hid (∀o,Calls Tryz.prog 87 #[.agg #[.int .i64 k1,.int .i64 m1,.int .i64 e1,.string t1,.slice an1 nn1 cn1,.slice ai1 ni1 ci1]] (wr.alloc o) (CRet (wr.alloc o) d (is.getD q j0))):=fun o=>
    IH.out S _ _ _ ((hu2.below HC.out.bel (Nat.le_refl _)).below ((Below.refl _ _).alloc (Nat.le_refl _) _) (Nat.le_refl _))
   unfold CRet at C1;have HQ:Hid (q < is.length):=by show _ < _;rw [HN.out];exact hlt
   clear hel hu1 hu2 IH
   go_wp2_with (go_at_call 87;(with_reducible refine (C1.out _).mono ?_);rintro e3 w3 ⟨k3,m3,e3',t3,an3,nn3,cn3,ai3,ni3,ci3,rfl,hJ3,hb3⟩;have hb3':=Lib.hid (show Below wr.heap.size wr w3 from Dec.below_call hb3);have hcc:=HC.out.cells hb3'.out HQ.out;obtain ⟨z0,y0⟩:=hcc.1 0 (by omega);obtain ⟨z1,y1⟩:=hcc.1 1 (by omega);obtain ⟨z2,y2⟩:=hcc.1 2 (by omega);obtain ⟨z3,y3⟩:=hcc.1 3 (by omega);obtain ⟨z4,y4⟩:=hcc.1 4 (by omega);obtain ⟨z5,y5⟩:=hcc.1 5 (by omega);rw [Nat.add_zero] at y0;have f0:=hcc.2 (q * 6);have f1:=hcc.2 (q * 6+1);have f2:=hcc.2 (q * 6+2);have f3:=hcc.2 (q * 6+3);have f4:=hcc.2 (q * 6+4);have f5:=hcc.2 (q * 6+5);clear hcc;have hs3:=hb3'.out.size)
   go_roundw
   case rel=>exact ⟨q+1,by omega,by go_num,HC.out.step hb3'.out HQ.out (hJ3.keep (fun b hb _=>by simp at hb;omega) (fun _ _ _=>rfl) (Nat.le_refl _))⟩
   case measure=>simp [intOf];omega
  ·obtain rfl:q=n:=by omega
   go_wp2_with fail
   go_ret
   have hC:=HC.out;rw [<-HN.out] at hC;exact ⟨some ⟨w.heap.size,0,none⟩,q,by rw [HN.out];rfl,by rw [HN.out];exact Nat.le_refl _,hC.items,hC.bel⟩
theorem strs_own {w w':World} {base g cap:Nat} {ns:List (List UInt8)} (h:w'.ownsRow base 9 1 (.slice (some ⟨g,0,none⟩) ns.length cap) ns.length (ns.map strW)) (hn:ns.length<=8796093021952) (ht:∀n∈ns,txtB n):StrsAt (fun b=>base<=b) w' (.slice (some ⟨g,0,none⟩) ns.length cap) ns:=by
 rcases h.2 with ⟨e,h0⟩ | ⟨g',cap',cur,hv,hbg,hg,hnc,hcm,hcs,htake⟩
 ·cases e
 ·cases hv
  refine ⟨_,_,rfl,hnc,hn,ht,fun _=>⟨g,0,rfl,hbg,Own.block_lt hg,fun j hj=> ?_⟩⟩;rw [Nat.zero_add];have:=h.cellAt j (by omega);rw [this,List.getElem?_map,List.getElem?_eq_getElem hj,List.getD_eq_getElem?_getD,List.getElem?_eq_getElem hj]
  rfl
theorem strs_news {w:World} {b off:Nat} {ns:List (List UInt8)} (h:∀j,j < ns.length->w.cell? ⟨b,off+j,none⟩=some (strW (ns.getD j []))):∀j u,(ns.map strW)[j]?=some u->w.cell? ((⟨b,off,none⟩:Addr).add j)=some u:=fun j u hu=>by
 rw [show (⟨b,off,none⟩:Addr).add j=⟨b,off+j,none⟩ by simp only [Addr.add];split <;> simp_all];rw [List.getElem?_map] at hu
 cases hj:ns[j]? with
 | none=>rw [hj] at hu;cases hu
 | some x=>
   rw [hj] at hu
   cases hu
   have hlt:=(List.getElem?_eq_some_iff.1 hj).1;rw [h j hlt,List.getD_eq_getElem?_getD,hj]
   rfl
theorem strs_none {S:Nat->Prop} {w:World}:StrsAt S w (.slice none 0 0) []:=⟨none,0,rfl,by simp,by simp,fun x hx=>by simp at hx,fun h=>by simp at h⟩
theorem one_strW {ns:List (List UInt8)}:∀u∈ns.map strW,u.oneCell'=true:=fun u hu=>by
 obtain ⟨x,_,rfl⟩:=List.mem_map.1 hu
 rfl
theorem cop_fin {w w1:World} {n:Nat} {k m e:Int} {t:List UInt8} {ns:List (List UInt8)} {is:List J} {an ai:Option Addr} {cn ci:Nat} (hB:Below w.heap.size w w1) (hk:i64B k) (hm:i64B m) (he:i64B e) (ht:txtB t)
 (hN:StrsAt (fun b=>w.heap.size+2<=b) w1 (.slice an ns.length cn) ns) (hl:is.length<=1599289640354) (hci:is.length<=ci) (hI:ItemsAt (fun b=>w.heap.size+2<=b) w1 n ai is) (u4 u5 c0 c1 c2 c3 c4 c5:Value):
 CRet w (n+1) (.mk k m e t ns is) (.returned (.agg #[.int .i64 k,.int .i64 m,.int .i64 e,.string ⟨t.toArray⟩,.slice an ns.length cn,.slice ai is.length ci])) (put6 (w1.setCell ⟨w.heap.size,5,none⟩ u5) (w.heap.size+1) 0 c0 c1 c2 c3 c4 c5):=by
 have hsz:=put6_size (w1.setCell ⟨w.heap.size,5,none⟩ u5) (w.heap.size+1) 0 c0 c1 c2 c3 c4 c5;rw [size_set] at hsz;have hkeep:∀b,w.heap.size+2<=b->b < w1.heap.size->(put6 (w1.setCell ⟨w.heap.size,5,none⟩ u5) (w.heap.size+1) 0 c0 c1 c2 c3 c4 c5).heap[b]?=w1.heap[b]?:=fun b hb _=>(put6_block _ _ 0 c0 c1 c2 c3 c4 c5 b (by omega)).trans (heap_setCell_other _ _ _ _ (by show b≠w.heap.size;omega))
 refine ⟨_,_,_,_,_,_,_,_,_,_,rfl,⟨_,_,_,rfl,hk,hm,he,ht,hN.keep (fun b hb _=>by omega) hkeep (by omega),hci,hl,fun hp=> ?_⟩,?_⟩
 ·obtain ⟨b,off,e1,e2,e3,e4⟩:=hI hp;refine ⟨b,off,e1,by omega,by omega,fun i hi=> ?_⟩;obtain ⟨u,q1,q2⟩:=e4 i hi;exact ⟨u,q1.keep (hkeep b e2 e3),q2.keep (fun b hb _=>by omega) hkeep (by omega)⟩
 ·have h2:Below w.heap.size w (w1.setCell ⟨w.heap.size,5,none⟩ u5):=⟨hB.os,hB.tape,hB.output,by rw [size_set];exact hB.size,fun k hk=>(heap_setCell_other _ _ _ _ (by show k≠w.heap.size;omega)).trans (hB.block k hk)⟩;exact below_put6' h2 (by omega) _ _ _ _ _ _
end Go.Proofs.YtclghelocglnlaaGreatDoor.Js
namespace Go.Proofs.YtclghelocglnlaaGreatDoor.Js
open Go.RowKit Lex
theorem ItemsAt.keep {S S':Nat->Prop} {w w':World} {d:Nat} {ai:Option Addr} {is:List J} (h:ItemsAt S w d ai is) (hS:∀b,S b->b < w.heap.size->S' b) (hk:∀b,S b->b < w.heap.size->w'.heap[b]?=w.heap[b]?) (hs:w.heap.size<=w'.heap.size):ItemsAt S' w' d ai is:=fun hp=>by
 obtain ⟨b,off,q1,q2,q3,q4⟩:=h hp;exact ⟨b,off,q1,hS b q2 q3,Nat.lt_of_lt_of_le q3 hs,fun i hi=>by obtain ⟨u,r1,r2⟩:=q4 i hi;exact ⟨u,r1.keep (hk b q2 q3),r2.keep hS hk hs⟩⟩
theorem ItemsAt.below {S:Nat->Prop} {w w':World} {d:Nat} {ai:Option Addr} {is:List J} (h:ItemsAt S w d ai is) (hb:Below w.heap.size w w'):ItemsAt S w' d ai is:=h.keep (fun _ h _=>h) (fun b _ hl=>hb.block b hl) hb.size
theorem two_boxes {w w1:World} {C D:Array Value} {T:TypeId} (hb:Below ((w.alloc (.cells C T)).alloc (.cells D T)).heap.size ((w.alloc (.cells C T)).alloc (.cells D T)) w1):
 w1.heap[w.heap.size]?=some (.cells C T (0,0))/\w1.heap[w.heap.size+1]?=some (.cells D T (0,0))/\w.heap.size+1 < w1.heap.size/\Below w.heap.size w w1:=by
 have hs:=hb.size;simp at hs;exact ⟨by rw [hb.block _ (by simp;omega)];exact two_old w _ _,by rw [hb.block _ (by simp)];exact two_new w _ _,by omega,(((Below.refl _ _).alloc (Nat.le_refl _) _).alloc (by simp) _).trans (hb.mono (by simp;omega))⟩
theorem set_row {w:World} {b i:Nat} {T:TypeId} {cs:Array Value} {u:Value} (h:w.heap[b]?=some (.cells cs T (0,0))):(w.setCell ⟨b,i,none⟩ u).heap[b]?=some (.cells (cs.setIfInBounds i u) T (0,0)):=heap_setCell_same w b i cs T u h
theorem belowTwo (w:World) (o1 o2:Obj):Below w.heap.size w ((w.alloc o1).alloc o2):=((Below.refl _ _).alloc (Nat.le_refl _) _).alloc (by simp) _
theorem below_set1 {w w1:World} {B b i:Nat} (h:Below B w w1) (hb:B<=b) (u:Value):Below B w (w1.setCell ⟨b,i,none⟩ u):=
 ⟨h.os,h.tape,h.output,by rw [size_set];exact h.size,fun k hk=>(heap_setCell_other _ _ _ _ (by show k≠b;omega)).trans (h.block k hk)⟩
theorem copied_step (d:Nat) (ih:CopOk d):CopOk (d+1):=by
 intro S w v j h;obtain ⟨k,m,e,t,ns,is⟩:=j;obtain ⟨d',an,cn,ai,ci,hd',rfl,hk,hm,he,ht,hns,hn1,hn,hi1,hi,hit⟩:=h.open_;obtain rfl:d'=d:=by omega
 obtain ⟨_,_,e1,-,-,htx,hc1⟩:=hns
 cases e1
 have HX:=Lib.hid htx;have HK:=Lib.hid (And.intro hk (And.intro hm (And.intro he ht)));have H1:=Lib.hid hc1;have HIT:Hid (ItemsAt S w d' ai is):=hit;have HL:=Lib.hid hi;have HC:=Lib.hid hi1;have C1:Hid (∀w',Below w.heap.size w w'->Calls Tryz.prog 121 #[.slice ai is.length ci] w' (LRet w' d' is)):=fun w' hb=>copiedAll_any S d' ih w' ai ci is HL.out HC.out (HIT.out.below hb)
 unfold LRet at C1;obtain ⟨i1,hz3,hx0,hx1,hx2⟩:=info_parts str_info2;clear hc1 hit htx hd' h hk hm he ht ih
 by_cases h0:ns.length=0
 ·obtain rfl:ns= []:=List.length_eq_zero_iff.1 h0;clear h0 H1 HX hn hn1;rw [show ([]:List (List UInt8)).length=0 from rfl];generalize hni:is.length=ni at *;have HNI:=Lib.hid hni;clear hni;rcases an with _ | a
  all_goals
   go_enter Tryz.func87,Tryz.ntmps87
   go_wp2_with (go_at_call 121;(with_reducible refine (C1.out _ (belowTwo _ _ _)).mono ?_);rintro e2 w2 ⟨ai2,ci2,rfl,hc2,hI2,hb2⟩;obtain ⟨x1,x2,x3,hbw⟩:=two_boxes hb2;obtain ⟨y0,y1,y2,y3,y4,y5⟩:=six_of x1;have f5:=free_of x1 5;obtain ⟨z0,z1,z2,z3,z4,z5⟩:=six_of x2;have g0:=free_of x2 0;have g1:=free_of x2 1;have g2:=free_of x2 2;have g3:=free_of x2 3;have g4:=free_of x2 4;have g5:=free_of x2 5)
   refine bodyPost_ret (v:= .agg #[.int .i64 k,.int .i64 m,.int .i64 e,.string ⟨t.toArray⟩,.slice none 0 0,.slice ai2 ni ci2]) (by simp [results,Tryz.results87,go_sem,z0,z1,z2,z3,z4,z5]) rfl ?_;obtain ⟨hk,hm,he,ht⟩:=HK.out;rw [<-HNI.out];exact cop_fin (ns:= []) hbw hk hm he ht strs_none (by rw [HNI.out];exact hi) (by rw [HNI.out];exact hc2) (hI2.keep (fun b hb _=>by simpa using hb) (fun _ _ _=>rfl) (Nat.le_refl _)) (.int .i64 0) _ _ _ _ _ _ _
 ·obtain ⟨b,off,rfl,hSb,hbl,hcl⟩:=H1.out (by omega);have hp:0 < ns.length:=by omega
  have HNEW:Hid (∀o1 o2,∀j u,(ns.map strW)[j]?=some u->((w.alloc o1).alloc o2).cell? ((⟨b,off,none⟩:Addr).add j)=some u):=fun o1 o2=>strs_news (fun j hj=>((belowTwo w o1 o2).cell (p:=⟨b,off+j,none⟩) hbl).trans (hcl j hj))
  clear hcl h0 H1;have HONE:Hid (∀u∈ns.map strW,u.oneCell'=true):=one_strW;generalize hni:is.length=ni at *;have HNI:=Lib.hid hni;clear hni;generalize hnn:ns.length=nn at *;have HNN:=Lib.hid hnn;clear hnn;have HLM:Hid ((ns.map strW).length=nn * 1):=by show _=_;rw [List.length_map,HNN.out];omega
  go_enter Tryz.func87,Tryz.ntmps87
  go_wp2_with (first
   | (at_builtin;(refine wpList_append_lies _ rfl _ _ 36 rfl (w.heap.size+2) 9 i1 _ 1 16 Tryz.underlying36 hz3 hx0 hx1 hx2 rfl (by omega) _ 0 [] rfl ⟨rfl,.inl ⟨rfl,rfl⟩⟩ ⟨b,off,none⟩ nn cn (ns.map strW) rfl HLM.out (HNEW.out _ _) HONE.out (by omega) (by unfold maxLen;omega) (by omega) (by simp) (w.heap.size+2) (by simp) ?_);intro g cp w3 hown hgrow hat hlt;rw [Nat.zero_add] at hown⊢;have q1:=(hgrow.block w.heap.size (by simp;omega) (fun h=>by cases h)).trans (two_old w _ _);have q2:=(hgrow.block (w.heap.size+1) (by simp) (fun h=>by cases h)).trans (two_new w _ _);have hs3:=hgrow.size;have hB3:=Lib.hid ((belowTwo w _ _).trans (Below.refl _ _ |>.grown hgrow (by simp;omega) (fun k hk=>by cases hk):Below w.heap.size _ w3));obtain ⟨y0,y1,y2,y3,y4,y5⟩:=six_of q1;have f4:=free_of q1 4)
   | (go_at_call 121;(with_reducible refine (C1.out _ (below_set1 hB3.out (Nat.le_refl _) _)).mono ?_);rintro e4 w4 ⟨ai2,ci2,rfl,hc2,hI2,hb4⟩;have x1:=(hb4.block w.heap.size (by rw [size_set];exact Own.block_lt q1)).trans (set_cell4 q1 _);have x2:=(hb4.block (w.heap.size+1) (by rw [size_set];exact Own.block_lt q2)).trans ((heap_setCell_other _ _ _ _ (by show w.heap.size+1≠w.heap.size;omega)).trans q2);have hs4:=hb4.size;have hB4:=Lib.hid ((below_set1 hB3.out (Nat.le_refl _) _).trans (hb4.mono (by rw [size_set];exact Nat.le_of_lt (Own.block_lt q1))));clear y0 y1 y2 y3 y4 y5 f4;obtain ⟨y0,y1,y2,y3,y4,y5⟩:=six_of x1;have f5:=free_of x1 5;obtain ⟨z0,z1,z2,z3,z4,z5⟩:=six_of x2;have g0:=free_of x2 0;have g1:=free_of x2 1;have g2:=free_of x2 2;have g3:=free_of x2 3;have g4:=free_of x2 4;have g5:=free_of x2 5;have hl4:=Own.block_lt x1;have hl5:=Own.block_lt x2))
  refine bodyPost_ret (v:= .agg #[.int .i64 k,.int .i64 m,.int .i64 e,.string ⟨t.toArray⟩,.slice (some ⟨g,0,none⟩) nn cp,.slice ai2 ni ci2]) (by simp [results,Tryz.results87,go_sem,z0,z1,z2,z3,z4,z5]) rfl ?_;obtain ⟨hk,hm,he,ht⟩:=HK.out;simp at hs3;rw [List.nil_append] at hown;rw [<-HNN.out] at hown;have hS3:=strs_own (w:=w) hown (by rw [HNN.out];exact hn) HX.out;have hS4:=hS3.keep (S':=fun b=>w.heap.size+2<=b) (w':=w4) (fun _ h _=>h) (fun b hb hl=>(hb4.block b (by rw [size_set];exact hl)).trans (heap_setCell_other _ _ _ _ (by show b≠w.heap.size;omega))) (by rw [size_set] at hs4;exact hs4);rw [<-HNI.out,<-HNN.out];exact cop_fin hB4.out hk hm he ht hS4 (by rw [HNI.out];exact hi) (by rw [HNI.out];exact hc2) (hI2.keep (fun b hb _=>by rw [size_set] at hb;omega) (fun _ _ _=>rfl) (Nat.le_refl _)) (.int .i64 0) _ _ _ _ _ _ _
theorem copied_ok:∀d,CopOk d
 | 0=>fun S w v j h=>h.elim
 | d+1=>copied_step d (copied_ok d)
end Go.Proofs.YtclghelocglnlaaGreatDoor.Js
namespace Go.Proofs.YtclghelocglnlaaGreatDoor.Js
open Go.RowKit Lex
theorem belowOne (w:World) (o:Obj):Below w.heap.size w (w.alloc o):=(Below.refl _ _).alloc (Nat.le_refl _) _
end Go.Proofs.YtclghelocglnlaaGreatDoor.Js
namespace Go.Proofs.YtclghelocglnlaaGreatDoor.Js
open Go.RowKit Lex
def tellG {α:Type} (z:α) (f:J->α×Bool) (j:J) (nm:List UInt8):α×Bool:=if plc j nm < 0 then (z,false) else f (j.is.getD (plc j nm).toNat j0)
theorem plc_B (j:J) (nm:List UInt8) (P:Int) (h:plc j nm=P): -1<=P/\P < j.is.length:=by rw [<-h];exact plc_lt j nm
theorem item_at {S:Nat->Prop} {w:World} {d:Nat} {ai:Option Addr} {is:List J} (hit:ItemsAt S w d ai is) {P:Int} (h0:0<=P) (hP:P < is.length):
 ∃b off c0 c1 c2 c3 c4 c5,ai=some ⟨b,off,none⟩/\b < w.heap.size/\LiesAt w b (off+P.toNat * 6) (.agg #[c0,c1,c2,c3,c4,c5])/\JAt S w d (.agg #[c0,c1,c2,c3,c4,c5]) (is.getD P.toNat j0):=by
 obtain ⟨b,off,e1,e2,e3,e4⟩:=hit (by omega);obtain ⟨u,q1,q2⟩:=e4 P.toNat (by omega);obtain ⟨k,m,e,t,an,nn,cn,ai',ni,ci,rfl⟩:=jAt_form q2;exact ⟨b,off,_,_,_,_,_,_,e1,e3,q1,q2⟩
theorem tellI_any (S:Nat->Prop) (d:Nat) (v:Value) (j:J) (nm:List UInt8) (w:World) (h:JAt S w d v j):Calls Tryz.prog 100 #[v,.string ⟨nm.toArray⟩,.func (.func 101) #[] #[]] w (Ret (.tuple #[.int .i64 (tellG (0:Int) numS j nm).1,.bool (tellG (0:Int) numS j nm).2]) w):=by
 have PL:=Lib.hid (fun (w':World) (hb:Below w.heap.size w w')=>place_any S d v j nm w' (h.below hb (Nat.le_refl _)));obtain ⟨P,hP⟩:∃P,plc j nm=P:=⟨_,rfl⟩;have hB:=plc_B j nm P hP;unfold tellG;rw [hP] at PL⊢;clear hP;obtain ⟨k,m,e,t,ns,is⟩:=j;obtain ⟨d',an,cn,ai,ci,hd',rfl,_,_,_,_,_,hn1,hn,hi1,hi,hit⟩:=h.open_;have HIT:Hid (ItemsAt S w d' ai is):=hit;clear hit h;change -1<=P/\P < is.length at hB;obtain ⟨hB0,hB1⟩:=hB
 by_cases hn:P < 0
 ·rw [if_pos hn]
  go_enter Tryz.func100,Tryz.ntmps100
  go_wp2_with (go_at_call 140;(with_reducible refine (PL.out _ (belowOne _ _)).mono ?_);rintro e1 w1 ⟨rfl,hb1⟩)
  go_ret2
  exact ⟨rfl,Dec.below_call hb1⟩
 ·rw [if_neg hn];obtain ⟨b,off,c0,c1,c2,c3,c4,c5,rfl,hbl,hl,hJ⟩:=item_at HIT.out (by omega) hB1;have IC:=Lib.hid (fun (w':World) (hb:Below w.heap.size w w')=>number_any S d' _ _ w' (hJ.below hb (Nat.le_refl _)));have HL:=Lib.hid hl;change Calls _ _ _ _ (Ret (.tuple #[.int .i64 (numS (is.getD P.toNat j0)).1,.bool (numS (is.getD P.toNat j0)).2]) w);generalize numS (is.getD P.toNat j0)=R at *;obtain ⟨r1,r2⟩:=R;clear hl hJ HIT
  go_enter Tryz.func100,Tryz.ntmps100
  go_wp2_with (first
   | (go_at_call 140;(with_reducible refine (PL.out _ (belowOne _ _)).mono ?_);rintro e1 w1 ⟨rfl,hb1⟩;have x1:=(hb1.block _ (by simp)).trans (heap_alloc_new w _);obtain ⟨y0,y1,y2,y3,y4,y5⟩:=six_of x1;have HBW:=Lib.hid (Dec.below_call hb1);obtain ⟨z0,z1,z2,z3,z4,z5⟩:=(HL.out.keep (HBW.out.block b hbl)).six)
   | (go_at_call 101;(with_reducible refine (IC.out _ HBW.out).mono ?_);rintro e2 w2 ⟨rfl,hb2⟩))
  go_ret2
  exact ⟨rfl,HBW.out.trans (hb2.mono HBW.out.size)⟩
theorem FNum_any (S:Nat->Prop) (d:Nat) (v:Value) (j:J) (nm:List UInt8) (w:World) (h:JAt S w d v j):Calls Tryz.prog 70 #[v,.string ⟨nm.toArray⟩] w (Ret (.tuple #[.int .i64 (tellG (0:Int) numS j nm).1,.bool (tellG (0:Int) numS j nm).2]) w):=by
 have TE:=Lib.hid (fun (w':World) (hb:Below w.heap.size w w')=>tellI_any S d v j nm w' (h.below hb (Nat.le_refl _)));generalize tellG (0:Int) numS j nm=R at *;obtain ⟨r1,r2⟩:=R;obtain ⟨k,m,e,t,an,nn,cn,ai,ni,ci,rfl⟩:=jAt_form h;clear h
 go_enter Tryz.func70,Tryz.ntmps70
 go_wp2_with (go_at_call 100;(with_reducible refine (TE.out _ (belowOne _ _)).mono ?_);rintro e1 w1 ⟨rfl,hb1⟩)
 go_ret2
 exact ⟨rfl,Dec.below_call hb1⟩
theorem tellS_any (S:Nat->Prop) (d:Nat) (v:Value) (j:J) (nm:List UInt8) (w:World) (h:JAt S w d v j):Calls Tryz.prog 102 #[v,.string ⟨nm.toArray⟩,.func (.func 103) #[] #[]] w (Ret (.tuple #[.string ⟨(tellG ([]:List UInt8) txtS j nm).1.toArray⟩,.bool (tellG ([]:List UInt8) txtS j nm).2]) w):=by
 have PL:=Lib.hid (fun (w':World) (hb:Below w.heap.size w w')=>place_any S d v j nm w' (h.below hb (Nat.le_refl _)));obtain ⟨P,hP⟩:∃P,plc j nm=P:=⟨_,rfl⟩;have hB:=plc_B j nm P hP;unfold tellG;rw [hP] at PL⊢;clear hP;obtain ⟨k,m,e,t,ns,is⟩:=j;obtain ⟨d',an,cn,ai,ci,hd',rfl,_,_,_,_,_,hn1,hn,hi1,hi,hit⟩:=h.open_;have HIT:Hid (ItemsAt S w d' ai is):=hit;clear hit h;change -1<=P/\P < is.length at hB;obtain ⟨hB0,hB1⟩:=hB
 by_cases hn:P < 0
 ·rw [if_pos hn]
  go_enter Tryz.func102,Tryz.ntmps102
  go_wp2_with (go_at_call 140;(with_reducible refine (PL.out _ (belowOne _ _)).mono ?_);rintro e1 w1 ⟨rfl,hb1⟩)
  go_ret2
  exact ⟨rfl,Dec.below_call hb1⟩
 ·rw [if_neg hn];obtain ⟨b,off,c0,c1,c2,c3,c4,c5,rfl,hbl,hl,hJ⟩:=item_at HIT.out (by omega) hB1;have IC:=Lib.hid (fun (w':World) (hb:Below w.heap.size w w')=>text_any S d' _ _ w' (hJ.below hb (Nat.le_refl _)));have HL:=Lib.hid hl;change Calls _ _ _ _ (Ret (.tuple #[.string ⟨(txtS (is.getD P.toNat j0)).1.toArray⟩,.bool (txtS (is.getD P.toNat j0)).2]) w);generalize txtS (is.getD P.toNat j0)=R at *;obtain ⟨r1,r2⟩:=R;clear hl hJ HIT
  go_enter Tryz.func102,Tryz.ntmps102
  go_wp2_with (first
   | (go_at_call 140;(with_reducible refine (PL.out _ (belowOne _ _)).mono ?_);rintro e1 w1 ⟨rfl,hb1⟩;have x1:=(hb1.block _ (by simp)).trans (heap_alloc_new w _);obtain ⟨y0,y1,y2,y3,y4,y5⟩:=six_of x1;have HBW:=Lib.hid (Dec.below_call hb1);obtain ⟨z0,z1,z2,z3,z4,z5⟩:=(HL.out.keep (HBW.out.block b hbl)).six)
   | (go_at_call 103;(with_reducible refine (IC.out _ HBW.out).mono ?_);rintro e2 w2 ⟨rfl,hb2⟩))
  go_ret2
  exact ⟨rfl,HBW.out.trans (hb2.mono HBW.out.size)⟩
theorem FText_any (S:Nat->Prop) (d:Nat) (v:Value) (j:J) (nm:List UInt8) (w:World) (h:JAt S w d v j):Calls Tryz.prog 72 #[v,.string ⟨nm.toArray⟩] w (Ret (.tuple #[.string ⟨(tellG ([]:List UInt8) txtS j nm).1.toArray⟩,.bool (tellG ([]:List UInt8) txtS j nm).2]) w):=by
 have TE:=Lib.hid (fun (w':World) (hb:Below w.heap.size w w')=>tellS_any S d v j nm w' (h.below hb (Nat.le_refl _)));generalize tellG ([]:List UInt8) txtS j nm=R at *;obtain ⟨r1,r2⟩:=R;obtain ⟨k,m,e,t,an,nn,cn,ai,ni,ci,rfl⟩:=jAt_form h;clear h
 go_enter Tryz.func72,Tryz.ntmps72
 go_wp2_with (go_at_call 102;(with_reducible refine (TE.out _ (belowOne _ _)).mono ?_);rintro e1 w1 ⟨rfl,hb1⟩)
 go_ret2
 exact ⟨rfl,Dec.below_call hb1⟩
theorem tellB_any (S:Nat->Prop) (d:Nat) (v:Value) (j:J) (nm:List UInt8) (w:World) (h:JAt S w d v j):Calls Tryz.prog 144 #[v,.string ⟨nm.toArray⟩,.func (.func 145) #[] #[]] w (Ret (.tuple #[.bool (tellG false flagS j nm).1,.bool (tellG false flagS j nm).2]) w):=by
 have PL:=Lib.hid (fun (w':World) (hb:Below w.heap.size w w')=>place_any S d v j nm w' (h.below hb (Nat.le_refl _)));obtain ⟨P,hP⟩:∃P,plc j nm=P:=⟨_,rfl⟩;have hB:=plc_B j nm P hP;unfold tellG;rw [hP] at PL⊢;clear hP;obtain ⟨k,m,e,t,ns,is⟩:=j;obtain ⟨d',an,cn,ai,ci,hd',rfl,_,_,_,_,_,hn1,hn,hi1,hi,hit⟩:=h.open_;have HIT:Hid (ItemsAt S w d' ai is):=hit;clear hit h;change -1<=P/\P < is.length at hB;obtain ⟨hB0,hB1⟩:=hB
 by_cases hn:P < 0
 ·rw [if_pos hn]
  go_enter Tryz.func144,Tryz.ntmps144
  go_wp2_with (go_at_call 140;(with_reducible refine (PL.out _ (belowOne _ _)).mono ?_);rintro e1 w1 ⟨rfl,hb1⟩)
  go_ret2
  exact ⟨rfl,Dec.below_call hb1⟩
 ·rw [if_neg hn];obtain ⟨b,off,c0,c1,c2,c3,c4,c5,rfl,hbl,hl,hJ⟩:=item_at HIT.out (by omega) hB1;have IC:=Lib.hid (fun (w':World) (hb:Below w.heap.size w w')=>flag_any S d' _ _ w' (hJ.below hb (Nat.le_refl _)));have HL:=Lib.hid hl;change Calls _ _ _ _ (Ret (.tuple #[.bool (flagS (is.getD P.toNat j0)).1,.bool (flagS (is.getD P.toNat j0)).2]) w);generalize flagS (is.getD P.toNat j0)=R at *;obtain ⟨r1,r2⟩:=R;clear hl hJ HIT
  go_enter Tryz.func144,Tryz.ntmps144
  go_wp2_with (first
   | (go_at_call 140;(with_reducible refine (PL.out _ (belowOne _ _)).mono ?_);rintro e1 w1 ⟨rfl,hb1⟩;have x1:=(hb1.block _ (by simp)).trans (heap_alloc_new w _);obtain ⟨y0,y1,y2,y3,y4,y5⟩:=six_of x1;have HBW:=Lib.hid (Dec.below_call hb1);obtain ⟨z0,z1,z2,z3,z4,z5⟩:=(HL.out.keep (HBW.out.block b hbl)).six)
   | (go_at_call 145;(with_reducible refine (IC.out _ HBW.out).mono ?_);rintro e2 w2 ⟨rfl,hb2⟩))
  go_ret2
  exact ⟨rfl,HBW.out.trans (hb2.mono HBW.out.size)⟩
theorem FFlag_any (S:Nat->Prop) (d:Nat) (v:Value) (j:J) (nm:List UInt8) (w:World) (h:JAt S w d v j):Calls Tryz.prog 107 #[v,.string ⟨nm.toArray⟩] w (Ret (.tuple #[.bool (tellG false flagS j nm).1,.bool (tellG false flagS j nm).2]) w):=by
 have TE:=Lib.hid (fun (w':World) (hb:Below w.heap.size w w')=>tellB_any S d v j nm w' (h.below hb (Nat.le_refl _)));generalize tellG false flagS j nm=R at *;obtain ⟨r1,r2⟩:=R;obtain ⟨k,m,e,t,an,nn,cn,ai,ni,ci,rfl⟩:=jAt_form h;clear h
 go_enter Tryz.func107,Tryz.ntmps107
 go_wp2_with (go_at_call 144;(with_reducible refine (TE.out _ (belowOne _ _)).mono ?_);rintro e1 w1 ⟨rfl,hb1⟩)
 go_ret2
 exact ⟨rfl,Dec.below_call hb1⟩
end Go.Proofs.YtclghelocglnlaaGreatDoor.Js
namespace Go.Proofs.YtclghelocglnlaaGreatDoor.Js
open Go.RowKit Lex
def fdC (f:Fd):Array Value:=#[.string ⟨f.nm.toArray⟩,.int .i64 f.k,.int .i64 f.lo,.int .i64 f.hi,.bool f.fr]
def tellC (j:J) (f:Fd):Bool×Bool:=tellG false (fun x=>(fitB x f,true)) j f.nm
def FdsAt (w:World) (v:Value) (fs:List Fd):Prop:=
 ∃ao cap,v= .slice ao fs.length cap/\fs.length<=cap/\fs.length<=140737488355328/\(∀f∈fs,f.good)/\
  (0 < fs.length->∃b off,ao=some ⟨b,off,none⟩/\b < w.heap.size/\∀i,i < fs.length->LiesAt w b (off+i * 5) (fdV (fs.getD i fd0)))
theorem FdsAt.below {w w':World} {v:Value} {fs:List Fd} (h:FdsAt w v fs) (hb:Below w.heap.size w w'):FdsAt w' v fs:=by
 obtain ⟨ao,cap,h1,h2,h3,h4,h5⟩:=h;refine ⟨ao,cap,h1,h2,h3,h4,fun hp=> ?_⟩;obtain ⟨b,off,e1,e2,e3⟩:=h5 hp;exact ⟨b,off,e1,Nat.lt_of_lt_of_le e2 hb.size,fun i hi=>(e3 i hi).keep (hb.block b e2)⟩
structure KI (w:World) (X:Array Value) (wr:World):Prop where
 bel:Below w.heap.size w wr
 box:wr.heap[w.heap.size]?=some (.cells X 49 (0,0))
theorem KI.step {w:World} {X:Array Value} {wr w':World} (h:KI w X wr) (hb:Below wr.heap.size wr w'):KI w X w':=
 ⟨h.bel.trans (hb.mono h.bel.size),(hb.block _ (Own.block_lt h.box)).trans h.box⟩
end Go.Proofs.YtclghelocglnlaaGreatDoor.Js
namespace Go.Proofs.YtclghelocglnlaaGreatDoor.Js
open Go.RowKit Lex
end Go.Proofs.YtclghelocglnlaaGreatDoor.Js
namespace Go.Proofs.YtclghelocglnlaaGreatDoor.Js
open Go.RowKit Lex
def mkL:List (List UInt8)->List J->List (List UInt8)->List J->List (List UInt8)×List J
 | x::r,y::s,ns,is=>if ns.contains x=true then mkL r s ns is else mkL r s (ns++ [x]) (is++ [y])
 | [],_,ns,is=>(ns,is)
 | _::_,[],ns,is=>(ns,is)
def mkJ (names:List (List UInt8)) (items:List J):J:= .mk 7 0 0 [] (mkL names items [] []).1 (mkL names items [] []).2
theorem Own2.below5 {base bv n:Nat} {k:Int} {nv iv:Value} {ns:List (List UInt8)} {vs:List Value} {acc:List J} {w w':World} (h:Own2 base bv n k nv iv ns vs acc w) {B:Nat} (hb:Below B w w') (hB:w.heap.size<=B):Own2 base bv n k nv iv ns vs acc w':=
 h.chg (X:=fun _=>False) ⟨hb.os,hb.tape,hb.output,hb.size,fun b hl _=>hb.block b (by omega)⟩ (fun _ _ h=>h) (fun h=>h)
section
variable {base bv n:Nat} {k:Int} {nv iv:Value} {ns:List (List UInt8)} {vs:List Value} {acc:List J} {w1 wS w2:World} {g cp:Nat}
theorem item_frame5 (hgrow:wS.grownBy w2 iv.ownBlock) (hBS:Below w1.heap.size w1 wS) (u:Value):
 (∀b,b < w1.heap.size->some b≠iv.ownBlock->b≠bv->(w2.setCell ⟨bv,5,none⟩ u).heap[b]?=w1.heap[b]?)/\w1.heap.size<=(w2.setCell ⟨bv,5,none⟩ u).heap.size/\(w2.setCell ⟨bv,5,none⟩ u).os=w1.os/\(w2.setCell ⟨bv,5,none⟩ u).tape=w1.tape/\(w2.setCell ⟨bv,5,none⟩ u).output=w1.output:=by
 have hs:=hgrow.size;have hsS:=hBS.size;refine ⟨fun b hb h1 h2=> ?_,?_,hgrow.os.trans hBS.os,hgrow.tape.trans hBS.tape,hgrow.output.trans hBS.output⟩
 ·rw [Below.heap_setCell _ _ _ _ h2,hgrow.block b (by omega) h1,hBS.block b hb]
 ·simp only [World.setCell,Array.size_modify];omega
theorem step_item5 (hO:Own2 base bv n k nv iv ns vs acc w1) (hgrow:wS.grownBy w2 iv.ownBlock) (hBS:Below w1.heap.size w1 wS) (hat:iv.ownBlock=some g∨w1.heap.size<=g)
 {c0 c1 c2 c3 c4 c5:Value} (hown:w2.ownsRow base 49 6 (.slice (some ⟨g,0,none⟩) (acc.length+1) cp) (acc.length+1) (vs.flatMap aggC++ [c0,c1,c2,c3,c4,c5]))
 {S:Nat->Prop} {j:J} (hJ:JAt S w1 n (.agg #[c0,c1,c2,c3,c4,c5]) j) (hq:∀b,S b->b < w1.heap.size->base<=b/\some b≠iv.ownBlock/\some b≠nv.ownBlock/\b≠bv):
 Own2 base bv n k nv (.slice (some ⟨g,0,none⟩) (acc.length+1) cp) ns (vs++ [.agg #[c0,c1,c2,c3,c4,c5]]) (acc++ [j]) (w2.setCell ⟨bv,5,none⟩ (.slice (some ⟨g,0,none⟩) (acc.length+1) cp)):=by
 obtain ⟨F1,F2,F3,F4,F5⟩:=item_frame5 (bv:=bv) (iv:=iv) hgrow hBS (.slice (some ⟨g,0,none⟩) (acc.length+1) cp);have hbl:=Own.block_lt hO.blk
 have hbg:bv≠g:=by
  rcases hat with h | h
  ·rintro rfl;exact hO.ine h
  ·omega
 have hsS:=hBS.size;have hne2:some bv≠iv.ownBlock:=fun h=>hO.ine h.symm
 have hb2:w2.heap[bv]?=w1.heap[bv]?:=by rw [hgrow.block bv (by omega) hne2,hBS.block bv hbl]
 have hnlt:∀b,nv.ownBlock=some b->b < w1.heap.size:=fun b hb=>(hO.nrow.lt b hb).2
 have hnapart:nv.ownBlock=none∨nv.ownBlock≠iv.ownBlock:=Own.own_apart hO.irow hO.nrow (by decide);refine ⟨set_cell5 (hb2.trans hO.blk) _,?_,?_,by simp [hO.vl],by simpa [Value.ownBlock] using Ne.symm hbg,hO.txt,fun i hi=> ?_⟩
 ·have:=ownsRow_setCell_other hown (a:=⟨bv,5,none⟩) (by simpa [Value.ownBlock] using Ne.symm hbg) (.slice (some ⟨g,0,none⟩) (acc.length+1) cp)
  simpa [aggC] using this
 ·refine ⟨hO.nrow.1,?_⟩;rcases hO.nrow.2 with hn | ⟨gn,cap,cur,hv,hbg',hg,hr⟩
  ·exact .inl hn
  ·refine .inr ⟨gn,cap,cur,hv,hbg',?_,hr⟩;have e1:nv.ownBlock=some gn:=by rw [hv];rfl
   rw [F1 gn (hnlt gn e1) ?_ ?_];exact hg
   ·intro h;rcases hnapart with h' | h'
    ·rw [h'] at e1;cases e1
    ·exact h' (e1.trans h)
   ·rintro rfl;have:=hO.blk;rw [hg] at this;cases this
 ·have hS:∀b,(base<=b/\some b≠iv.ownBlock/\some b≠nv.ownBlock/\b≠bv)->b < w1.heap.size->InS base bv nv (.slice (some ⟨g,0,none⟩) (acc.length+1) cp) b:=fun b hb hlt=>by
   refine ⟨hb.1,?_,hb.2.2.1,hb.2.2.2⟩;show some b≠some g;intro e
   cases e
   rcases hat with h | h
   ·exact hb.2.1 h.symm
   ·omega
  by_cases hia:i < acc.length
  ·have:=hO.items i hia;have e1:(vs++ [Value.agg #[c0,c1,c2,c3,c4,c5]]).getD i undef=vs.getD i undef:=by rw [List.getD_eq_getElem?_getD,List.getD_eq_getElem?_getD,List.getElem?_append_left (by rw [hO.vl];exact hia)]
   have e2:(acc++ [j]).getD i j0=acc.getD i j0:=by rw [List.getD_eq_getElem?_getD,List.getD_eq_getElem?_getD,List.getElem?_append_left hia]
   rw [e1,e2];exact this.keep (fun b hb hlt=>hS b hb hlt) (fun b hb hlt=>F1 b hlt hb.2.1 hb.2.2.2) F2
  ·have hi':i=acc.length:=by simp at hi;omega
   subst hi';have e1:(vs++ [Value.agg #[c0,c1,c2,c3,c4,c5]]).getD acc.length undef= .agg #[c0,c1,c2,c3,c4,c5]:=by rw [<-hO.vl,List.getD_eq_getElem?_getD,List.getElem?_append_right (Nat.le_refl _)];simp
   have e2:(acc++ [j]).getD acc.length j0=j:=by rw [List.getD_eq_getElem?_getD,List.getElem?_append_right (Nat.le_refl _)];simp
   rw [e1,e2];exact hJ.keep (fun b hb hlt=>hS b (hq b hb hlt) hlt) (fun b hb hlt=>F1 b hlt (hq b hb hlt).2.1 (hq b hb hlt).2.2.2) F2
end
structure MI (w:World) (n:Nat) (sn ns:List (List UInt8)) (acc:List J) (wr:World):Prop where
 bel:Below w.heap.size w wr
 bres:wr.heap[w.heap.size]?=some (.cells zero6 49 (0,0))
 set:SetIs wr (w.heap.size+2) sn
 own:∃nv iv vs,Own2 (w.heap.size+3) (w.heap.size+1) n 7 nv iv ns vs acc wr
 sz:w.heap.size+3<=wr.heap.size
theorem MI.below {w:World} {n:Nat} {sn ns:List (List UInt8)} {acc:List J} {wr w':World} (h:MI w n sn ns acc wr) {B:Nat} (hb:Below B wr w') (hB:wr.heap.size<=B):MI w n sn ns acc w':=by
 obtain ⟨nv,iv,vs,hO⟩:=h.own;have hs:=h.sz;have hs2:=hb.size;exact ⟨h.bel.trans (hb.mono (by omega)),(hb.block _ (by omega)).trans h.bres,h.set.keep (hb.block _ (by omega)),⟨nv,iv,vs,hO.below5 hb hB⟩,by omega⟩
theorem MI.begin {w:World} {n:Nat}:MI w n [] [] [] (((w.alloc (.cells zero6 49)).alloc (.cells #[.int .i64 7,.int .i64 0,.int .i64 0,.string ⟨#[]⟩,.slice none 0 0,.slice none 0 0] 49)).alloc (.map #[] 0)):=by
 have hs:(((w.alloc (.cells zero6 49)).alloc (.cells #[.int .i64 7,.int .i64 0,.int .i64 0,.string ⟨#[]⟩,.slice none 0 0,.slice none 0 0] 49)).alloc (.map #[] 0)).heap.size=w.heap.size+3:=by simp
 refine ⟨(((Below.refl _ _).alloc (Nat.le_refl _) _).alloc (by simp) _).alloc (by simp;omega) _,?_,?_,⟨_,_,_,own2_new ?_⟩,by omega⟩
 ·rw [Below.heap_alloc _ _ _ (by simp;omega),Below.heap_alloc _ _ _ (by simp)];exact heap_alloc_new w _
 ·have:=set_new ((w.alloc (.cells zero6 49)).alloc (.cells #[.int .i64 7,.int .i64 0,.int .i64 0,.string ⟨#[]⟩,.slice none 0 0,.slice none 0 0] 49));rw [show ((w.alloc (.cells zero6 49)).alloc (.cells #[.int .i64 7,.int .i64 0,.int .i64 0,.string ⟨#[]⟩,.slice none 0 0,.slice none 0 0] 49)).heap.size=w.heap.size+2 by simp] at this;exact this
 ·rw [Below.heap_alloc _ _ _ (by simp)];exact two_new w _ _
theorem MI.seen {w:World} {n:Nat} {sn sn' ns:List (List UInt8)} {acc:List J} {wr w':World} (h:MI w n sn ns acc wr) (hm:Moves wr.heap.size (w.heap.size+2) wr w') (hs:SetIs w' (w.heap.size+2) sn'):MI w n sn' ns acc w':=by
 obtain ⟨nv,iv,vs,hO⟩:=h.own;have hsz:=h.sz;have hs2:=hm.size;exact ⟨⟨hm.os.trans h.bel.os,hm.tape.trans h.bel.tape,hm.output.trans h.bel.output,by omega,fun k hk=>(hm.block k (by omega) (by omega)).trans (h.bel.block k hk)⟩,(hm.block _ (by omega) (by omega)).trans h.bres,hs,⟨nv,iv,vs,hO.chg (X:=fun k=>k=w.heap.size+2) ⟨hm.os,hm.tape,hm.output,hm.size,fun b hl hx=>hm.block b hl hx⟩ (fun b hb=>by omega) (by omega)⟩,by omega⟩
theorem MI.name {w:World} {n:Nat} {sn ns:List (List UInt8)} {acc:List J} {wq wS w2:World} {nv iv:Value} {vs:List Value} {g cp:Nat} {nm:List UInt8}
 (h:MI w n sn ns acc wq) (hO:Own2 (w.heap.size+3) (w.heap.size+1) n 7 nv iv ns vs acc wq) (hBS:Below wq.heap.size wq wS) (hgrow:wS.grownBy w2 nv.ownBlock) (hat:nv.ownBlock=some g∨wq.heap.size<=g) (ht:txtB nm)
 (hown:w2.ownsRow (w.heap.size+3) 9 1 (.slice (some ⟨g,0,none⟩) (ns.length+1) cp) (ns.length+1) (ns.map strW++ [strW nm])):
 MI w n sn (ns++ [nm]) acc (w2.setCell ⟨w.heap.size+1,4,none⟩ (.slice (some ⟨g,0,none⟩) (ns.length+1) cp)):=by
 have hsq:=h.sz;obtain ⟨F1,F2,F3,F4,F5⟩:=name_frame (bv:=w.heap.size+1) (nv:=nv) hgrow hBS (.slice (some ⟨g,0,none⟩) (ns.length+1) cp);have hnb:∀b,nv.ownBlock=some b->w.heap.size+3<=b/\b < wq.heap.size:=fun b hb=>hO.nrow.lt b hb
 refine ⟨⟨F3.trans h.bel.os,F4.trans h.bel.tape,F5.trans h.bel.output,by omega,fun b hb=> ?_⟩,?_,h.set.keep (F1 _ (by omega) (fun h=>by have:=(hnb _ h.symm).1;omega) (by omega)),⟨_,iv,vs,step_name hO (by omega) hgrow hBS hat ht hown⟩,by omega⟩
 ·rw [F1 b (by omega) (fun h=>by have:=(hnb b h.symm).1;omega) (by omega)];exact h.bel.block b hb
 ·rw [F1 _ (by omega) (fun h=>by have:=(hnb _ h.symm).1;omega) (by omega)];exact h.bres
theorem MI.item {w:World} {n:Nat} {sn ns:List (List UInt8)} {acc:List J} {wq w1 wS w2:World} {nv iv:Value} {vs:List Value} {g cp:Nat} {c0 c1 c2 c3 c4 c5:Value} {j:J}
 (h:MI w n sn ns acc wq) (hO:Own2 (w.heap.size+3) (w.heap.size+1) n 7 nv iv ns vs acc wq) (hb1:Below wq.heap.size wq w1) (hBS:Below w1.heap.size w1 wS) (hgrow:wS.grownBy w2 iv.ownBlock) (hat:iv.ownBlock=some g∨w1.heap.size<=g)
 (hown:w2.ownsRow (w.heap.size+3) 49 6 (.slice (some ⟨g,0,none⟩) (acc.length+1) cp) (acc.length+1) (vs.flatMap aggC++ [c0,c1,c2,c3,c4,c5]))
 (hJ:JAt (fun b=>wq.heap.size<=b) w1 n (.agg #[c0,c1,c2,c3,c4,c5]) j):MI w n sn ns (acc++ [j]) (w2.setCell ⟨w.heap.size+1,5,none⟩ (.slice (some ⟨g,0,none⟩) (acc.length+1) cp)):=by
 have h1:=h.below hb1 (Nat.le_refl _);have hO1:=hO.below5 hb1 (Nat.le_refl _);have hsq:=h.sz;have hs1:=hb1.size;obtain ⟨F1,F2,F3,F4,F5⟩:=item_frame5 (bv:=w.heap.size+1) (iv:=iv) hgrow hBS (.slice (some ⟨g,0,none⟩) (acc.length+1) cp);have hib:∀b,iv.ownBlock=some b->w.heap.size+3<=b/\b < wq.heap.size:=fun b hb=>hO.irow.lt b hb
 have hnb:∀b,nv.ownBlock=some b->w.heap.size+3<=b/\b < wq.heap.size:=fun b hb=>hO.nrow.lt b hb
 refine ⟨⟨F3.trans h1.bel.os,F4.trans h1.bel.tape,F5.trans h1.bel.output,by have:=h1.sz;omega,fun b hb=> ?_⟩,?_,h1.set.keep (F1 _ (by omega) (fun h=>by have:=(hib _ h.symm).1;omega) (by omega)),⟨nv,_,_,step_item5 hO1 hgrow hBS hat hown hJ (fun b hb _=>⟨by omega,fun h=>by have:=(hib b h.symm).2;omega,fun h=>by have:=(hnb b h.symm).2;omega,by omega⟩)⟩,by have:=h1.sz;omega⟩
 ·rw [F1 b (by omega) (fun h=>by have:=(hib b h.symm).1;omega) (by omega)];exact h1.bel.block b hb
 ·rw [F1 _ (by omega) (fun h=>by have:=(hib _ h.symm).1;omega) (by omega)];exact h1.bres
theorem MI.fin {w:World} {n:Nat} {sn ns:List (List UInt8)} {acc:List J} {wr:World} (h:MI w n sn ns acc wr) (hn:ns.length<=1000000) (ha:acc.length<=1000000):
 ∃a nn c a' nn' c',wr.heap[w.heap.size+1]?=some (.cells #[.int .i64 7,.int .i64 0,.int .i64 0,.string ⟨#[]⟩,.slice a nn c,.slice a' nn' c'] 49 (0,0))/\
  ∀c0 c1 c2 c3 c4 c5,CRet w (n+1) (.mk 7 0 0 [] ns acc) (.returned (.agg #[.int .i64 7,.int .i64 0,.int .i64 0,.string ⟨#[]⟩,.slice a nn c,.slice a' nn' c'])) (put6 wr w.heap.size 0 c0 c1 c2 c3 c4 c5):=by
 obtain ⟨nv,iv,vs,hO⟩:=h.own;have hj:=hO.jat ⟨by decide,by decide⟩ hn ha;have hb:=hO.blk;obtain ⟨ao,c,rfl⟩:=own_slice hO.irow;obtain ⟨an,cn,rfl⟩:=own_slice hO.nrow;refine ⟨_,_,_,_,_,_,hb,fun c0 c1 c2 c3 c4 c5=>⟨_,_,_,_,_,_,_,_,_,_,rfl,hj.keep (fun b hb _=>by omega) (fun b hb _=>put6_block _ _ 0 c0 c1 c2 c3 c4 c5 b (by omega)) (by rw [put6_size];exact Nat.le_refl _),below_put6' h.bel (Nat.le_refl _) _ _ _ _ _ _⟩⟩
end Go.Proofs.YtclghelocglnlaaGreatDoor.Js
