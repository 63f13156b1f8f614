import Derived.Test.YtclghelocglnlaaGreatDoorNRe
import Derived.Test.YtclghelocglnlaaGreatDoorNOg
set_option maxHeartbeats 0
set_option maxRecDepth 100000
set_option linter.all false
namespace Go.Proofs.YtclghelocglnlaaGreatDoor.Od
open Go.RowKit Js Lex
theorem rlay8_any (S:Nat->Prop) (a:Value) (x:O) (w:World) (h:OAt S w a x):Calls Tryz.prog 7 #[a] w (Ret (if rightO Tp.nameB x=true then .tuple #[.string ⟨(layS x).toArray⟩,.int .i64 0] else .tuple #[.string ⟨#[]⟩,.int .i64 1]) w):=
 rlay8_of S a x w h (fun w' hb=>rright8_any S a x w' (h.below hb (Nat.le_refl _)))
theorem ropen8_yes {L U:List UInt8} (h:Se.openS L=some U) (w:World) (hs:L.length<=281474976710656):Calls Tryz.prog 39 #[.string ⟨L.toArray⟩] w (Ret (.tuple #[.string ⟨U.toArray⟩,.int .i64 0]) w):=by
 have:=Se.ropen_l L w hs;rw [h] at this;exact this
theorem ropen8_no {L:List UInt8} (h:Se.openS L=none) (w:World) (hs:L.length<=281474976710656):Calls Tryz.prog 39 #[.string ⟨L.toArray⟩] w (Ret (.tuple #[.string ⟨#[]⟩,.int .i64 60]) w):=by
 have:=Se.ropen_l L w hs;rw [h] at this;exact this
theorem allT_false {nm:List UInt8} {l:List J} {k:Nat} (hk:k < l.length) (h:(partT nm (l.getD k j0)).2=false):(allT nm l).2=false:=by
 unfold allT;simp only [List.all_eq_false];refine ⟨l.getD k j0,?_,by rw [h];simp⟩;rw [List.getD_eq_getElem?_getD,List.getElem?_eq_getElem hk];exact List.getElem_mem _
theorem two_boxes8 {w w1:World} {o1 o2:Obj} (h:Below ((w.alloc o1).alloc o2).heap.size ((w.alloc o1).alloc o2) w1):w1.heap[w.heap.size]?=some o1/\w1.heap[w.heap.size+1]?=some o2/\w.heap.size+1 < w1.heap.size/\Below w.heap.size w w1:=by
 have s1:(w.alloc o1).heap.size=w.heap.size+1:=by simp
 have s2:((w.alloc o1).alloc o2).heap.size=w.heap.size+1+1:=by simp
 refine ⟨(h.block _ (by omega)).trans ((heap_alloc_old _ _ (by omega)).trans (heap_alloc_new _ _)),(h.block _ (by omega)).trans (by rw [<-s1,heap_alloc_new]),by have:=h.size;omega,(belowTwo w o1 o2).trans (h.mono (by omega))⟩
def ZO8:Array Value:=#[.int .i64 0,.string ⟨#[]⟩,.int .i64 0,.int .i64 0,.slice none 0 0,.slice none 0 0]
structure TKJ (w:World) (dd:Nat) (jc:Array Value) (j:J) (bj:Nat) (wr:World):Prop where
 bel:Below w.heap.size w wr
 lj:w.heap.size+1 < bj
 res:wr.heap[w.heap.size]?=some (.cells ZO8 25 (0,0))
 non:wr.heap[w.heap.size+1]?=some (.cells ZO8 25 (0,0))
 js:wr.heap[bj]?=some (.cells jc 49 (0,0))
 jat:JAt Any wr dd (.agg jc) j
structure TKL (w:World) (jd:Nat) (is1 is2:List J) (a1 a2:Option Addr) (bo:Nat) (cs:Array Value) (wr:World):Prop where
 bel:Below w.heap.size w wr
 lo:w.heap.size+1 < bo
 res:wr.heap[w.heap.size]?=some (.cells ZO8 25 (0,0))
 non:wr.heap[w.heap.size+1]?=some (.cells ZO8 25 (0,0))
 ob:wr.heap[bo]?=some (.cells cs 25 (0,0))
 i1:ItemsAt (fun b=>b < bo) wr jd a1 is1
 i2:ItemsAt (fun b=>b < bo) wr jd a2 is2
section
variable {w:World} {dd bj jd:Nat} {jc:Array Value} {j:J} {is1 is2:List J} {a1 a2:Option Addr} {bo:Nat} {cs:Array Value} {wr w':World}
theorem TKJ.below (h:TKJ w dd jc j bj wr) (hb:Below wr.heap.size wr w'):TKJ w dd jc j bj w':=
 ⟨h.bel.trans (hb.mono h.bel.size),h.lj,(hb.block _ (Own.block_lt h.res)).trans h.res,(hb.block _ (Own.block_lt h.non)).trans h.non,(hb.block _ (Own.block_lt h.js)).trans h.js,h.jat.below hb (Nat.le_refl _)⟩
theorem TKJ.start {w2:World} (hb:Below w.heap.size w w2) (hl:w.heap.size+1 < w2.heap.size) (r0:w2.heap[w.heap.size]?=some (.cells ZO8 25 (0,0))) (r1:w2.heap[w.heap.size+1]?=some (.cells ZO8 25 (0,0))) (hJ:JAt Any w2 dd (.agg jc) j):
 TKJ w dd jc j w2.heap.size (w2.alloc (.cells jc 49)):=
 ⟨hb.alloc hb.size _,hl,(heap_alloc_old _ _ (by omega)).trans r0,(heap_alloc_old _ _ hl).trans r1,heap_alloc_new _ _,hJ.below (belowOne _ _) (Nat.le_refl _)⟩
theorem TKL.start (h:TKJ w dd jc j bj wr) (h1:ItemsAt Any wr dd a1 is1) (h2:ItemsAt Any wr dd a2 is2):TKL w dd is1 is2 a1 a2 wr.heap.size cs (wr.alloc (.cells cs 25)):=
 have hl:=Own.block_lt h.non;have k:∀b,b < wr.heap.size->(wr.alloc (.cells cs 25)).heap[b]?=wr.heap[b]?:=fun b hb=>heap_alloc_old _ _ hb
 ⟨h.bel.alloc h.bel.size _,hl,(k _ (by omega)).trans h.res,(k _ hl).trans h.non,heap_alloc_new _ _,h1.keep (fun b _ hb=>hb) (fun b _ hb=>k b hb) (by simp),h2.keep (fun b _ hb=>hb) (fun b _ hb=>k b hb) (by simp)⟩
theorem TKL.keep (h:TKL w jd is1 is2 a1 a2 bo cs wr) (hk:∀b,b<=bo->w'.heap[b]?=wr.heap[b]?) (hb:Below w.heap.size w w') (hs:wr.heap.size<=w'.heap.size):TKL w jd is1 is2 a1 a2 bo cs w':=
 have l:=h.lo
 ⟨hb,l,(hk _ (by omega)).trans h.res,(hk _ (by omega)).trans h.non,(hk _ (Nat.le_refl _)).trans h.ob,h.i1.keep (fun _ h _=>h) (fun b hb _=>hk b (Nat.le_of_lt hb)) hs,h.i2.keep (fun _ h _=>h) (fun b hb _=>hk b (Nat.le_of_lt hb)) hs⟩
theorem TKL.below (h:TKL w jd is1 is2 a1 a2 bo cs wr) (hb:Below wr.heap.size wr w'):TKL w jd is1 is2 a1 a2 bo cs w':=
 have l:=Own.block_lt h.ob
 h.keep (fun b hle=>hb.block b (by omega)) (h.bel.trans (hb.mono h.bel.size)) hb.size
theorem TKL.grown (h:TKL w jd is1 is2 a1 a2 bo cs wr) {row:Option Nat} (hg:wr.grownBy w' row) (hr:∀k,row=some k->bo < k):TKL w jd is1 is2 a1 a2 bo cs w':=
 have l:=Own.block_lt h.ob;have lo:=h.lo
 h.keep (fun b hle=>hg.block b (by omega) (fun e=>by have:=hr b e.symm;omega)) (((Moves.of_below (x:=w.heap.size) h.bel).grown hg h.bel.size (fun k e=> .inl (by have:=hr k e;omega))).below (Nat.le_refl _)) hg.size
theorem TKL.set (h:TKL w jd is1 is2 a1 a2 bo cs wr) (i:Nat) (u:Value):TKL w jd is1 is2 a1 a2 bo (cs.setIfInBounds i u) (wr.setCell ⟨bo,i,none⟩ u):=
 have l:=h.lo;have k:∀b,b≠bo->(wr.setCell ⟨bo,i,none⟩ u).heap[b]?=wr.heap[b]?:=fun b hb=>heap_setCell_other _ _ _ _ hb
 ⟨below_set1 h.bel (by omega) u,l,(k _ (by omega)).trans h.res,(k _ (by omega)).trans h.non,set_row h.ob,h.i1.keep (fun _ h _=>h) (fun b hb _=>k b (by have hb':b < bo:=hb;omega)) (by rw [size_set];exact Nat.le_refl _),h.i2.keep (fun _ h _=>h) (fun b hb _=>k b (by have hb':b < bo:=hb;omega)) (by rw [size_set];exact Nat.le_refl _)⟩
end
theorem rtake8_any (s:List UInt8) (w:World) (hs:s.length<=281474976710656):Calls Tryz.prog 17 #[.string ⟨s.toArray⟩] w (TRet w (takeS Tp.nameB s)):=by
 cases hO:Se.openS s with
 | none=>
   have OP:=Lib.hid (fun (w':World)=>ropen8_no hO w' hs);rw [show takeS Tp.nameB s=(60,none) by unfold takeS;rw [hO]]
   go_enter Tryz.func17,Tryz.ntmps17
   go_wp2_with (go_at_call 39;(with_reducible refine (OP.out _).mono ?_);rintro e1 w1 ⟨rfl,hb1⟩;obtain ⟨X1,Y1,hl1,hB1⟩:=two_boxes8 hb1;have HX1:=Lib.hid X1;have HY1:=Lib.hid Y1;have HB1:=Lib.hid hB1;clear X1 Y1 hB1 hb1;obtain ⟨⟨z0,z1,z2,z3,z4,z5⟩,g0,g1,g2,g3,g4,g5⟩:=twelve_of HX1.out;obtain ⟨u0,u1,u2,u3,u4,u5⟩:=six_of HY1.out)
   refine bodyPost_ret (v:= .tuple #[.agg #[.int .i64 0,.string ⟨#[]⟩,.int .i64 0,.int .i64 0,.slice none 0 0,.slice none 0 0],.int .i64 60]) (by simp [results,Tryz.results17,go_sem,z0,z1,z2,z3,z4,z5]) rfl ?_;rw [put6_is];exact tret_fin (r:=(60,none)) HB1.out (Nat.le_refl _) o0_at _ _ _ _ _ _
 | some t=>
   have htl:t.length<=281474976710656:=by
    have:=Se.seal_open hO;have:=congrArg List.length this;rw [Se.sealS_len] at this
    omega
   have OP:=Lib.hid (fun (w':World)=>ropen8_yes hO w' hs);have PA:=Lib.hid (fun (w':World)=>rparse_any t w' (by unfold maxLen;omega))
   have HTS:Hid (takeS Tp.nameB s=if (parseS t).1=0 then (match takeJ Tp.nameB (parseS t).2.1 with | some x=>(0,some x) | none=>(80,none)) else ((parseS t).1,none)):=by
    show _=_;unfold takeS;rw [hO];rfl
   rw [HTS.out];unfold ParseRet at PA;generalize parseS t=P at *;obtain ⟨pe,j,pq⟩:=P;simp only at PA⊢;clear HTS hO hs htl
   by_cases hpe:pe=0
   ·subst hpe;rw [if_pos rfl,take_told];have N1:=Lib.hid (fun (wr:World) (d:Nat) (v:Value) (h:JAt Any wr d v j)=>(show Calls Tryz.prog 41 #[v,.string ⟨hdrL.toArray⟩] wr (Ret (.tuple #[.int .i64 (tellG 0 numS j hdrL).1,.bool (tellG 0 numS j hdrL).2]) wr) from by have:=rnum_any Any d v j hdrL wr h;rw [tell_with8] at this;exact this));have N2:=Lib.hid (fun (wr:World) (d:Nat) (v:Value) (h:JAt Any wr d v j)=>(show Calls Tryz.prog 42 #[v,.string ⟨serL.toArray⟩] wr (Ret (.tuple #[.string ⟨(tellG [] txtS j serL).1.toArray⟩,.bool (tellG [] txtS j serL).2]) wr) from by have:=rtext_any Any d v j serL wr h;rw [tell_with8] at this;exact this));have N3:=Lib.hid (fun (wr:World) (d:Nat) (v:Value) (h:JAt Any wr d v j)=>(show Calls Tryz.prog 41 #[v,.string ⟨ordL.toArray⟩] wr (Ret (.tuple #[.int .i64 (tellG 0 numS j ordL).1,.bool (tellG 0 numS j ordL).2]) wr) from by have:=rnum_any Any d v j ordL wr h;rw [tell_with8] at this;exact this));have N4:=Lib.hid (fun (wr:World) (d:Nat) (v:Value) (h:JAt Any wr d v j)=>(show Calls Tryz.prog 41 #[v,.string ⟨updL.toArray⟩] wr (Ret (.tuple #[.int .i64 (tellG 0 numS j updL).1,.bool (tellG 0 numS j updL).2]) wr) from by have:=rnum_any Any d v j updL wr h;rw [tell_with8] at this;exact this));have N5:=Lib.hid (fun (wr:World) (d:Nat) (v:Value) (h:JAt Any wr d v j)=>(show Calls Tryz.prog 43 #[v,.string ⟨nodL.toArray⟩] wr (RLs wr d (lsG j nodL)) from by have:=rlist_any Any d v j nodL wr h;rw [tell_with8] at this;exact this));have N6:=Lib.hid (fun (wr:World) (d:Nat) (v:Value) (h:JAt Any wr d v j)=>(show Calls Tryz.prog 43 #[v,.string ⟨edgL.toArray⟩] wr (RLs wr d (lsG j edgL)) from by have:=rlist_any Any d v j edgL wr h;rw [tell_with8] at this;exact this));have HI:=Lib.hid (fun (wr:World) (d:Nat) (v:Value) (h:JAt Any wr d v j)=>And.intro (tell_i64 j hdrL) (And.intro (tell_i64 j ordL) (And.intro (tell_i64 j updL) (tell_txt h serL))));unfold RLs at N5 N6;unfold toldT;simp only;generalize tellG (0:Int) numS j hdrL=R1 at *;generalize tellG ([]:List UInt8) txtS j serL=R2 at *;generalize tellG (0:Int) numS j ordL=R3 at *;generalize tellG (0:Int) numS j updL=R4 at *;generalize lsG j nodL=R5 at *;generalize lsG j edgL=R6 at *;obtain ⟨r1,s1⟩:=R1;obtain ⟨r2,s2⟩:=R2;obtain ⟨r3,s3⟩:=R3;obtain ⟨r4,s4⟩:=R4;obtain ⟨is1,s5⟩:=R5;obtain ⟨is2,s6⟩:=R6;unfold hdrL at N1;unfold serL at N2;unfold ordL at N3;unfold updL at N4;unfold nodL at N5;unfold edgL at N6;simp only at N1 N2 N3 N4 N5 N6 HI⊢;obtain ⟨RR,hRR⟩:∃r,rightO Tp.nameB ⟨r1,r2,r3,r4,(allT nidL is1).1,(allT eidL is2).1⟩=r:=⟨_,rfl⟩;have RI:=Lib.hid (fun (w':World) (v:Value) (h:OAt Any w' v ⟨r1,r2,r3,r4,(allT nidL is1).1,(allT eidL is2).1⟩)=>rright8_any Any v _ w' h);rw [hRR] at RI⊢;clear hRR;obtain ⟨n,HN⟩:∃n,Hid (is1.length=n):=⟨_,rfl⟩;obtain ⟨m,HM⟩:∃m,Hid (is2.length=m):=⟨_,rfl⟩;rw [HN.out] at N5;rw [HM.out] at N6;obtain ⟨Q,HQ⟩:∃Q,Hid (TRet w (match (if (s1 && (s2 && (s3 && (s4 && (s5 && (allT nidL is1).2 && (s6 && (allT eidL is2).2))))))=true/\RR=true then some (⟨r1,r2,r3,r4,(allT nidL is1).1,(allT eidL is2).1⟩:O) else none) with | some x=>((0:Int),some x) | none=>(80,none))=Q):=⟨_,rfl⟩
    first
     | rw [HQ.out]
     | (refine (?_:Calls _ _ _ _ Q) |> fun h=>by rw [<-HQ.out] at h;exact h)
    go_enter Tryz.func17,Tryz.ntmps17
    go_upto_region 8 with (first
     | (go_at_call 39;(with_reducible refine (OP.out _).mono ?_);rintro e1 w1 ⟨rfl,hb1⟩;obtain ⟨X1,Y1,hl1,hB1⟩:=two_boxes8 hb1;have HX1:=Lib.hid X1;have HY1:=Lib.hid Y1;have HB1:=Lib.hid hB1;clear X1 Y1 hB1 hb1)
     | (go_at_call 40;(with_reducible refine (PA.out _).mono ?_);rintro e2 w2 ⟨k2,m2,e2',t2,an2,nn2,cn2,ai2,ni2,ci2,rfl,⟨dd,hJ2⟩,hb2⟩;have T0:=Lib.hid (TKJ.start (HB1.out.trans (hb2.mono HB1.out.size)) (Nat.lt_of_lt_of_le hl1 hb2.size) ((hb2.block _ (by omega)).trans HX1.out) ((hb2.block _ (by omega)).trans HY1.out) hJ2.any);clear hJ2 hb2))
    generalize w2.alloc (.cells #[.int .i64 k2,.int .i64 m2,.int .i64 e2',.string t2,.slice an2 nn2 cn2,.slice ai2 ni2 ci2] 49)=wr0 at *;clear HX1 HY1 HB1 hl1 PA OP;generalize w2.heap.size=bj at *;obtain ⟨jx0,jx1,jx2,jx3,jx4,jx5⟩:=six_of T0.out.js
    go_upto_region 14 with (first
     | (go_at_call 41;(with_reducible refine (N1.out _ _ _ T0.out.jat).mono ?_);rintro eq0 wr1 ⟨rfl,hbq⟩;have T1:=Lib.hid (T0.out.below hbq);obtain ⟨jx0,jx1,jx2,jx3,jx4,jx5⟩:=six_of T1.out.js;clear hbq)
     | (go_at_call 42;(with_reducible refine (N2.out _ _ _ T1.out.jat).mono ?_);rintro eq1 wr2 ⟨rfl,hbq⟩;have T2:=Lib.hid (T1.out.below hbq);obtain ⟨jx0,jx1,jx2,jx3,jx4,jx5⟩:=six_of T2.out.js;clear hbq)
     | (go_at_call 41;(with_reducible refine (N3.out _ _ _ T2.out.jat).mono ?_);rintro eq2 wr3 ⟨rfl,hbq⟩;have T3:=Lib.hid (T2.out.below hbq);obtain ⟨jx0,jx1,jx2,jx3,jx4,jx5⟩:=six_of T3.out.js;clear hbq)
     | (go_at_call 41;(with_reducible refine (N4.out _ _ _ T3.out.jat).mono ?_);rintro eq3 wr4 ⟨rfl,hbq⟩;have T4:=Lib.hid (T3.out.below hbq);obtain ⟨jx0,jx1,jx2,jx3,jx4,jx5⟩:=six_of T4.out.js;clear hbq)
     | (go_at_call 43;(with_reducible refine (N5.out _ _ _ T4.out.jat).mono ?_);rintro eq4 wr5 ⟨a1,c1,rfl,hc1,hn1,hI1,hbq⟩;have T5:=Lib.hid (T4.out.below hbq);have HI1:=Lib.hid hI1;have HBQ1:=Lib.hid hbq;obtain ⟨jx0,jx1,jx2,jx3,jx4,jx5⟩:=six_of T5.out.js;clear hbq hI1)
     | (go_at_call 43;(with_reducible refine (N6.out _ _ _ T5.out.jat).mono ?_);rintro eq5 wr6 ⟨a2,c2,rfl,hc2,hn2,hI2,hbq⟩;have T6:=Lib.hid (T5.out.below hbq);have HI2:=Lib.hid hI2;have HBQ2:=Lib.hid hbq;obtain ⟨jx0,jx1,jx2,jx3,jx4,jx5⟩:=six_of T6.out.js;clear hbq hI2))
    have HIT1:=Lib.hid (HI1.out.below HBQ2.out);have HIB:=HI.out _ _ _ T6.out.jat;clear HI HI1 HBQ1 HBQ2 jx0 jx1 jx2 jx3 jx4 jx5 T0 T1 T2 T3 T4 T5 N1 N2 N3 N4 N5 N6;obtain ⟨⟨z0,z1,z2,z3,z4,z5⟩,g0,g1,g2,g3,g4,g5⟩:=twelve_of T6.out.res;obtain ⟨u0,u1,u2,u3,u4,u5⟩:=six_of T6.out.non
    cases s1 with
    | false=>
      go_wp2_with fail
      refine bodyPost_ret (v:= .tuple #[.agg #[.int .i64 0,.string ⟨#[]⟩,.int .i64 0,.int .i64 0,.slice none 0 0,.slice none 0 0],.int .i64 80]) (by simp [results,Tryz.results17,go_sem,z0,z1,z2,z3,z4,z5]) rfl ?_;rw [put6_is];rw [<-HQ.out,if_neg (by simp)];exact tret_fin (r:=(80,none)) T6.out.bel (Nat.le_refl _) o0_at _ _ _ _ _ _
    | true=>
      cases s2 with
      | false=>
        go_wp2_with fail
        refine bodyPost_ret (v:= .tuple #[.agg #[.int .i64 0,.string ⟨#[]⟩,.int .i64 0,.int .i64 0,.slice none 0 0,.slice none 0 0],.int .i64 80]) (by simp [results,Tryz.results17,go_sem,z0,z1,z2,z3,z4,z5]) rfl ?_;rw [put6_is];rw [<-HQ.out,if_neg (by simp)];exact tret_fin (r:=(80,none)) T6.out.bel (Nat.le_refl _) o0_at _ _ _ _ _ _
      | true=>
        cases s3 with
        | false=>
          go_wp2_with fail
          refine bodyPost_ret (v:= .tuple #[.agg #[.int .i64 0,.string ⟨#[]⟩,.int .i64 0,.int .i64 0,.slice none 0 0,.slice none 0 0],.int .i64 80]) (by simp [results,Tryz.results17,go_sem,z0,z1,z2,z3,z4,z5]) rfl ?_;rw [put6_is];rw [<-HQ.out,if_neg (by simp)];exact tret_fin (r:=(80,none)) T6.out.bel (Nat.le_refl _) o0_at _ _ _ _ _ _
        | true=>
          cases s4 with
          | false=>
            go_wp2_with fail
            refine bodyPost_ret (v:= .tuple #[.agg #[.int .i64 0,.string ⟨#[]⟩,.int .i64 0,.int .i64 0,.slice none 0 0,.slice none 0 0],.int .i64 80]) (by simp [results,Tryz.results17,go_sem,z0,z1,z2,z3,z4,z5]) rfl ?_;rw [put6_is];rw [<-HQ.out,if_neg (by simp)];exact tret_fin (r:=(80,none)) T6.out.bel (Nat.le_refl _) o0_at _ _ _ _ _ _
          | true=>
            cases s5 with
            | false=>
              go_wp2_with fail
              refine bodyPost_ret (v:= .tuple #[.agg #[.int .i64 0,.string ⟨#[]⟩,.int .i64 0,.int .i64 0,.slice none 0 0,.slice none 0 0],.int .i64 80]) (by simp [results,Tryz.results17,go_sem,z0,z1,z2,z3,z4,z5]) rfl ?_;rw [put6_is];rw [<-HQ.out,if_neg (by simp)];exact tret_fin (r:=(80,none)) T6.out.bel (Nat.le_refl _) o0_at _ _ _ _ _ _
            | true=>
              cases s6 with
              | false=>
                go_wp2_with fail
                refine bodyPost_ret (v:= .tuple #[.agg #[.int .i64 0,.string ⟨#[]⟩,.int .i64 0,.int .i64 0,.slice none 0 0,.slice none 0 0],.int .i64 80]) (by simp [results,Tryz.results17,go_sem,z0,z1,z2,z3,z4,z5]) rfl ?_;rw [put6_is];rw [<-HQ.out,if_neg (by simp)];exact tret_fin (r:=(80,none)) T6.out.bel (Nat.le_refl _) o0_at _ _ _ _ _ _
              | true=>
                clear z0 z1 z2 z3 z4 z5 g0 g1 g2 g3 g4 g5 u0 u1 u2 u3 u4 u5
                go_upto_region 17 with fail
                have L0:=Lib.hid (TKL.start (cs:=#[.int .i64 r1,.string ⟨r2.toArray⟩,.int .i64 r3,.int .i64 r4,.slice none 0 0,.slice none 0 0]) T6.out HIT1.out HI2.out);generalize wr6.alloc (.cells #[.int .i64 r1,.string ⟨r2.toArray⟩,.int .i64 r3,.int .i64 r4,.slice none 0 0,.slice none 0 0] 25)=wr7 at *;generalize wr6.heap.size=bo at *;clear T6 HIT1 HI2
                go_wp2_with fail
                go_loopw [22] (fun i wr=>∃(q:Nat) (aN:Option Addr) (cN:Nat),q<=n/\i= .int .i64 (q:Int)/\Hid (TKL w dd is1 is2 a1 a2 bo #[.int .i64 r1,.string ⟨r2.toArray⟩,.int .i64 r3,.int .i64 r4,.slice aN q cN,.slice none 0 0] wr)/\Hid (wr.ownsRow (bo+1) 41 3 (.slice aN q cN) q (cellsS (allT nidL (is1.take q)).1))/\Hid ((allT nidL (is1.take q)).2=true)) (fun i _=>n - (intOf i).toNat)
                case atStart=>exact ⟨0,none,0,Nat.zero_le _,rfl,L0,by exact World.ownsRow_nil _ _ _ _,by show _=_;simp [allT]⟩
                case round=>
                 obtain ⟨q,aN,cN,hq,rfl,HT,HROW,HG⟩:=hrel;have HTB:=HT.out.bel;have hbo:=Own.block_lt HT.out.ob
                 by_cases hlt:q < n
                 ·obtain ⟨b,off,hai,hSb,hbl,hel⟩:=HT.out.i1 (by rw [HN.out];omega);subst hai;obtain ⟨u,hu1,hu2⟩:=hel q (by rw [HN.out];exact hlt);obtain ⟨k5,m5,e5,t5,an5,nn5,cn5,ai5,ni5,ci5,rfl⟩:=jAt_form hu2;obtain ⟨x0,x1,x2,x3,x4,x5⟩:=hu1.six;have RD:=Lib.hid (rread8_any _ dd _ (is1.getD q j0) nidL wr hu2);have HAL:=Lib.hid (allT_take (nm:=nidL) (l:=is1) (k:=q) (by rw [HN.out];exact hlt));have HFF:=Lib.hid (fun h=>allT_false (nm:=nidL) (l:=is1) (k:=q) (by rw [HN.out];exact hlt) h);obtain ⟨L,HL⟩:∃L,Hid ((allT nidL (is1.take q)).1=L):=⟨_,rfl⟩;have HLQ:Hid (L.length=q):=(by show _=_;rw [<-HL.out];exact allT_len (by rw [HN.out];exact hq));rw [HL.out] at HROW;rw [HL.out,HG.out] at HAL;generalize partT nidL (is1.getD q j0)=P at *;unfold nidL at RD;obtain ⟨⟨pi,pq,pr⟩,pb⟩:=P;simp only at RD HAL HFF;have i1:(q:Int) < (n:Int):=(by omega);have HLN:L.length+1<=1599289640355:=(by rw [HLQ.out];omega);have hrl:=Lib.hid (fun (k:Nat) (e:(Value.slice aN q cN).ownBlock=some k)=>World.ownsRow.lt HROW.out k e);clear hel hu1 hu2
                  cases pb with
                  | false=>
                    have hF:=HFF.out rfl
                    go_wp2_with (go_at_call 44;(with_reducible refine RD.out.mono ?_);rintro eqr w8 ⟨rfl,hb8⟩;have HT8:=Lib.hid (HT.out.below hb8);obtain ⟨⟨z0,z1,z2,z3,z4,z5⟩,g0,g1,g2,g3,g4,g5⟩:=twelve_of HT8.out.res;obtain ⟨u0,u1,u2,u3,u4,u5⟩:=six_of HT8.out.non)
                    refine bodyPost_ret (v:= .tuple #[.agg #[.int .i64 0,.string ⟨#[]⟩,.int .i64 0,.int .i64 0,.slice none 0 0,.slice none 0 0],.int .i64 80]) (by simp [results,Tryz.results17,go_sem,z0,z1,z2,z3,z4,z5]) rfl ?_;rw [put6_is];rw [<-HQ.out,hF,if_neg (by simp)];exact tret_fin (r:=(80,none)) HT8.out.bel (Nat.le_refl _) o0_at _ _ _ _ _ _
                  | true=>
                    go_wp2_with (first
                     | (go_at_call 44;(with_reducible refine RD.out.mono ?_);rintro eqr w8 ⟨rfl,hb8⟩;have HT8:=Lib.hid (HT.out.below hb8);have HB8:=Lib.hid hb8;have hs8:=hb8.size;have HR8:=Lib.hid (row_keep HROW.out (fun g _ hl=>hb8.block g hl));obtain ⟨⟨z0,z1,z2,z3,z4,z5⟩,g0,g1,g2,g3,g4,g5⟩:=twelve_of HT8.out.ob;clear hb8)
                     | (refine append_st rfl _ _ stop_info rfl Tryz.underlying22 rfl ((bo+1)) (.slice aN q cN) L rfl (by rw [HLQ.out];exact HR8.out.alloc _) _ _ rfl ⟨pi,pq,pr⟩ (heap_alloc_new _ _) HLN (by simp <;> omega) ?_;intro a' c' w9 hown9 hgrow9;rw [HLQ.out] at hown9⊢;have HO9:=Lib.hid hown9;have HG9:=Lib.hid hgrow9;have hs9:=hgrow9.size;have HT9:=Lib.hid ((HT8.out.below (belowOne w8 _)).grown hgrow9 (fun k e=>by have:=(hrl.out k e).1;omega));clear z0 z1 z2 z3 z4 z5 g0 g1 g2 g3 g4 g5;obtain ⟨⟨z0,z1,z2,z3,z4,z5⟩,g0,g1,g2,g3,g4,g5⟩:=twelve_of HT9.out.ob;clear hown9 hgrow9))
                    go_roundw
                    case rel=>
                     refine ⟨q+1,a',c',by omega,by go_num,(by exact HT9.out.set 4 _),?_,HAL.out.2⟩;rw [HAL.out.1];exact row_keep HO9.out (fun g e hl=>heap_setCell_other _ _ _ _ (by have:=(World.ownsRow.lt HO9.out g e).1;show g≠bo;omega))
                    case measure=>simp [intOf];omega
                 ·obtain rfl:n=q:=by omega
                  have HE:Hid (is1.take n=is1):=List.take_of_length_le (by rw [HN.out];exact Nat.le_refl _);rw [HE.out] at HROW HG;generalize wr=wA at *
                  have HS1:Hid (StsAt (fun b=>bo < b/\b < wA.heap.size) wA (.slice aN n cN) (allT nidL is1).1):=by
                   have hl:(allT nidL is1).1.length=n:=(by unfold allT;rw [List.length_map];exact HN.out);have:=sts_own (l:=(allT nidL is1).1) (by rw [hl];exact HROW.out) (by rw [hl];omega) (fun x hx=>allT_good x hx);exact this.keep (fun b hb hl=>⟨by have hb':bo+1<=b:=hb;omega,hl⟩) (fun _ _ _=>rfl) (Nat.le_refl _)
                  have HG1:=Lib.hid HG.out;clear HROW HG L0
                  go_wp2_with fail
                  go_loopw [27] (fun i wr=>∃(q:Nat) (aq:Option Addr) (cq:Nat),q<=m/\i= .int .i64 (q:Int)/\Hid (TKL w dd is1 is2 a1 a2 bo #[.int .i64 r1,.string ⟨r2.toArray⟩,.int .i64 r3,.int .i64 r4,.slice aN n cN,.slice aq q cq] wr)/\Hid (wr.ownsRow wA.heap.size 43 3 (.slice aq q cq) q (cellsS (allT eidL (is2.take q)).1))/\Hid ((allT eidL (is2.take q)).2=true)/\wA.heap.size<=wr.heap.size/\Hid (StsAt (fun b=>bo < b/\b < wA.heap.size) wr (.slice aN n cN) (allT nidL is1).1)) (fun i _=>m - (intOf i).toNat)
                  case atStart=>exact ⟨0,none,0,Nat.zero_le _,rfl,HT,by exact World.ownsRow_nil _ _ _ _,by show _=_;simp [allT],Nat.le_refl _,HS1⟩
                  case round=>
                   obtain ⟨q,aq,cq,hq,rfl,HT,HROW,HG,hB2,HS2⟩:=hrel;have HTB:=HT.out.bel;have hbo:=Own.block_lt HT.out.ob
                   by_cases hlt:q < m
                   ·obtain ⟨b,off,hai,hSb,hbl,hel⟩:=HT.out.i2 (by rw [HM.out];omega);subst hai;obtain ⟨u,hu1,hu2⟩:=hel q (by rw [HM.out];exact hlt);obtain ⟨k5,m5,e5,t5,an5,nn5,cn5,ai5,ni5,ci5,rfl⟩:=jAt_form hu2;obtain ⟨x0,x1,x2,x3,x4,x5⟩:=hu1.six;have RD:=Lib.hid (rread8_any _ dd _ (is2.getD q j0) eidL wr hu2);have HAL:=Lib.hid (allT_take (nm:=eidL) (l:=is2) (k:=q) (by rw [HM.out];exact hlt));have HFF:=Lib.hid (fun h=>allT_false (nm:=eidL) (l:=is2) (k:=q) (by rw [HM.out];exact hlt) h);obtain ⟨L,HL⟩:∃L,Hid ((allT eidL (is2.take q)).1=L):=⟨_,rfl⟩;have HLQ:Hid (L.length=q):=(by show _=_;rw [<-HL.out];exact allT_len (by rw [HM.out];exact hq));rw [HL.out] at HROW;rw [HL.out,HG.out] at HAL;generalize partT eidL (is2.getD q j0)=P at *;unfold eidL at RD;obtain ⟨⟨pi,pq,pr⟩,pb⟩:=P;simp only at RD HAL HFF;have i1:(q:Int) < (m:Int):=(by omega);have HLN:L.length+1<=1599289640355:=(by rw [HLQ.out];omega);have hrl:=Lib.hid (fun (k:Nat) (e:(Value.slice aq q cq).ownBlock=some k)=>World.ownsRow.lt HROW.out k e);clear hel hu1 hu2
                    cases pb with
                    | false=>
                      have hF:=HFF.out rfl
                      go_wp2_with (go_at_call 44;(with_reducible refine RD.out.mono ?_);rintro eqr w8 ⟨rfl,hb8⟩;have HT8:=Lib.hid (HT.out.below hb8);obtain ⟨⟨z0,z1,z2,z3,z4,z5⟩,g0,g1,g2,g3,g4,g5⟩:=twelve_of HT8.out.res;obtain ⟨u0,u1,u2,u3,u4,u5⟩:=six_of HT8.out.non)
                      refine bodyPost_ret (v:= .tuple #[.agg #[.int .i64 0,.string ⟨#[]⟩,.int .i64 0,.int .i64 0,.slice none 0 0,.slice none 0 0],.int .i64 80]) (by simp [results,Tryz.results17,go_sem,z0,z1,z2,z3,z4,z5]) rfl ?_;rw [put6_is];rw [<-HQ.out,hF,if_neg (by simp)];exact tret_fin (r:=(80,none)) HT8.out.bel (Nat.le_refl _) o0_at _ _ _ _ _ _
                    | true=>
                      go_wp2_with (first
                       | (go_at_call 44;(with_reducible refine RD.out.mono ?_);rintro eqr w8 ⟨rfl,hb8⟩;have HT8:=Lib.hid (HT.out.below hb8);have HB8:=Lib.hid hb8;have hs8:=hb8.size;have HR8:=Lib.hid (row_keep HROW.out (fun g _ hl=>hb8.block g hl));obtain ⟨⟨z0,z1,z2,z3,z4,z5⟩,g0,g1,g2,g3,g4,g5⟩:=twelve_of HT8.out.ob;clear hb8)
                       | (refine append_st rfl _ _ way_info rfl Tryz.underlying23 rfl (wA.heap.size) (.slice aq q cq) L rfl (by rw [HLQ.out];exact HR8.out.alloc _) _ _ rfl ⟨pi,pq,pr⟩ (heap_alloc_new _ _) HLN (by simp <;> omega) ?_;intro a' c' w9 hown9 hgrow9;rw [HLQ.out] at hown9⊢;have HO9:=Lib.hid hown9;have HG9:=Lib.hid hgrow9;have hs9:=hgrow9.size;have HT9:=Lib.hid ((HT8.out.below (belowOne w8 _)).grown hgrow9 (fun k e=>by have:=(hrl.out k e).1;omega));clear z0 z1 z2 z3 z4 z5 g0 g1 g2 g3 g4 g5;obtain ⟨⟨z0,z1,z2,z3,z4,z5⟩,g0,g1,g2,g3,g4,g5⟩:=twelve_of HT9.out.ob;clear hown9 hgrow9))
                      go_roundw
                      case rel=>
                       refine ⟨q+1,a',c',by omega,by go_num,(by exact HT9.out.set 5 _),?_,HAL.out.2,by rw [size_set];simp at hs9;omega,HS2.out.keep (fun b hb _=>hb) (fun b hb hl=>by have hb':bo < b/\b < wA.heap.size:=hb;exact (heap_setCell_other _ _ _ _ (by show b≠bo;omega)).trans ((HG9.out.block b (by simp;omega) (fun e=>by have:=(hrl.out b e.symm).1;omega)).trans ((heap_alloc_old _ _ (by omega)).trans (HB8.out.block b hl)))) (by rw [size_set];simp at hs9;omega)⟩;rw [HAL.out.1];exact row_keep HO9.out (fun g e hl=>heap_setCell_other _ _ _ _ (by have:=(World.ownsRow.lt HO9.out g e).1;show g≠bo;omega))
                      case measure=>simp [intOf];omega
                   ·obtain rfl:m=q:=by omega
                    have HE:Hid (is2.take m=is2):=List.take_of_length_le (by rw [HM.out];exact Nat.le_refl _);rw [HE.out] at HROW HG
                    have HS5:Hid (StsAt (fun b=>bo < b) wr (.slice aq m cq) (allT eidL is2).1):=by
                     have hl:(allT eidL is2).1.length=m:=(by unfold allT;rw [List.length_map];exact HM.out);have:=sts_own (l:=(allT eidL is2).1) (by rw [hl];exact HROW.out) (by rw [hl];omega) (fun x hx=>allT_good x hx);exact this.keep (fun b hb hl=>by have hb':wA.heap.size<=b:=hb;show bo < b;omega) (fun _ _ _=>rfl) (Nat.le_refl _)
                    obtain ⟨i1,i2,i3,i4⟩:=HIB;have HO:=Lib.hid (show OAt (fun b=>bo < b) wr (.agg #[.int .i64 r1,.string ⟨r2.toArray⟩,.int .i64 r3,.int .i64 r4,.slice aN n cN,.slice aq m cq]) (⟨r1,r2,r3,r4,(allT nidL is1).1,(allT eidL is2).1⟩:O) from ⟨_,_,rfl,i1,by unfold txtB at i4;simp only;omega,i2,i3,HS2.out.keep (fun b hb _=>hb.1) (fun _ _ _=>rfl) (Nat.le_refl _),HS5.out⟩);have HG2:=Lib.hid HG.out;clear HROW HG HS5 HS2;obtain ⟨⟨z0,z1,z2,z3,z4,z5⟩,g0,g1,g2,g3,g4,g5⟩:=twelve_of HT.out.ob
                    go_upto_region 32 with (go_at_call 9;(with_reducible refine (RI.out _ _ HO.out.any).mono ?_);rintro eqr w8 ⟨rfl,hb8⟩;have HT8:=Lib.hid (HT.out.below hb8);have HO8:=Lib.hid (HO.out.below hb8 (Nat.le_refl _));clear hb8)
                    clear z0 z1 z2 z3 z4 z5 g0 g1 g2 g3 g4 g5;obtain ⟨⟨z0,z1,z2,z3,z4,z5⟩,g0,g1,g2,g3,g4,g5⟩:=twelve_of HT8.out.res;obtain ⟨u0,u1,u2,u3,u4,u5⟩:=six_of HT8.out.non;obtain ⟨y0,y1,y2,y3,y4,y5⟩:=six_of HT8.out.ob
                    cases RR with
                    | false=>
                      go_wp2_with fail
                      refine bodyPost_ret (v:= .tuple #[.agg #[.int .i64 0,.string ⟨#[]⟩,.int .i64 0,.int .i64 0,.slice none 0 0,.slice none 0 0],.int .i64 80]) (by simp [results,Tryz.results17,go_sem,z0,z1,z2,z3,z4,z5]) rfl ?_;rw [put6_is];rw [<-HQ.out,if_neg (by simp)];exact tret_fin (r:=(80,none)) HT8.out.bel (Nat.le_refl _) o0_at _ _ _ _ _ _
                    | true=>
                      go_wp2_with fail
                      refine bodyPost_ret (v:= .tuple #[.agg #[.int .i64 r1,.string ⟨r2.toArray⟩,.int .i64 r3,.int .i64 r4,.slice aN n cN,.slice aq m cq],.int .i64 0]) (by simp [results,Tryz.results17,go_sem,z0,z1,z2,z3,z4,z5]) rfl ?_;rw [put6_is];rw [<-HQ.out,HG1.out,HG2.out,if_pos (by simp)];have hlo:=HT8.out.lo;exact tret_fin (r:=(0,some _)) HT8.out.bel (Nat.le_refl _) (HO8.out.keep (fun b hb _=>by have hb':bo < b:=hb;omega) (fun _ _ _=>rfl) (Nat.le_refl _)) _ _ _ _ _ _
   ·rw [if_neg hpe];have hne:(pe !=0)=true:=by simpa using hpe
    go_enter Tryz.func17,Tryz.ntmps17
    go_wp2_with (first
     | (go_at_call 39;(with_reducible refine (OP.out _).mono ?_);rintro e1 w1 ⟨rfl,hb1⟩;obtain ⟨X1,Y1,hl1,hB1⟩:=two_boxes8 hb1;have HX1:=Lib.hid X1;have HY1:=Lib.hid Y1;have HB1:=Lib.hid hB1;clear X1 Y1 hB1 hb1)
     | (go_at_call 40;(with_reducible refine (PA.out _).mono ?_);rintro e2 w2 ⟨k2,m2,e2',t2,an2,nn2,cn2,ai2,ni2,ci2,rfl,⟨dd,hJ2⟩,hb2⟩;have T0:=Lib.hid (TKJ.start (HB1.out.trans (hb2.mono HB1.out.size)) (Nat.lt_of_lt_of_le hl1 hb2.size) ((hb2.block _ (by omega)).trans HX1.out) ((hb2.block _ (by omega)).trans HY1.out) hJ2.any);clear hJ2 hb2;obtain ⟨⟨z0,z1,z2,z3,z4,z5⟩,g0,g1,g2,g3,g4,g5⟩:=twelve_of T0.out.res;obtain ⟨u0,u1,u2,u3,u4,u5⟩:=six_of T0.out.non))
    refine bodyPost_ret (v:= .tuple #[.agg #[.int .i64 0,.string ⟨#[]⟩,.int .i64 0,.int .i64 0,.slice none 0 0,.slice none 0 0],.int .i64 pe]) (by simp [results,Tryz.results17,go_sem,z0,z1,z2,z3,z4,z5]) rfl ?_;rw [put6_is];exact tret_fin (r:=(pe,none)) T0.out.bel (Nat.le_refl _) o0_at _ _ _ _ _ _
end Go.Proofs.YtclghelocglnlaaGreatDoor.Od
namespace Go.Proofs.YtclghelocglnlaaGreatDoor.Od
open Go.RowKit Js
theorem wp_region_grow_all {P:Program} {id:Nat} {ops:Array Oper} {Q:Exit->Act->World->Prop} {a:Act} {w:World} (hm:P.follows .mixedOrders=true) (mk:List Value->Act) (PS:List (Value->World->Prop)) (zs0:List Value)
 (hN:ops.size=PS.length) (hz0:zs0.length=PS.length) (ha:a=mk zs0) (hst:∀p∈PS,Stable p)
 (hac':acB ops=true)
 (hstep:∀i,i < PS.length->StepOk P ops Q mk w PS i)
 (hfin:∀zs wz,zs.length=PS.length->Below w.heap.size w wz->(∀(j:Nat) (p:Value->World->Prop) (z:Value),PS[j]?=some p->zs[j]?=some z->p z wz)->Q .normal (mk zs) wz):
 (Code.region id ops true).wp P Q a w:=by
 have hac:=acB_of hac';refine wp_region_inv hm (fun l a wz=>∃zs,zs.length=PS.length/\a=mk zs/\FF w PS zs l wz) ?_ ?_ ?_
 ·refine ⟨zs0,hz0,ha,(Below.refl _ _).drew,fun j p z _ _ hL=> ?_⟩;rw [Array.getD_eq_getD_getElem?,Array.getElem?_replicate] at hL
  split at hL <;> cases hL
 ·intro l a wz i hl hi hI;obtain ⟨hli,o,ho,hpre⟩:=ready_mem hi;have hi':i < ops.size:=(Array.getElem?_eq_some_iff.1 ho).1;obtain ⟨zs,hzl,rfl,hF⟩:=hI;refine wpOp_mono (fun a' w' h=> ?_) (hstep i (by omega) zs l wz o hzl hF ho hpre);obtain ⟨v,rfl,hb,hv⟩:=h;exact ⟨zs.set i v,by simpa using hzl,rfl,hF.step hst (by omega) hb hv⟩
 ·intro l a wz hl hr hI;obtain ⟨zs,hzl,rfl,hF⟩:=hI;have:=all_run hac hl hr;refine hfin zs wz hzl hF.bel (fun j p z hj hz=>hF.fact j p z hj hz (this j ?_));have:=(List.getElem?_eq_some_iff.1 hj).1
  omega
end Go.Proofs.YtclghelocglnlaaGreatDoor.Od
namespace Go.Proofs.YtclghelocglnlaaGreatDoor.Od
open Go.RowKit Js Lex
theorem wrap_in8 {z:Int} (h0: -9223372036854775808<=z) (h1:z<=9223372036854775807):IntKind.i64.wrap z=z:=by
 simp [IntKind.wrap,IntKind.bits,IntKind.signed] <;> omega
theorem below_next_t {w a b:World} (h:Below w.heap.size w a) (k:Below a.heap.size a b):Below w.heap.size w b:=h.trans (k.mono h.size)
theorem below_box_t {w a:World} (h:Below w.heap.size w a) (o:Obj):Below w.heap.size w (a.alloc o):=h.alloc h.size o
theorem same_self (x:O):sameO x x=true:=sameO_iff.2 rfl
def SevV (A B C D E F G:ByteArray) (z:Value) (w:World):Prop:=∃b,z= .slice (some ⟨b,0,none⟩) 7 7/\w.heap[b]?=some (.cells #[.string A,.string B,.string C,.string D,.string E,.string F,.string G] 9 (0,0))
theorem SevV.stable (A B C D E F G:ByteArray):Stable (SevV A B C D E F G):=fun z w w' ⟨b,hz,hb⟩ hB=>⟨b,hz,(hB.block _ (Own.block_lt hb)).trans hb⟩
theorem lay_form8 (x:O):∃(T:ByteArray) (e:Int),(if rightO Tp.nameB x=true then Value.tuple #[.string ⟨(layS x).toArray⟩,.int .i64 0] else .tuple #[.string ⟨#[]⟩,.int .i64 1])= .tuple #[.string T,.int .i64 e]:=by
 split
 ·exact ⟨_,_,rfl⟩
 ·exact ⟨_,_,rfl⟩
theorem tells_walk (va:Value) (x:O) (vb:Value) (x':O) (s:List UInt8) (base at0:Int) (more:List UInt8) (w:World) (hT:Dec.Tab w) (h:OAt Any w va x) (h':OAt Any w vb x') (hs:s.length<=140737488351232) (b0: -9223372036854775808<=base) (b1:base<=9223372036854775807) (a0: -9223372036854775808<=at0) (a1:at0<=9223372036854775807) (hm:more.length<=140737488351232):
 Calls Tryz.prog 3 #[va,vb,.string ⟨s.toArray⟩,.int .i64 base,.int .i64 at0,.string ⟨more.toArray⟩] w (Ret (.bool true) w):=by
 obtain ⟨p0,q0,e0,f0,rfl,-⟩:=h.open_;obtain ⟨p1,q1,e1,f1,rfl,-⟩:=h'.open_;have A1:=Lib.hid (fun (w':World) (hb:Below w.heap.size w w')=>awake8_any w' (hT.below hb));have hr:=fit_rightO Tp.fit_name x base;obtain ⟨y,hy⟩:∃y,fitO Tp.fitL x base=y:=⟨_,rfl⟩;have F1:=Lib.hid (fun (w':World) (b:Nat) (a:Option Addr) (c:Nat) (e:Option Addr) (f:Nat) (hx:BX8 x b a c e f w')=>fit8 hy hx b0 b1);rw [hy] at hr;have LA:=Lib.hid (fun (w':World) (v:Value) (hb:Below w.heap.size w w') (hx:OAt Any w' v x)=>Lay_any Any v x w' (hT.below hb) hx);have RA:=Lib.hid (fun (w':World) (v:Value) (hx:OAt Any w' v x)=>rlay8_any Any v x w' hx);obtain ⟨TA,ea,hTA⟩:=lay_form8 x;rw [hTA] at LA RA;clear hTA;have L1:=Lib.hid (fun (w':World) (v:Value) (hb:Below w.heap.size w w') (hx:OAt Any w' v y)=>Lay_any Any v y w' (hT.below hb) hx);have RL:=Lib.hid (fun (w':World) (v:Value) (hx:OAt Any w' v y)=>rlay8_any Any v y w' hx);rw [if_pos hr] at L1 RL;have R1:=Lib.hid (fun (w':World) (v:Value) (hx:OAt Any w' v x)=>right_any Any v x w' hx);have R2:=Lib.hid (fun (w':World) (v:Value) (hx:OAt Any w' v x)=>rright8_any Any v x w' hx);have S1:=Lib.hid (fun (w':World) (v u:Value) (hx:OAt Any w' v x) (hy:OAt Any w' u x')=>same8_any Any Any v u x x' w' hx hy);have S2:=Lib.hid (fun (w':World) (v u:Value) (hx:OAt Any w' v x) (hy:OAt Any w' u x')=>rsame8_any Any Any v u x x' w' hx hy);have Q1:=Lib.hid (fun (w':World) (v:Value) (hx:OAt Any w' v x)=>base8_any Any v x w' hx);have Q2:=Lib.hid (fun (w':World) (v:Value) (hx:OAt Any w' v x)=>rbase8_any Any v x w' hx);generalize rightO Tp.nameB x=RX at *;generalize sameO x x'=SX at *;generalize baseO x=BX at *;have hlen:=lay_len name_ok hr;obtain ⟨U,hU⟩:∃U,printJ (layJ y)=U:=⟨_,rfl⟩;have hTU:layS y=U++Se.tailS U:=by unfold layS Se.sealS;rw [hU]
 have htl:(layS y).length=U.length+9:=by rw [hTU,List.length_append,Se.tailS_len]
 rw [hU] at hlen;have hsz:(⟨(layS y).toArray⟩:ByteArray).size=U.length+9:=by rw [bs_size,htl]
 have hex:(⟨(layS y).toArray⟩:ByteArray).extract 0 U.length=⟨U.toArray⟩:=by rw [Se.bs_take,hTU,List.take_left]
 have husz:(⟨U.toArray⟩:ByteArray).size=U.length:=bs_size U;have pk0:=Quo.pickS_nonneg (c:=at0) (n:=(U.length:Int)+1) (by omega);have pk1:=Quo.pickS_lt (c:=at0) (n:=(U.length:Int)+1) (by omega);have PK:=Lib.hid (fun (u:World)=>pick8_any at0 ((U.length:Int)+1) u a0 a1 (by omega) (by omega));generalize Quo.pickS at0 ((U.length:Int)+1)=m at *;obtain ⟨k,rfl⟩:=Int.eq_ofNat_of_zero_le pk0;have hk:k<=U.length:=by omega
 obtain ⟨n,hn⟩:∃n,U.length=n:=⟨_,rfl⟩;rw [hn] at hsz hex husz PK hk hlen;have HEX:=Lib.hid hex;have HN:=Lib.hid hn;clear hex hr hy hTU hU htl pk0 pk1 hn;generalize (⟨(layS y).toArray⟩:ByteArray)=TS at *;generalize hus:(⟨U.toArray⟩:ByteArray)=US at *;have HUS:=Lib.hid hus;clear hus;obtain ⟨lm,HLM⟩:∃lm,Hid (more.length=lm):=⟨_,rfl⟩;have hM:=bs_size more;rw [HLM.out] at hM hm;generalize (⟨more.toArray⟩:ByteArray)=M at *;have SE1:=Lib.hid (fun (u:World)=>Se.seal_l s u (by omega));have hT0:(⟨(Se.sealS s).toArray⟩:ByteArray).size<=281474976710656:=by rw [bs_size,Se.sealS_len];omega
 generalize (⟨(Se.sealS s).toArray⟩:ByteArray)=T0 at *;have hS0:(⟨s.toArray⟩:ByteArray).size<=281474976710656:=by rw [bs_size];omega
 generalize (⟨s.toArray⟩:ByteArray)=SS at *
 obtain ⟨mn,HMN⟩:∃mn:Nat,Hid ((if (n:Int) < (k:Int)+(lm:Int) then (n:Int) else (k:Int)+(lm:Int))=(mn:Int)):=by
  split
  ·exact ⟨n,rfl⟩
  ·exact ⟨k+lm,by show _=_;omega⟩
 have hmn:mn<=n:=by have:=HMN.out;split at this <;> omega
 obtain ⟨TM,HTM⟩:∃E,Hid (TS++M=E):=⟨_,rfl⟩;have hTM:TM.size=n+9+lm:=by rw [<-HTM.out,ByteArray.size_append];omega
 obtain ⟨E1,HE1⟩:∃E1,Hid (US.extract 0 k=E1):=⟨_,rfl⟩;have hE1:E1.size=k:=by rw [<-HE1.out,ByteArray.size_extract];omega
 obtain ⟨E2,HE2⟩:∃E2,Hid (US.extract mn n=E2):=⟨_,rfl⟩;have hE2:E2.size=n - mn:=by rw [<-HE2.out,ByteArray.size_extract];omega
 obtain ⟨E3,HE3⟩:∃E3,Hid (E1++M=E3):=⟨_,rfl⟩;have hE3:E3.size=k+lm:=by rw [<-HE3.out,ByteArray.size_append];omega
 obtain ⟨ZX4,HX4⟩:∃ZX4,Hid (E3++E2=ZX4):=⟨_,rfl⟩;have hX4:ZX4.size=k+lm+(n - mn):=by rw [<-HX4.out,ByteArray.size_append];omega
 obtain ⟨E4,HE4⟩:∃E4,Hid (US.extract k n=E4):=⟨_,rfl⟩;have hE4:E4.size=n - k:=by rw [<-HE4.out,ByteArray.size_extract];omega
 obtain ⟨ZX5,HX5⟩:∃ZX5,Hid (E3++E4=ZX5):=⟨_,rfl⟩;have hX5:ZX5.size=k+lm+(n - k):=by rw [<-HX5.out,ByteArray.size_append];omega
 obtain ⟨E5,HE5⟩:∃E5,Hid (TS.extract 0 k=E5):=⟨_,rfl⟩;have hE5:E5.size=k:=by rw [<-HE5.out,ByteArray.size_extract];omega
 have SE2:=Lib.hid (fun (u:World)=>Se.seal_any ZX4 u (by omega));have SE3:=Lib.hid (fun (u:World)=>Se.seal_any ZX5 u (by omega))
 have hT1:(⟨(Se.sealS ZX4.data.toList).toArray⟩:ByteArray).size<=281474976710656:=by
  rw [bs_size,Se.sealS_len,Array.length_toList];show ZX4.size+9<=_
  omega
 have hT2:(⟨(Se.sealS ZX5.data.toList).toArray⟩:ByteArray).size<=281474976710656:=by
  rw [bs_size,Se.sealS_len,Array.length_toList];show ZX5.size+9<=_
  omega
 generalize (⟨(Se.sealS ZX4.data.toList).toArray⟩:ByteArray)=T1 at *;generalize (⟨(Se.sealS ZX5.data.toList).toArray⟩:ByteArray)=T2 at *;have G0:Hid (¬9223372036854775807 < n+9+lm):=by show¬_;omega
 have G1:Hid (¬9223372036854775807 < k+lm):=by show¬_;omega
 have G2:Hid (¬9223372036854775807 < k+lm+(n - mn)):=by show¬_;omega
 have G5:Hid (¬9223372036854775807 < k+lm+(n - k)):=by show¬_;omega
 have W1:Hid (IntKind.i64.wrap ((k:Int)+(lm:Int))=(k:Int)+(lm:Int)):=wrap_in8 (by omega) (by omega);have HT0:=Lib.hid hT0;have HT1:=Lib.hid hT1;have HT2:=Lib.hid hT2;have HS0:=Lib.hid hS0;have HSB:Hid (TS.size<=281474976710656/\TM.size<=281474976710656/\E5.size<=281474976710656):=⟨by omega,by omega,by omega⟩;clear hT0 hT1 hT2 hS0;have B0:=Lib.hid (belowTwo w (.cells #[.int .i64 x.h,.string ⟨x.v.toArray⟩,.int .i64 x.o,.int .i64 x.u,.slice p0 x.ns.length q0,.slice e0 x.es.length f0] 25) (.cells #[.int .i64 x'.h,.string ⟨x'.v.toArray⟩,.int .i64 x'.o,.int .i64 x'.u,.slice p1 x'.ns.length q1,.slice e1 x'.es.length f1] 25));have X0:Hid (BX8 x w.heap.size p0 q0 e0 f0 ((w.alloc (.cells #[.int .i64 x.h,.string ⟨x.v.toArray⟩,.int .i64 x.o,.int .i64 x.u,.slice p0 x.ns.length q0,.slice e0 x.es.length f0] 25)).alloc (.cells #[.int .i64 x'.h,.string ⟨x'.v.toArray⟩,.int .i64 x'.o,.int .i64 x'.u,.slice p1 x'.ns.length q1,.slice e1 x'.es.length f1] 25))):=(BX8.new h).box _;have Y0:Hid (BX8 x' (w.heap.size+1) p1 q1 e1 f1 ((w.alloc (.cells #[.int .i64 x.h,.string ⟨x.v.toArray⟩,.int .i64 x.o,.int .i64 x.u,.slice p0 x.ns.length q0,.slice e0 x.es.length f0] 25)).alloc (.cells #[.int .i64 x'.h,.string ⟨x'.v.toArray⟩,.int .i64 x'.o,.int .i64 x'.u,.slice p1 x'.ns.length q1,.slice e1 x'.es.length f1] 25))):=⟨two_new _ _ _,h'.below (belowTwo _ _ _) (Nat.le_refl _)⟩;clear h h'
 go_enter Tryz.func3,Tryz.ntmps3
 go_upto_region 7 with (first
  | (go_at_call 4;(with_reducible refine (A1.out _ B0.out).mono ?_);rintro eq1 w1 ⟨rfl,hb1⟩;have B1:=Lib.hid (below_next_t B0.out hb1);have X1:=Lib.hid (X0.out.below hb1);have Y1:=Lib.hid (Y0.out.below hb1);obtain ⟨x0,x1,x2,x3,x4,x5⟩:=six_of X1.out.blk;clear hb1)
  | (go_at_call 5;(with_reducible refine (F1.out _ _ _ _ _ _ X1.out).mono ?_);rintro eq2 w2 ⟨a2,c2,d2,f2,rfl,hv2,hb2⟩;have U2:=Lib.hid (BX8.new hv2);have B2:=Lib.hid (below_box_t (below_next_t B1.out hb2) (.cells #[.int .i64 y.h,.string ⟨y.v.toArray⟩,.int .i64 y.o,.int .i64 y.u,.slice a2 y.ns.length c2,.slice d2 y.es.length f2] 25));have X2:=Lib.hid ((X1.out.below hb2).box (.cells #[.int .i64 y.h,.string ⟨y.v.toArray⟩,.int .i64 y.o,.int .i64 y.u,.slice a2 y.ns.length c2,.slice d2 y.es.length f2] 25));have Y2:=Lib.hid ((Y1.out.below hb2).box (.cells #[.int .i64 y.h,.string ⟨y.v.toArray⟩,.int .i64 y.o,.int .i64 y.u,.slice a2 y.ns.length c2,.slice d2 y.es.length f2] 25));clear hb2 hv2 x0 x1 x2 x3 x4 x5;obtain ⟨x0,x1,x2,x3,x4,x5⟩:=six_of X2.out.blk)
  | (go_at_call 6;(with_reducible refine (LA.out _ _ B2.out X2.out.oat).mono ?_);rintro eq3 w3 ⟨rfl,hb3⟩;have B3:=Lib.hid (below_next_t B2.out hb3);have X3:=Lib.hid (X2.out.below hb3);have Y3:=Lib.hid (Y2.out.below hb3);have U3:=Lib.hid (U2.out.below hb3);clear hb3 x0 x1 x2 x3 x4 x5;obtain ⟨x0,x1,x2,x3,x4,x5⟩:=six_of X3.out.blk)
  | (go_at_call 7;(with_reducible refine (RA.out _ _ X3.out.oat).mono ?_);rintro eq4 w4 ⟨rfl,hb4⟩;have B4:=Lib.hid (below_next_t B3.out hb4);have X4:=Lib.hid (X3.out.below hb4);have Y4:=Lib.hid (Y3.out.below hb4);have U4:=Lib.hid (U3.out.below hb4);clear hb4 x0 x1 x2 x3 x4 x5;obtain ⟨x0,x1,x2,x3,x4,x5⟩:=six_of U4.out.blk)
  | (go_at_call 6;(with_reducible refine (L1.out _ _ B4.out U4.out.oat).mono ?_);rintro eq5 w5 ⟨rfl,hb5⟩;have B5:=Lib.hid (below_next_t B4.out hb5);have X5:=Lib.hid (X4.out.below hb5);have Y5:=Lib.hid (Y4.out.below hb5);have U5:=Lib.hid (U4.out.below hb5);clear hb5 x0 x1 x2 x3 x4 x5;obtain ⟨x0,x1,x2,x3,x4,x5⟩:=six_of U5.out.blk)
  | (go_at_call 7;(with_reducible refine (RL.out _ _ U5.out.oat).mono ?_);rintro eq6 w6 ⟨rfl,hb6⟩;have B6:=Lib.hid (below_next_t B5.out hb6);have X6:=Lib.hid (X5.out.below hb6);have Y6:=Lib.hid (Y5.out.below hb6);have U6:=Lib.hid (U5.out.below hb6);clear hb6 x0 x1 x2 x3 x4 x5))
 obtain ⟨x0,x1,x2,x3,x4,x5⟩:=six_of X6.out.blk;obtain ⟨g0,g1,g2,g3,g4,g5⟩:=six_of Y6.out.blk;have x0':=cell_regrown x0;have x1':=cell_regrown x1;have x2':=cell_regrown x2;have x3':=cell_regrown x3;have x4':=cell_regrown x4;have x5':=cell_regrown x5;have g0':=cell_regrown g0;have g1':=cell_regrown g1;have g2':=cell_regrown g2;have g3':=cell_regrown g3;have g4':=cell_regrown g4;have g5':=cell_regrown g5;clear x0 x1 x2 x3 x4 x5 g0 g1 g2 g3 g4 g5;have C1:=Lib.hid (fun (dd:Nat) (os:Array Obj)=>Calls.regrown_of (w:=w6) (d:=dd) (os:=os) (R1.out _ _ (X6.out.oat.below (below_regrown w6 dd os) (Nat.le_refl _))));have C2:=Lib.hid (fun (dd:Nat) (os:Array Obj)=>Calls.regrown_of (w:=w6) (d:=dd) (os:=os) (R2.out _ _ (X6.out.oat.below (below_regrown w6 dd os) (Nat.le_refl _))));have C3:=Lib.hid (fun (dd:Nat) (os:Array Obj)=>Calls.regrown_of (w:=w6) (d:=dd) (os:=os) (S1.out _ _ _ (X6.out.oat.below (below_regrown w6 dd os) (Nat.le_refl _)) (Y6.out.oat.below (below_regrown w6 dd os) (Nat.le_refl _))));have C4:=Lib.hid (fun (dd:Nat) (os:Array Obj)=>Calls.regrown_of (w:=w6) (d:=dd) (os:=os) (S2.out _ _ _ (X6.out.oat.below (below_regrown w6 dd os) (Nat.le_refl _)) (Y6.out.oat.below (below_regrown w6 dd os) (Nat.le_refl _))));have C5:=Lib.hid (fun (dd:Nat) (os:Array Obj)=>Calls.regrown_of (w:=w6) (d:=dd) (os:=os) (Q1.out _ _ (X6.out.oat.below (below_regrown w6 dd os) (Nat.le_refl _))));have C6:=Lib.hid (fun (dd:Nat) (os:Array Obj)=>Calls.regrown_of (w:=w6) (d:=dd) (os:=os) (Q2.out _ _ (X6.out.oat.below (below_regrown w6 dd os) (Nat.le_refl _))));have z1:(TA.toList !=TA.toList)=false:=by simp
 have z2:(ea !=ea)=false:=by simp
 have z3:(TS.toList !=TS.toList)=false:=by simp
 have z4:(RX !=RX)=false:=by simp
 have z5:(SX !=SX)=false:=by simp
 have z6:(BX !=BX)=false:=by simp
 rename_i K1 A1' K2 A2';refine wp_region_quiet_below mixed8 (by kernel_rfl) ?_
 repeat (quiet_step (first | (with_reducible exact C1.out _ _) | (with_reducible exact C2.out _ _) | (with_reducible exact C3.out _ _) | (with_reducible exact C4.out _ _) | (with_reducible exact C5.out _ _) | (with_reducible exact C6.out _ _)))
 refine wpQuiet_nil ?_;intro _ hw';obtain ⟨⟨dq,osq⟩,hw''⟩:=hw';subst hw'';have B7:=Lib.hid (B6.out.trans ((below_regrown w6 dq osq).mono B6.out.size));clear z1 z2 z3 z4 z5 z6 C1 C2 C3 C4 C5 C6;have hex:=HEX.out
 go_upto_region 11 with (go_at_call 14;(with_reducible refine (PK.out _).mono ?_);rintro e8 w8 ⟨rfl,rfl⟩)
 rename_i K3 A3;generalize «Sort».grow (redrawn w6 dq) osq=wS at *;have hk9:k<=n+9:=by omega
 have hk9':((k:Nat):Int)<=((n:Nat):Int)+9:=by omega
 refine wp_region_grow_all mixed8 (fun zs=>{ tmps:=List.toArray (.agg #[.int .i64 x.h,.string ⟨x.v.toArray⟩,.int .i64 x.o,.int .i64 x.u,.slice p0 x.ns.length q0,.slice e0 x.es.length f0]::.agg #[.int .i64 x'.h,.string ⟨x'.v.toArray⟩,.int .i64 x'.o,.int .i64 x'.u,.slice p1 x'.ns.length q1,.slice e1 x'.es.length f1]::.string SS::.int .i64 base::.int .i64 at0::.string M::.pointer (some ⟨w.heap.size,0,none⟩)::.pointer (some ⟨w.heap.size+1,0,none⟩)::undef::undef::undef::undef::.bool false::.bool true::.pointer (some ⟨w2.heap.size,0,none⟩)::.string TA::.int .i64 ea::.string TA::.int .i64 ea::.string TS::.int .i64 0::.string TS::.int .i64 0::.string US::.int .i64 ((k:Nat):Int)::undef::undef::undef::undef::undef::undef::.bool true::.agg #[.int .i64 x.h,.string ⟨x.v.toArray⟩,.int .i64 x.o,.int .i64 x.u,.slice p0 x.ns.length q0,.slice e0 x.es.length f0]::.int .i64 base::.agg #[.int .i64 y.h,.string ⟨y.v.toArray⟩,.int .i64 y.o,.int .i64 y.u,.slice a2 y.ns.length c2,.slice d2 y.es.length f2]::.tuple #[.string TA,.int .i64 ea]::.agg #[.int .i64 x.h,.string ⟨x.v.toArray⟩,.int .i64 x.o,.int .i64 x.u,.slice p0 x.ns.length q0,.slice e0 x.es.length f0]::.tuple #[.string TA,.int .i64 ea]::.string TA::.int .i64 ea::.tuple #[.string TA,.int .i64 ea]::.agg #[.int .i64 x.h,.string ⟨x.v.toArray⟩,.int .i64 x.o,.int .i64 x.u,.slice p0 x.ns.length q0,.slice e0 x.es.length f0]::.tuple #[.string TA,.int .i64 ea]::.string TA::.int .i64 ea::.tuple #[.string TS,.int .i64 0]::.agg #[.int .i64 y.h,.string ⟨y.v.toArray⟩,.int .i64 y.o,.int .i64 y.u,.slice a2 y.ns.length c2,.slice d2 y.es.length f2]::.tuple #[.string TS,.int .i64 0]::.string TS::.int .i64 0::.tuple #[.string TS,.int .i64 0]::.agg #[.int .i64 y.h,.string ⟨y.v.toArray⟩,.int .i64 y.o,.int .i64 y.u,.slice a2 y.ns.length c2,.slice d2 y.es.length f2]::.tuple #[.string TS,.int .i64 0]::.string TS::.int .i64 0::.bool true::.bool false::.bool false::.string TA::.string TA::.bool false::.bool false::.bool false::.int .i64 ea::.int .i64 ea::.bool false::.bool false::.bool false::.string TS::.string TS::.bool false::.bool false::.bool false::.int .i64 0::.int .i64 0::.bool false::.bool false::.bool false::.int .i64 0::.bool false::.bool false::.bool false::.agg #[.int .i64 x.h,.string ⟨x.v.toArray⟩,.int .i64 x.o,.int .i64 x.u,.slice p0 x.ns.length q0,.slice e0 x.es.length f0]::.bool RX::.agg #[.int .i64 x.h,.string ⟨x.v.toArray⟩,.int .i64 x.o,.int .i64 x.u,.slice p0 x.ns.length q0,.slice e0 x.es.length f0]::.bool RX::.bool false::.bool false::.bool false::.agg #[.int .i64 x.h,.string ⟨x.v.toArray⟩,.int .i64 x.o,.int .i64 x.u,.slice p0 x.ns.length q0,.slice e0 x.es.length f0]::.agg #[.int .i64 x'.h,.string ⟨x'.v.toArray⟩,.int .i64 x'.o,.int .i64 x'.u,.slice p1 x'.ns.length q1,.slice e1 x'.es.length f1]::.bool SX::.agg #[.int .i64 x.h,.string ⟨x.v.toArray⟩,.int .i64 x.o,.int .i64 x.u,.slice p0 x.ns.length q0,.slice e0 x.es.length f0]::.agg #[.int .i64 x'.h,.string ⟨x'.v.toArray⟩,.int .i64 x'.o,.int .i64 x'.u,.slice p1 x'.ns.length q1,.slice e1 x'.es.length f1]::.bool SX::.bool false::.bool false::.bool false::.agg #[.int .i64 x.h,.string ⟨x.v.toArray⟩,.int .i64 x.o,.int .i64 x.u,.slice p0 x.ns.length q0,.slice e0 x.es.length f0]::.int .i64 ((BX:Nat):Int)::.agg #[.int .i64 x.h,.string ⟨x.v.toArray⟩,.int .i64 x.o,.int .i64 x.u,.slice p0 x.ns.length q0,.slice e0 x.es.length f0]::.int .i64 ((BX:Nat):Int)::.bool false::.bool false::.string TS::.string TS::.int .i64 (((n:Nat):Int)+9)::.int .i64 ((n:Nat):Int)::.string US::.int .i64 at0::.string US::.int .i64 ((n:Nat):Int)::.int .i64 (((n:Nat):Int)+1)::.int .i64 ((k:Nat):Int)::zs.getD 0 undef::zs.getD 1 undef::zs.getD 2 undef::zs.getD 3 undef::zs.getD 4 undef::zs.getD 5 undef::zs.getD 6 undef::zs.getD 7 undef::zs.getD 8 undef::zs.getD 9 undef::zs.getD 10 undef::zs.getD 11 undef::zs.getD 12 undef::zs.getD 13 undef::zs.getD 14 undef::zs.getD 15 undef::zs.getD 16 undef::zs.getD 17 undef::zs.getD 18 undef::zs.getD 19 undef::zs.getD 20 undef::zs.getD 21 undef::zs.getD 22 undef::zs.getD 23 undef::zs.getD 24 undef::zs.getD 25 undef::zs.getD 26 undef::zs.getD 27 undef::zs.getD 28 undef::zs.getD 29 undef::zs.getD 30 undef::zs.getD 31 undef::zs.getD 32 undef::zs.getD 33 undef::zs.getD 34 undef::zs.getD 35 undef::zs.getD 36 undef::zs.getD 37 undef::zs.getD 38 undef::undef::undef::undef::undef::undef::undef::undef::undef::undef::undef::undef::undef::undef::undef::undef::undef::undef::undef::undef::undef::undef::undef::undef:: []),defers:= [] }) [(fun z _=>z=.string SS),(fun z _=>z=.string SS),(fun z _=>z=.string T0),(fun z _=>z=.string TS),(fun z _=>z=.string TS),(fun z _=>z=.string M),(fun z _=>z=.string TM),(fun z _=>z=.string US),(fun z _=>z=.int .i64 (((k:Nat):Int))),(fun z _=>z=.string E1),(fun z _=>z=.string M),(fun z _=>z=.string E3),(fun z _=>z=.string US),(fun z _=>z=.int .i64 (((k:Nat):Int))),(fun z _=>z=.string M),(fun z _=>z=.int .i64 (((lm:Nat):Int))),(fun z _=>z=.int .i64 (((k:Nat):Int)+((lm:Nat):Int))),(fun z _=>z=.string US),(fun z _=>z=.int .i64 (((n:Nat):Int))),(fun z _=>z=.int .i64 (((mn:Nat):Int))),(fun z _=>z=.string E2),(fun z _=>z=.string ZX4),(fun z _=>z=.string T1),(fun z _=>z=.string US),(fun z _=>z=.int .i64 (((k:Nat):Int))),(fun z _=>z=.string E1),(fun z _=>z=.string M),(fun z _=>z=.string E3),(fun z _=>z=.string US),(fun z _=>z=.int .i64 (((k:Nat):Int))),(fun z _=>z=.string E4),(fun z _=>z=.string ZX5),(fun z _=>z=.string T2),(fun z _=>z=.string TS),(fun z _=>z=.int .i64 (((k:Nat):Int))),(fun z _=>z=.string E5),(SevV SS T0 TS TM T1 T2 E5),(fun z _=>z=.int .i64 (7)),(fun z _=>z=.int .i64 (0))] (List.replicate 39 undef) rfl rfl rfl ?_ (by kernel_rfl) ?_ ?_
 ·intro p hp;simp only [List.mem_cons,List.not_mem_nil,or_false] at hp;rcases hp with rfl | rfl | rfl | rfl | rfl | rfl | rfl | rfl | rfl | rfl | rfl | rfl | rfl | rfl | rfl | rfl | rfl | rfl | rfl | rfl | rfl | rfl | rfl | rfl | rfl | rfl | rfl | rfl | rfl | rfl | rfl | rfl | rfl | rfl | rfl | rfl | rfl | rfl | rfl
  all_goals first | exact stable_eq _ | exact SevV.stable _ _ _ _ _ _ _
 ·clear A3 F1 A1 L1 PK hex HEX LA RA RL R1 R2 S1 S2 Q1 Q2;intro i hi zs l wz o hz hF ho hpre;have hi':i < 39:=hi
  match zs,(show zs.length=39 from hz) with
  | z0::z1::z2::z3::z4::z5::z6::z7::z8::z9::z10::z11::z12::z13::z14::z15::z16::z17::z18::z19::z20::z21::z22::z23::z24::z25::z26::z27::z28::z29::z30::z31::z32::z33::z34::z35::z36::z37::z38:: [],_=>
    clear hz hi;change wpOp _ _ _ _ _ { tmps:=List.toArray (.agg #[.int .i64 x.h,.string ⟨x.v.toArray⟩,.int .i64 x.o,.int .i64 x.u,.slice p0 x.ns.length q0,.slice e0 x.es.length f0]::.agg #[.int .i64 x'.h,.string ⟨x'.v.toArray⟩,.int .i64 x'.o,.int .i64 x'.u,.slice p1 x'.ns.length q1,.slice e1 x'.es.length f1]::.string SS::.int .i64 base::.int .i64 at0::.string M::.pointer (some ⟨w.heap.size,0,none⟩)::.pointer (some ⟨w.heap.size+1,0,none⟩)::undef::undef::undef::undef::.bool false::.bool true::.pointer (some ⟨w2.heap.size,0,none⟩)::.string TA::.int .i64 ea::.string TA::.int .i64 ea::.string TS::.int .i64 0::.string TS::.int .i64 0::.string US::.int .i64 ((k:Nat):Int)::undef::undef::undef::undef::undef::undef::.bool true::.agg #[.int .i64 x.h,.string ⟨x.v.toArray⟩,.int .i64 x.o,.int .i64 x.u,.slice p0 x.ns.length q0,.slice e0 x.es.length f0]::.int .i64 base::.agg #[.int .i64 y.h,.string ⟨y.v.toArray⟩,.int .i64 y.o,.int .i64 y.u,.slice a2 y.ns.length c2,.slice d2 y.es.length f2]::.tuple #[.string TA,.int .i64 ea]::.agg #[.int .i64 x.h,.string ⟨x.v.toArray⟩,.int .i64 x.o,.int .i64 x.u,.slice p0 x.ns.length q0,.slice e0 x.es.length f0]::.tuple #[.string TA,.int .i64 ea]::.string TA::.int .i64 ea::.tuple #[.string TA,.int .i64 ea]::.agg #[.int .i64 x.h,.string ⟨x.v.toArray⟩,.int .i64 x.o,.int .i64 x.u,.slice p0 x.ns.length q0,.slice e0 x.es.length f0]::.tuple #[.string TA,.int .i64 ea]::.string TA::.int .i64 ea::.tuple #[.string TS,.int .i64 0]::.agg #[.int .i64 y.h,.string ⟨y.v.toArray⟩,.int .i64 y.o,.int .i64 y.u,.slice a2 y.ns.length c2,.slice d2 y.es.length f2]::.tuple #[.string TS,.int .i64 0]::.string TS::.int .i64 0::.tuple #[.string TS,.int .i64 0]::.agg #[.int .i64 y.h,.string ⟨y.v.toArray⟩,.int .i64 y.o,.int .i64 y.u,.slice a2 y.ns.length c2,.slice d2 y.es.length f2]::.tuple #[.string TS,.int .i64 0]::.string TS::.int .i64 0::.bool true::.bool false::.bool false::.string TA::.string TA::.bool false::.bool false::.bool false::.int .i64 ea::.int .i64 ea::.bool false::.bool false::.bool false::.string TS::.string TS::.bool false::.bool false::.bool false::.int .i64 0::.int .i64 0::.bool false::.bool false::.bool false::.int .i64 0::.bool false::.bool false::.bool false::.agg #[.int .i64 x.h,.string ⟨x.v.toArray⟩,.int .i64 x.o,.int .i64 x.u,.slice p0 x.ns.length q0,.slice e0 x.es.length f0]::.bool RX::.agg #[.int .i64 x.h,.string ⟨x.v.toArray⟩,.int .i64 x.o,.int .i64 x.u,.slice p0 x.ns.length q0,.slice e0 x.es.length f0]::.bool RX::.bool false::.bool false::.bool false::.agg #[.int .i64 x.h,.string ⟨x.v.toArray⟩,.int .i64 x.o,.int .i64 x.u,.slice p0 x.ns.length q0,.slice e0 x.es.length f0]::.agg #[.int .i64 x'.h,.string ⟨x'.v.toArray⟩,.int .i64 x'.o,.int .i64 x'.u,.slice p1 x'.ns.length q1,.slice e1 x'.es.length f1]::.bool SX::.agg #[.int .i64 x.h,.string ⟨x.v.toArray⟩,.int .i64 x.o,.int .i64 x.u,.slice p0 x.ns.length q0,.slice e0 x.es.length f0]::.agg #[.int .i64 x'.h,.string ⟨x'.v.toArray⟩,.int .i64 x'.o,.int .i64 x'.u,.slice p1 x'.ns.length q1,.slice e1 x'.es.length f1]::.bool SX::.bool false::.bool false::.bool false::.agg #[.int .i64 x.h,.string ⟨x.v.toArray⟩,.int .i64 x.o,.int .i64 x.u,.slice p0 x.ns.length q0,.slice e0 x.es.length f0]::.int .i64 ((BX:Nat):Int)::.agg #[.int .i64 x.h,.string ⟨x.v.toArray⟩,.int .i64 x.o,.int .i64 x.u,.slice p0 x.ns.length q0,.slice e0 x.es.length f0]::.int .i64 ((BX:Nat):Int)::.bool false::.bool false::.string TS::.string TS::.int .i64 (((n:Nat):Int)+9)::.int .i64 ((n:Nat):Int)::.string US::.int .i64 at0::.string US::.int .i64 ((n:Nat):Int)::.int .i64 (((n:Nat):Int)+1)::.int .i64 ((k:Nat):Int)::z0::z1::z2::z3::z4::z5::z6::z7::z8::z9::z10::z11::z12::z13::z14::z15::z16::z17::z18::z19::z20::z21::z22::z23::z24::z25::z26::z27::z28::z29::z30::z31::z32::z33::z34::z35::z36::z37::z38::undef::undef::undef::undef::undef::undef::undef::undef::undef::undef::undef::undef::undef::undef::undef::undef::undef::undef::undef::undef::undef::undef::undef:: []),defers:= [] } _;have hc:i=0∨i=1∨i=2∨i=3∨i=4∨i=5∨i=6∨i=7∨i=8∨i=9∨i=10∨i=11∨i=12∨i=13∨i=14∨i=15∨i=16∨i=17∨i=18∨i=19∨i=20∨i=21∨i=22∨i=23∨i=24∨i=25∨i=26∨i=27∨i=28∨i=29∨i=30∨i=31∨i=32∨i=33∨i=34∨i=35∨i=36∨i=37∨i=38:=(by omega);clear hi';rcases hc with rfl | rfl | rfl | rfl | rfl | rfl | rfl | rfl | rfl | rfl | rfl | rfl | rfl | rfl | rfl | rfl | rfl | rfl | rfl | rfl | rfl | rfl | rfl | rfl | rfl | rfl | rfl | rfl | rfl | rfl | rfl | rfl | rfl | rfl | rfl | rfl | rfl | rfl | rfl
    ·clear ho hpre;refine wpOp_here rfl (fun K' hK=> ?_)
     go_simp
     exact hK _ _ ⟨_,rfl,Below.refl _ _,fun p hp=>by cases (show some (fun z _=>z=Value.string SS)=some p from hp);exact rfl⟩
    ·clear ho hpre;refine wpOp_here rfl (fun K' hK=> ?_)
     go_simp
     exact hK _ _ ⟨_,rfl,Below.refl _ _,fun p hp=>by cases (show some (fun z _=>z=Value.string SS)=some p from hp);exact rfl⟩
    ·have p1:=hF.fact 1 _ _ rfl rfl (hpre ⟨1,.data⟩ (by cases ho;simp) rfl);subst p1;clear ho hpre;refine wpOp_here rfl (fun K' hK=> ?_)
     go_simp
     refine (SE1.out _).mono ?_;rintro e6 w6' ⟨rfl,hb6⟩;exact hK _ _ ⟨_,rfl,hb6,fun p hp=>by cases (show some (fun z _=>z=Value.string T0)=some p from hp);exact rfl⟩
    ·clear ho hpre;refine wpOp_here rfl (fun K' hK=> ?_)
     go_simp
     exact hK _ _ ⟨_,rfl,Below.refl _ _,fun p hp=>by cases (show some (fun z _=>z=Value.string TS)=some p from hp);exact rfl⟩
    ·clear ho hpre;refine wpOp_here rfl (fun K' hK=> ?_)
     go_simp
     exact hK _ _ ⟨_,rfl,Below.refl _ _,fun p hp=>by cases (show some (fun z _=>z=Value.string TS)=some p from hp);exact rfl⟩
    ·clear ho hpre;refine wpOp_here rfl (fun K' hK=> ?_)
     go_simp
     exact hK _ _ ⟨_,rfl,Below.refl _ _,fun p hp=>by cases (show some (fun z _=>z=Value.string M)=some p from hp);exact rfl⟩
    ·have p4:=hF.fact 4 _ _ rfl rfl (hpre ⟨4,.data⟩ (by cases ho;simp) rfl);subst p4;have p5:=hF.fact 5 _ _ rfl rfl (hpre ⟨5,.data⟩ (by cases ho;simp) rfl);subst p5;clear ho hpre;refine wpOp_here rfl (fun K' hK=> ?_)
     go_simp
     rw [HTM.out,if_neg G0.out]
     go_simp
     exact hK _ _ ⟨_,rfl,Below.refl _ _,fun p hp=>by cases (show some (fun z _=>z=Value.string TM)=some p from hp);exact rfl⟩
    ·clear ho hpre;refine wpOp_here rfl (fun K' hK=> ?_)
     go_simp
     exact hK _ _ ⟨_,rfl,Below.refl _ _,fun p hp=>by cases (show some (fun z _=>z=Value.string US)=some p from hp);exact rfl⟩
    ·clear ho hpre;refine wpOp_here rfl (fun K' hK=> ?_)
     go_simp
     exact hK _ _ ⟨_,rfl,Below.refl _ _,fun p hp=>by cases (show some (fun z _=>z=Value.int .i64 (((k:Nat):Int)))=some p from hp);exact rfl⟩
    ·have p7:=hF.fact 7 _ _ rfl rfl (hpre ⟨7,.data⟩ (by cases ho;simp) rfl);subst p7;have p8:=hF.fact 8 _ _ rfl rfl (hpre ⟨8,.data⟩ (by cases ho;simp) rfl);subst p8;clear ho hpre;refine wpOp_here rfl (fun K' hK=> ?_)
     go_simp
     rw [HE1.out];exact hK _ _ ⟨_,rfl,Below.refl _ _,fun p hp=>by cases (show some (fun z _=>z=Value.string E1)=some p from hp);exact rfl⟩
    ·clear ho hpre;refine wpOp_here rfl (fun K' hK=> ?_)
     go_simp
     exact hK _ _ ⟨_,rfl,Below.refl _ _,fun p hp=>by cases (show some (fun z _=>z=Value.string M)=some p from hp);exact rfl⟩
    ·have p9:=hF.fact 9 _ _ rfl rfl (hpre ⟨9,.data⟩ (by cases ho;simp) rfl);subst p9;have p10:=hF.fact 10 _ _ rfl rfl (hpre ⟨10,.data⟩ (by cases ho;simp) rfl);subst p10;clear ho hpre;refine wpOp_here rfl (fun K' hK=> ?_)
     go_simp
     rw [HE3.out,if_neg G1.out]
     go_simp
     exact hK _ _ ⟨_,rfl,Below.refl _ _,fun p hp=>by cases (show some (fun z _=>z=Value.string E3)=some p from hp);exact rfl⟩
    ·clear ho hpre;refine wpOp_here rfl (fun K' hK=> ?_)
     go_simp
     exact hK _ _ ⟨_,rfl,Below.refl _ _,fun p hp=>by cases (show some (fun z _=>z=Value.string US)=some p from hp);exact rfl⟩
    ·clear ho hpre;refine wpOp_here rfl (fun K' hK=> ?_)
     go_simp
     exact hK _ _ ⟨_,rfl,Below.refl _ _,fun p hp=>by cases (show some (fun z _=>z=Value.int .i64 (((k:Nat):Int)))=some p from hp);exact rfl⟩
    ·clear ho hpre;refine wpOp_here rfl (fun K' hK=> ?_)
     go_simp
     exact hK _ _ ⟨_,rfl,Below.refl _ _,fun p hp=>by cases (show some (fun z _=>z=Value.string M)=some p from hp);exact rfl⟩
    ·have p14:=hF.fact 14 _ _ rfl rfl (hpre ⟨14,.data⟩ (by cases ho;simp) rfl);subst p14;clear ho hpre;refine wpOp_here rfl (fun K' hK=> ?_)
     go_simp
     exact hK _ _ ⟨_,rfl,Below.refl _ _,fun p hp=>by cases (show some (fun z _=>z=Value.int .i64 (((lm:Nat):Int)))=some p from hp);exact rfl⟩
    ·have p13:=hF.fact 13 _ _ rfl rfl (hpre ⟨13,.data⟩ (by cases ho;simp) rfl);subst p13;have p15:=hF.fact 15 _ _ rfl rfl (hpre ⟨15,.data⟩ (by cases ho;simp) rfl);subst p15;clear ho hpre;refine wpOp_here rfl (fun K' hK=> ?_)
     go_simp
     rw [W1.out];exact hK _ _ ⟨_,rfl,Below.refl _ _,fun p hp=>by cases (show some (fun z _=>z=Value.int .i64 (((k:Nat):Int)+((lm:Nat):Int)))=some p from hp);exact rfl⟩
    ·clear ho hpre;refine wpOp_here rfl (fun K' hK=> ?_)
     go_simp
     exact hK _ _ ⟨_,rfl,Below.refl _ _,fun p hp=>by cases (show some (fun z _=>z=Value.string US)=some p from hp);exact rfl⟩
    ·have p17:=hF.fact 17 _ _ rfl rfl (hpre ⟨17,.data⟩ (by cases ho;simp) rfl);subst p17;clear ho hpre;refine wpOp_here rfl (fun K' hK=> ?_)
     go_simp
     exact hK _ _ ⟨_,rfl,Below.refl _ _,fun p hp=>by cases (show some (fun z _=>z=Value.int .i64 (((n:Nat):Int)))=some p from hp);exact rfl⟩
    ·have p16:=hF.fact 16 _ _ rfl rfl (hpre ⟨16,.data⟩ (by cases ho;simp) rfl);subst p16;have p18:=hF.fact 18 _ _ rfl rfl (hpre ⟨18,.data⟩ (by cases ho;simp) rfl);subst p18;clear ho hpre;refine wpOp_here rfl (fun K' hK=> ?_)
     go_simp
     exact hK _ _ ⟨_,rfl,Below.refl _ _,fun p hp=>by cases (show some (fun z _=>z=Value.int .i64 (((mn:Nat):Int)))=some p from hp);exact congrArg (Value.int .i64) (by have:=HMN.out;split at this <;> omega)⟩
    ·have p12:=hF.fact 12 _ _ rfl rfl (hpre ⟨12,.data⟩ (by cases ho;simp) rfl);subst p12;have p19:=hF.fact 19 _ _ rfl rfl (hpre ⟨19,.data⟩ (by cases ho;simp) rfl);subst p19;clear ho hpre;refine wpOp_here rfl (fun K' hK=> ?_)
     go_simp
     rw [HE2.out];exact hK _ _ ⟨_,rfl,Below.refl _ _,fun p hp=>by cases (show some (fun z _=>z=Value.string E2)=some p from hp);exact rfl⟩
    ·have p11:=hF.fact 11 _ _ rfl rfl (hpre ⟨11,.data⟩ (by cases ho;simp) rfl);subst p11;have p20:=hF.fact 20 _ _ rfl rfl (hpre ⟨20,.data⟩ (by cases ho;simp) rfl);subst p20;clear ho hpre;refine wpOp_here rfl (fun K' hK=> ?_)
     go_simp
     rw [HX4.out,if_neg G2.out]
     go_simp
     exact hK _ _ ⟨_,rfl,Below.refl _ _,fun p hp=>by cases (show some (fun z _=>z=Value.string ZX4)=some p from hp);exact rfl⟩
    ·have p21:=hF.fact 21 _ _ rfl rfl (hpre ⟨21,.data⟩ (by cases ho;simp) rfl);subst p21;clear ho hpre;refine wpOp_here rfl (fun K' hK=> ?_)
     go_simp
     refine (SE2.out _).mono ?_;rintro e6 w6' ⟨rfl,hb6⟩;exact hK _ _ ⟨_,rfl,hb6,fun p hp=>by cases (show some (fun z _=>z=Value.string T1)=some p from hp);exact rfl⟩
    ·clear ho hpre;refine wpOp_here rfl (fun K' hK=> ?_)
     go_simp
     exact hK _ _ ⟨_,rfl,Below.refl _ _,fun p hp=>by cases (show some (fun z _=>z=Value.string US)=some p from hp);exact rfl⟩
    ·clear ho hpre;refine wpOp_here rfl (fun K' hK=> ?_)
     go_simp
     exact hK _ _ ⟨_,rfl,Below.refl _ _,fun p hp=>by cases (show some (fun z _=>z=Value.int .i64 (((k:Nat):Int)))=some p from hp);exact rfl⟩
    ·have p23:=hF.fact 23 _ _ rfl rfl (hpre ⟨23,.data⟩ (by cases ho;simp) rfl);subst p23;have p24:=hF.fact 24 _ _ rfl rfl (hpre ⟨24,.data⟩ (by cases ho;simp) rfl);subst p24;clear ho hpre;refine wpOp_here rfl (fun K' hK=> ?_)
     go_simp
     rw [HE1.out];exact hK _ _ ⟨_,rfl,Below.refl _ _,fun p hp=>by cases (show some (fun z _=>z=Value.string E1)=some p from hp);exact rfl⟩
    ·clear ho hpre;refine wpOp_here rfl (fun K' hK=> ?_)
     go_simp
     exact hK _ _ ⟨_,rfl,Below.refl _ _,fun p hp=>by cases (show some (fun z _=>z=Value.string M)=some p from hp);exact rfl⟩
    ·have p25:=hF.fact 25 _ _ rfl rfl (hpre ⟨25,.data⟩ (by cases ho;simp) rfl);subst p25;have p26:=hF.fact 26 _ _ rfl rfl (hpre ⟨26,.data⟩ (by cases ho;simp) rfl);subst p26;clear ho hpre;refine wpOp_here rfl (fun K' hK=> ?_)
     go_simp
     rw [HE3.out,if_neg G1.out]
     go_simp
     exact hK _ _ ⟨_,rfl,Below.refl _ _,fun p hp=>by cases (show some (fun z _=>z=Value.string E3)=some p from hp);exact rfl⟩
    ·clear ho hpre;refine wpOp_here rfl (fun K' hK=> ?_)
     go_simp
     exact hK _ _ ⟨_,rfl,Below.refl _ _,fun p hp=>by cases (show some (fun z _=>z=Value.string US)=some p from hp);exact rfl⟩
    ·clear ho hpre;refine wpOp_here rfl (fun K' hK=> ?_)
     go_simp
     exact hK _ _ ⟨_,rfl,Below.refl _ _,fun p hp=>by cases (show some (fun z _=>z=Value.int .i64 (((k:Nat):Int)))=some p from hp);exact rfl⟩
    ·have p28:=hF.fact 28 _ _ rfl rfl (hpre ⟨28,.data⟩ (by cases ho;simp) rfl);subst p28;have p29:=hF.fact 29 _ _ rfl rfl (hpre ⟨29,.data⟩ (by cases ho;simp) rfl);subst p29;clear ho hpre;refine wpOp_here rfl (fun K' hK=> ?_)
     go_simp
     rw [HE4.out];exact hK _ _ ⟨_,rfl,Below.refl _ _,fun p hp=>by cases (show some (fun z _=>z=Value.string E4)=some p from hp);exact rfl⟩
    ·have p27:=hF.fact 27 _ _ rfl rfl (hpre ⟨27,.data⟩ (by cases ho;simp) rfl);subst p27;have p30:=hF.fact 30 _ _ rfl rfl (hpre ⟨30,.data⟩ (by cases ho;simp) rfl);subst p30;clear ho hpre;refine wpOp_here rfl (fun K' hK=> ?_)
     go_simp
     rw [HX5.out,if_neg G5.out]
     go_simp
     exact hK _ _ ⟨_,rfl,Below.refl _ _,fun p hp=>by cases (show some (fun z _=>z=Value.string ZX5)=some p from hp);exact rfl⟩
    ·have p31:=hF.fact 31 _ _ rfl rfl (hpre ⟨31,.data⟩ (by cases ho;simp) rfl);subst p31;clear ho hpre;refine wpOp_here rfl (fun K' hK=> ?_)
     go_simp
     refine (SE3.out _).mono ?_;rintro e6 w6' ⟨rfl,hb6⟩;exact hK _ _ ⟨_,rfl,hb6,fun p hp=>by cases (show some (fun z _=>z=Value.string T2)=some p from hp);exact rfl⟩
    ·clear ho hpre;refine wpOp_here rfl (fun K' hK=> ?_)
     go_simp
     exact hK _ _ ⟨_,rfl,Below.refl _ _,fun p hp=>by cases (show some (fun z _=>z=Value.string TS)=some p from hp);exact rfl⟩
    ·clear ho hpre;refine wpOp_here rfl (fun K' hK=> ?_)
     go_simp
     exact hK _ _ ⟨_,rfl,Below.refl _ _,fun p hp=>by cases (show some (fun z _=>z=Value.int .i64 (((k:Nat):Int)))=some p from hp);exact rfl⟩
    ·have p33:=hF.fact 33 _ _ rfl rfl (hpre ⟨33,.data⟩ (by cases ho;simp) rfl);subst p33;have p34:=hF.fact 34 _ _ rfl rfl (hpre ⟨34,.data⟩ (by cases ho;simp) rfl);subst p34;clear ho hpre;refine wpOp_here rfl (fun K' hK=> ?_)
     go_simp
     rw [HE5.out];exact hK _ _ ⟨_,rfl,Below.refl _ _,fun p hp=>by cases (show some (fun z _=>z=Value.string E5)=some p from hp);exact rfl⟩
    ·have p0:=hF.fact 0 _ _ rfl rfl (hpre ⟨0,.data⟩ (by cases ho;simp) rfl);subst p0;have p2:=hF.fact 2 _ _ rfl rfl (hpre ⟨2,.data⟩ (by cases ho;simp) rfl);subst p2;have p3:=hF.fact 3 _ _ rfl rfl (hpre ⟨3,.data⟩ (by cases ho;simp) rfl);subst p3;have p6:=hF.fact 6 _ _ rfl rfl (hpre ⟨6,.data⟩ (by cases ho;simp) rfl);subst p6;have p22:=hF.fact 22 _ _ rfl rfl (hpre ⟨22,.data⟩ (by cases ho;simp) rfl);subst p22;have p32:=hF.fact 32 _ _ rfl rfl (hpre ⟨32,.data⟩ (by cases ho;simp) rfl);subst p32;have p35:=hF.fact 35 _ _ rfl rfl (hpre ⟨35,.data⟩ (by cases ho;simp) rfl);subst p35;clear ho hpre;refine wpOp_here rfl (fun K' hK=> ?_)
     go_simp
     exact hK _ _ ⟨_,rfl,belowOne _ _,fun p hp=>by cases (show some (SevV SS T0 TS TM T1 T2 E5)=some p from hp);exact ⟨_,rfl,heap_alloc_new _ _⟩⟩
    ·obtain ⟨b6,rfl,hb6⟩:=hF.fact 36 _ _ rfl rfl (hpre ⟨36,.data⟩ (by cases ho;simp) rfl);clear ho hpre;refine wpOp_here rfl (fun K' hK=> ?_)
     go_simp
     exact hK _ _ ⟨_,rfl,Below.refl _ _,fun p hp=>by cases (show some (fun z _=>z=Value.int .i64 (7))=some p from hp);exact rfl⟩
    ·clear ho hpre;refine wpOp_here rfl (fun K' hK=> ?_)
     go_simp
     exact hK _ _ ⟨_,rfl,Below.refl _ _,fun p hp=>by cases (show some (fun z _=>z=Value.int .i64 (0))=some p from hp);exact rfl⟩
 ·intro zs wz hz hB hev
  match zs,(show zs.length=39 from hz) with
  | z0::z1::z2::z3::z4::z5::z6::z7::z8::z9::z10::z11::z12::z13::z14::z15::z16::z17::z18::z19::z20::z21::z22::z23::z24::z25::z26::z27::z28::z29::z30::z31::z32::z33::z34::z35::z36::z37::z38:: [],_=>
    obtain ⟨b6,e36,hb6⟩:=hev 36 _ _ rfl rfl;have e37:=hev 37 _ _ rfl rfl;have e38:=hev 38 _ _ rfl rfl;clear hev hz;refine A3 _ _ ?_;change Code.wp _ _ _ { tmps:=List.toArray (.agg #[.int .i64 x.h,.string ⟨x.v.toArray⟩,.int .i64 x.o,.int .i64 x.u,.slice p0 x.ns.length q0,.slice e0 x.es.length f0]::.agg #[.int .i64 x'.h,.string ⟨x'.v.toArray⟩,.int .i64 x'.o,.int .i64 x'.u,.slice p1 x'.ns.length q1,.slice e1 x'.es.length f1]::.string SS::.int .i64 base::.int .i64 at0::.string M::.pointer (some ⟨w.heap.size,0,none⟩)::.pointer (some ⟨w.heap.size+1,0,none⟩)::undef::undef::undef::undef::.bool false::.bool true::.pointer (some ⟨w2.heap.size,0,none⟩)::.string TA::.int .i64 ea::.string TA::.int .i64 ea::.string TS::.int .i64 0::.string TS::.int .i64 0::.string US::.int .i64 ((k:Nat):Int)::undef::undef::undef::undef::undef::undef::.bool true::.agg #[.int .i64 x.h,.string ⟨x.v.toArray⟩,.int .i64 x.o,.int .i64 x.u,.slice p0 x.ns.length q0,.slice e0 x.es.length f0]::.int .i64 base::.agg #[.int .i64 y.h,.string ⟨y.v.toArray⟩,.int .i64 y.o,.int .i64 y.u,.slice a2 y.ns.length c2,.slice d2 y.es.length f2]::.tuple #[.string TA,.int .i64 ea]::.agg #[.int .i64 x.h,.string ⟨x.v.toArray⟩,.int .i64 x.o,.int .i64 x.u,.slice p0 x.ns.length q0,.slice e0 x.es.length f0]::.tuple #[.string TA,.int .i64 ea]::.string TA::.int .i64 ea::.tuple #[.string TA,.int .i64 ea]::.agg #[.int .i64 x.h,.string ⟨x.v.toArray⟩,.int .i64 x.o,.int .i64 x.u,.slice p0 x.ns.length q0,.slice e0 x.es.length f0]::.tuple #[.string TA,.int .i64 ea]::.string TA::.int .i64 ea::.tuple #[.string TS,.int .i64 0]::.agg #[.int .i64 y.h,.string ⟨y.v.toArray⟩,.int .i64 y.o,.int .i64 y.u,.slice a2 y.ns.length c2,.slice d2 y.es.length f2]::.tuple #[.string TS,.int .i64 0]::.string TS::.int .i64 0::.tuple #[.string TS,.int .i64 0]::.agg #[.int .i64 y.h,.string ⟨y.v.toArray⟩,.int .i64 y.o,.int .i64 y.u,.slice a2 y.ns.length c2,.slice d2 y.es.length f2]::.tuple #[.string TS,.int .i64 0]::.string TS::.int .i64 0::.bool true::.bool false::.bool false::.string TA::.string TA::.bool false::.bool false::.bool false::.int .i64 ea::.int .i64 ea::.bool false::.bool false::.bool false::.string TS::.string TS::.bool false::.bool false::.bool false::.int .i64 0::.int .i64 0::.bool false::.bool false::.bool false::.int .i64 0::.bool false::.bool false::.bool false::.agg #[.int .i64 x.h,.string ⟨x.v.toArray⟩,.int .i64 x.o,.int .i64 x.u,.slice p0 x.ns.length q0,.slice e0 x.es.length f0]::.bool RX::.agg #[.int .i64 x.h,.string ⟨x.v.toArray⟩,.int .i64 x.o,.int .i64 x.u,.slice p0 x.ns.length q0,.slice e0 x.es.length f0]::.bool RX::.bool false::.bool false::.bool false::.agg #[.int .i64 x.h,.string ⟨x.v.toArray⟩,.int .i64 x.o,.int .i64 x.u,.slice p0 x.ns.length q0,.slice e0 x.es.length f0]::.agg #[.int .i64 x'.h,.string ⟨x'.v.toArray⟩,.int .i64 x'.o,.int .i64 x'.u,.slice p1 x'.ns.length q1,.slice e1 x'.es.length f1]::.bool SX::.agg #[.int .i64 x.h,.string ⟨x.v.toArray⟩,.int .i64 x.o,.int .i64 x.u,.slice p0 x.ns.length q0,.slice e0 x.es.length f0]::.agg #[.int .i64 x'.h,.string ⟨x'.v.toArray⟩,.int .i64 x'.o,.int .i64 x'.u,.slice p1 x'.ns.length q1,.slice e1 x'.es.length f1]::.bool SX::.bool false::.bool false::.bool false::.agg #[.int .i64 x.h,.string ⟨x.v.toArray⟩,.int .i64 x.o,.int .i64 x.u,.slice p0 x.ns.length q0,.slice e0 x.es.length f0]::.int .i64 ((BX:Nat):Int)::.agg #[.int .i64 x.h,.string ⟨x.v.toArray⟩,.int .i64 x.o,.int .i64 x.u,.slice p0 x.ns.length q0,.slice e0 x.es.length f0]::.int .i64 ((BX:Nat):Int)::.bool false::.bool false::.string TS::.string TS::.int .i64 (((n:Nat):Int)+9)::.int .i64 ((n:Nat):Int)::.string US::.int .i64 at0::.string US::.int .i64 ((n:Nat):Int)::.int .i64 (((n:Nat):Int)+1)::.int .i64 ((k:Nat):Int)::z0::z1::z2::z3::z4::z5::z6::z7::z8::z9::z10::z11::z12::z13::z14::z15::z16::z17::z18::z19::z20::z21::z22::z23::z24::z25::z26::z27::z28::z29::z30::z31::z32::z33::z34::z35::z36::z37::z38::undef::undef::undef::undef::undef::undef::undef::undef::undef::undef::undef::undef::undef::undef::undef::undef::undef::undef::undef::undef::undef::undef::undef:: []),defers:= [] } _;subst e37 e38;rw [e36];clear e36;have hW:Below w.heap.size w wz:=B7.out.trans (hB.mono B7.out.size)
    have HC:Hid (∀j,j < 7->∃T:ByteArray,wz.cell? ⟨b6,j,none⟩=some (.string T)/\T.size<=281474976710656):=fun j hj=>by
     obtain ⟨q1,q2,q3⟩:=HSB.out;have:j=0∨j=1∨j=2∨j=3∨j=4∨j=5∨j=6:=(by omega);rcases this with rfl | rfl | rfl | rfl | rfl | rfl | rfl
     ·exact ⟨SS,by simp [World.cell?,hb6],HS0.out⟩
     ·exact ⟨T0,by simp [World.cell?,hb6],HT0.out⟩
     ·exact ⟨TS,by simp [World.cell?,hb6],q1⟩
     ·exact ⟨TM,by simp [World.cell?,hb6],q2⟩
     ·exact ⟨T1,by simp [World.cell?,hb6],HT1.out⟩
     ·exact ⟨T2,by simp [World.cell?,hb6],HT2.out⟩
     ·exact ⟨E5,by simp [World.cell?,hb6],q3⟩
    have HW:=Lib.hid hW;have hlt6:=Own.block_lt hb6;have HLT:=Lib.hid hlt6;clear hb6 hB hlt6 HT0 HT1 HT2 HS0 HSB SE1 SE2 SE3 F1 A1 L1 PK hex HEX HE1 HE2 HE3 HE4 HE5 HX4 HX5 hE1 hE2 hE3 hE4 hE5 hX4 hX5 HTM hTM HMN hmn G0 G1 G2 G5 W1 hM hm hs A3 hW LA RA RL R1 R2 S1 S2 Q1 Q2 hk9 hk9' HLM HN HUS
    go_wp2_with fail
    go_loopw [152] (fun iv wr=>∃j:Nat,j<=7/\iv= .int .i64 j/\Hid (Below wz.heap.size wz wr)) (fun iv _=>7 - (intOf iv).toNat)
    case atStart=>exact ⟨0,by omega,rfl,Below.refl _ _⟩
    case round=>
     obtain ⟨j,hj,rfl,HBR⟩:=hrel
     by_cases hlt:j < 7
     ·obtain ⟨T,hcell,hT⟩:=HC.out j hlt;rw [<-HBR.out.cell (p:=⟨b6,_,none⟩) HLT.out] at hcell;have i1:(j:Int) < 7:=(by omega);have i2:IntKind.i64.wrap ((j:Int)+1)=(j:Int)+1:=wrap_in8 (by omega) (by omega);obtain ⟨L,rfl⟩:∃L:List UInt8,T=⟨L.toArray⟩:=⟨_,Se.bs_self T⟩;rw [bs_size] at hT;have T1':=Lib.hid (fun (u:World)=>Take_any L u hT);have T2':=Lib.hid (fun (u:World)=>rtake8_any L u hT);unfold TRet at T1' T2';generalize (takeS Tp.nameB L).2.getD o0=Q at *;generalize (takeS Tp.nameB L).1=eq at *;have SM:=Lib.hid (fun (u:World) (v v':Value) (h1:OAt Any u v Q) (h2:OAt Any u v' Q)=>rsame8_any Any Any v v' Q Q u h1 h2);rw [same_self] at SM;generalize (⟨L.toArray⟩:ByteArray)=LT at *;clear hT HC;have zz:(eq !=eq)=false:=by simp
      go_wp2_with (first
       | (go_at_call 16;(with_reducible refine (T1'.out _).mono ?_);rintro e5 w5' ⟨v5,rfl,hv5,hb5⟩;obtain ⟨a5,c5,d5,f5,rfl,-⟩:=hv5.open_;have P5:=Lib.hid (below_box_t (below_next_t HBR.out hb5) (.cells #[.int .i64 Q.h,.string ⟨Q.v.toArray⟩,.int .i64 Q.o,.int .i64 Q.u,.slice a5 Q.ns.length c5,.slice d5 Q.es.length f5] 25));have Q5:=Lib.hid (BX8.new hv5);clear hb5 hv5)
       | (go_at_call 17;(with_reducible refine (T2'.out _).mono ?_);rintro e7 w7' ⟨v7,rfl,hv7,hb7⟩;obtain ⟨a7,c7,d7,f7,rfl,-⟩:=hv7.open_;have P7:=Lib.hid (below_box_t (below_next_t P5.out hb7) (.cells #[.int .i64 Q.h,.string ⟨Q.v.toArray⟩,.int .i64 Q.o,.int .i64 Q.u,.slice a7 Q.ns.length c7,.slice d7 Q.es.length f7] 25));have Q7:=Lib.hid ((Q5.out.below hb7).box (.cells #[.int .i64 Q.h,.string ⟨Q.v.toArray⟩,.int .i64 Q.o,.int .i64 Q.u,.slice a7 Q.ns.length c7,.slice d7 Q.es.length f7] 25));have V7:=Lib.hid (BX8.new hv7);obtain ⟨x0,x1,x2,x3,x4,x5⟩:=six_of Q7.out.blk;obtain ⟨g0,g1,g2,g3,g4,g5⟩:=six_of V7.out.blk;clear hb7 hv7)
       | (go_at_call 11;(with_reducible refine (SM.out _ _ _ Q7.out.oat V7.out.oat).mono ?_);rintro e8 w8' ⟨rfl,hb8⟩;have P8:=Lib.hid (below_next_t P7.out hb8);clear hb8))
      go_roundw
      case rel=>exact ⟨j+1,by omega,by go_num,P8⟩
      case measure=>simp [intOf];omega
     ·have hj7:j=7:=(by omega);subst hj7
      go_wp2_with fail
      go_ret
      exact ⟨rfl,HW.out.trans (HBR.out.mono HW.out.size)⟩
end Go.Proofs.YtclghelocglnlaaGreatDoor.Od
