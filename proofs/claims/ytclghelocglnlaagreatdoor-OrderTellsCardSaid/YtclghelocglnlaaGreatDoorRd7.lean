import Derived.Test.YtclghelocglnlaaGreatDoorMR
set_option maxHeartbeats 0
set_option maxRecDepth 100000
set_option linter.all false
namespace Go.Proofs.YtclghelocglnlaaGreatDoor.Js
open Go.RowKit Lex
structure Fr (lo base br bd bres bv rb bt n:Nat) (w:World):Prop where
 hbr:w.heap[br]?=some (.cells #[.pointer (some ⟨rb,0,none⟩)] 140 (0,0))
 hbd:w.heap[bd]?=some (.cells #[.int .i64 ((16 - n:Nat):Int)] 3 (0,0))
 hres:w.heap[bres]?=some (.cells #[.int .i64 0,.int .i64 0,.int .i64 0,.string ⟨#[]⟩,.slice none 0 0,.slice none 0 0] 49 (0,0))
 low:rb < lo/\bt < lo/\lo<=br/\lo<=bd/\lo<=bres/\lo<=bv
 high:br < base/\bd < base/\bres < base/\bv < base/\base<=w.heap.size
 ne:br≠bv/\bd≠bv/\bres≠bv
def XA (base bv rb:Nat) (k:Nat):Prop:=k=rb∨k=bv∨base<=k
theorem Fr.chg {lo base br bd bres bv rb bt n:Nat} {w w':World} {X:Nat->Prop} (h:Fr lo base br bd bres bv rb bt n w) (hc:Chg X w w') (h1:¬X br) (h2:¬X bd) (h3:¬X bres):Fr lo base br bd bres bv rb bt n w':=
 ⟨(hc.block _ (Own.block_lt h.hbr) h1).trans h.hbr,(hc.block _ (Own.block_lt h.hbd) h2).trans h.hbd,(hc.block _ (Own.block_lt h.hres) h3).trans h.hres,h.low,⟨h.high.1,h.high.2.1,h.high.2.2.1,h.high.2.2.2.1,Nat.le_trans h.high.2.2.2.2 hc.size⟩,h.ne⟩
theorem Fr.chgA {lo base br bd bres bv rb bt n:Nat} {w w':World} (h:Fr lo base br bd bres bv rb bt n w) (hc:Chg (XA base bv rb) w w'):Fr lo base br bd bres bv rb bt n w':=by
 obtain ⟨a1,a2,a3,a4,a5,a6⟩:=h.low;obtain ⟨b1,b2,b3,b4,b5⟩:=h.high;obtain ⟨c1,c2,c3⟩:=h.ne;exact h.chg hc (by unfold XA;omega) (by unfold XA;omega) (by unfold XA;omega)
theorem Fr.chgR {lo base br bd bres bv rb bt n:Nat} {w w':World} (h:Fr lo base br bd bres bv rb bt n w) (hc:Chg (·=rb) w w'):Fr lo base br bd bres bv rb bt n w':=by
 obtain ⟨a1,a2,a3,a4,a5,a6⟩:=h.low;exact h.chg hc (by omega) (by omega) (by omega)
theorem Own2.chg {base bv n:Nat} {k:Int} {nv iv:Value} {ns:List (List UInt8)} {vs:List Value} {acc:List J} {w w':World} {X:Nat->Prop} (h:Own2 base bv n k nv iv ns vs acc w) (hc:Chg X w w') (h1:∀b,base<=b->¬X b) (h2:¬X bv):Own2 base bv n k nv iv ns vs acc w':=by
 have keep:∀{e:TypeId} {s n:Nat} {v:Value} {xs:List Value},w.ownsRow base e s v n xs->w'.ownsRow base e s v n xs:=fun {e s n v xs} hr=>by
  refine ⟨hr.1,?_⟩;rcases hr.2 with hn | ⟨g,cap,cur,hv,hbg,hg,hq⟩
  ·exact .inl hn
  ·exact .inr ⟨g,cap,cur,hv,hbg,(hc.block g (Own.block_lt hg) (h1 g hbg)).trans hg,hq⟩
 exact ⟨(hc.block bv (Own.block_lt h.blk) h2).trans h.blk,keep h.irow,keep h.nrow,h.vl,h.ine,h.txt,fun i hi=>(h.items i hi).keep (fun _ hb _=>hb) (fun b hb hl=>hc.block b hl (h1 b hb.1)) hc.size⟩
theorem Own2.chgR {base bv n:Nat} {k:Int} {nv iv:Value} {ns:List (List UInt8)} {vs:List Value} {acc:List J} {w w':World} {rb:Nat} (h:Own2 base bv n k nv iv ns vs acc w) (hc:Chg (·=rb) w w') (h1:rb < base) (h2:rb≠bv):Own2 base bv n k nv iv ns vs acc w':=by
 have keep:∀{e:TypeId} {s n:Nat} {v:Value} {xs:List Value},w.ownsRow base e s v n xs->w'.ownsRow base e s v n xs:=fun {e s n v xs} hr=>by
  refine ⟨hr.1,?_⟩;rcases hr.2 with hn | ⟨g,cap,cur,hv,hbg,hg,hq⟩
  ·exact .inl hn
  ·exact .inr ⟨g,cap,cur,hv,hbg,(hc.block g (Own.block_lt hg) (by omega)).trans hg,hq⟩
 exact ⟨(hc.block bv (Own.block_lt h.blk) (Ne.symm h2)).trans h.blk,keep h.irow,keep h.nrow,h.vl,h.ine,h.txt,fun i hi=>(h.items i hi).keep (fun _ hb _=>hb) (fun b hb hl=>hc.block b hl (by have:=hb.1;omega)) hc.size⟩
def Loads (bv:Nat) (k:Int) (w:World):Prop:=∃a n c a' n' c',w.heap[bv]?=some (.cells #[.int .i64 k,.int .i64 0,.int .i64 0,.string ⟨#[]⟩,.slice a n c,.slice a' n' c'] 49 (0,0))
theorem own_slice {w:World} {base e s n:Nat} {v:Value} {xs:List Value} (h:w.ownsRow base e s v n xs):∃ao c,v= .slice ao n c:=by
 rcases h.2 with ⟨rfl,hn⟩ | ⟨g,cp,cur,hv,_⟩
 ·exact ⟨none,0,by rw [hn]⟩
 ·exact ⟨_,_,hv⟩
theorem Own2.loads {base bv n:Nat} {k:Int} {nv iv:Value} {ns:List (List UInt8)} {vs:List Value} {acc:List J} {w:World} (h:Own2 base bv n k nv iv ns vs acc w):Loads bv k w:=by
 obtain ⟨ao,c,rfl⟩:=own_slice h.irow;obtain ⟨an,cn,rfl⟩:=own_slice h.nrow;exact ⟨_,_,_,_,_,_,h.blk⟩
theorem Loads.chg {bv:Nat} {k:Int} {w w':World} {X:Nat->Prop} (h:Loads bv k w) (hc:Chg X w w') (h1:¬X bv):Loads bv k w':=by
 obtain ⟨a,n,c,a',n',c',h⟩:=h;exact ⟨a,n,c,a',n',c',(hc.block bv (Own.block_lt h) h1).trans h⟩
structure ArrI (lo base br bd bres bv rb bt n:Nat) (acc:List J) (w:World):Prop where
 fr:Fr lo base br bd bres bv rb bt n w
 own:∃iv vs,Own2 base bv n 6 (.slice none 0 0) iv [] vs acc w
 bnd:acc.length<=1000000
def stepA (n:Nat) (acc:List J) (l:List Tok):Int×List J×List Tok:=((valS n l).er,acc++ [(valS n l).j],(valS n l).l)
theorem arr1_step (n:Nat) (hn:n<=15) (hv:ValOk n) (lo base br bd bres bv rb bt cap:Nat) (ts:List Tok):
 StepOk 137 #[.pointer (some ⟨br,0,none⟩),.pointer (some ⟨bd,0,none⟩),.pointer (some ⟨bv,0,none⟩)] (XA base bv rb) (ArrI lo base br bd bres bv rb bt n) (fun w=>Fr lo base br bd bres bv rb bt n w/\Loads bv 6 w) (stepA n) List.length rb bt cap ts:=by
 intro acc l w hI hR hcnt;obtain ⟨hF,⟨iv,vs,hO⟩,_⟩:=hI;have hl0:0 < l.length:=List.length_pos_iff.2 hR.fin.ne;have c1:=cell_of_one hF.hbr;have c2:=cell_of_one hF.hbd;have V:=Lib.hid (hv w rb bt cap ts l hR);rw [show ((17 - n:Nat):Int)=((16 - n:Nat):Int)+1 by omega] at V;have hd:((16 - n:Nat):Int)<=16:=by omega
 have hd0:(0:Int)<=((16 - n:Nat):Int):=by omega
 have HG:=Lib.hid (val_good n l hR.fin);have hlen:=hR.len;have HF:=Lib.hid hF;obtain ⟨a1,a2,a3,a4,a5,a6⟩:=hF.low;obtain ⟨b1,b2,b3,b4,b5⟩:=hF.high;have HO:=Lib.hid hO;clear hF hO hR;unfold stepA;simp only;generalize ((16 - n:Nat):Int)=D at c2 V hd hd0;unfold VRet at V;obtain ⟨R,HRR⟩:∃R,Hid (valS n l=R):=⟨_,rfl⟩;rw [HRR.out] at V HG⊢;obtain ⟨i0,hi0,hz0,hz1,hz2⟩:=info_parts json_info
 go_enter Tryz.func137,Tryz.ntmps137
 go_wp2_with (go_at_call 67;(with_reducible refine (V.out).mono ?_);rintro e1 w1 ⟨k,m,e',t,an,nn,cn,ai,ni,ci,rfl,hR1,hc1,hJ⟩)
 have hO1:Own2 base bv n 6 (.slice none 0 0) iv [] vs acc w1:=HO.out.chgR hc1 (by omega) (by omega);have HO1:=Lib.hid hO1;obtain ⟨ao,cap',rfl⟩:=own_slice hO1.irow;obtain ⟨y0,y1,y2,y3,y4,y5⟩:=six_of hO1.blk;have yf:=free_of hO1.blk 5;have hbl:bv < w1.heap.size:=Own.block_lt hO1.blk;have HROW:=Lib.hid hO1.irow;have HNE:=Lib.hid hO1.ine;have HC1:=Lib.hid hc1;have HJ:=Lib.hid hJ;have hs1:=hc1.size;clear hO1 c1 c2 V hc1 hJ;have hil:(acc.length:Int) < (acc.length:Int)+1:=by omega
 have cell2:Hid (∀{o1 o2:Obj} {i:Nat} {v:Value},w1.cell? ⟨bv,i,none⟩=some v->((w1.alloc o1).alloc o2).drew.cell? ⟨bv,i,none⟩=some v):=fun {o1 o2 i v} h=>by
  show ((w1.alloc o1).alloc o2).cell? _=_;exact (World.cell?_of_block (w:=w1) (a:=⟨bv,i,none⟩) ((Below.heap_alloc _ _ _ (by simp;omega)).trans (Below.heap_alloc _ _ _ hbl))).trans h
 have frozen2:Hid (∀{o1 o2:Obj} {i:Nat},w1.frozen? ⟨bv,i,none⟩=false->((w1.alloc o1).alloc o2).drew.frozen? ⟨bv,i,none⟩=false):=fun {o1 o2 i} h=>by
  show ((w1.alloc o1).alloc o2).frozen? _=_;exact (World.frozen?_of_block (w:=w1) (a:=⟨bv,i,none⟩) ((Below.heap_alloc _ _ _ (by simp;omega)).trans (Below.heap_alloc _ _ _ hbl))).trans h
 have fin:∀o1 o2 w2 g cp (z0 z1 z2 z3 z4 z5:Value),w2.ownsRow base 49 6 (.slice (some ⟨g,0,none⟩) (acc.length+1) cp) (acc.length+1) (vs.flatMap aggC++ [z0,z1,z2,z3,z4,z5])->((w1.alloc o1).alloc o2).drew.grownBy w2 (Value.slice ao acc.length cap').ownBlock->((Value.slice ao acc.length cap').ownBlock=some g∨g=w1.heap.size+2)->
  ∀W,W=(put6 w2 g (acc.length * 6) (.int .i64 k) (.int .i64 m) (.int .i64 e') (.string t) (.slice an nn cn) (.slice ai ni ci)).setCell ⟨bv,5,none⟩ (.slice (some ⟨g,0,none⟩) (acc.length+1) cp)->
  Rd W rb bt cap ts R.l/\Chg (XA base bv rb) w W/\(R.er=0->ArrI lo base br bd bres bv rb bt n (acc++ [R.j]) W)/\(Fr lo base br bd bres bv rb bt n W/\Loads bv 6 W)/\(R.er=0->R.l.length < l.length):=by
  intro o1 o2 w2 g cp z0 z1 z2 z3 z4 z5 hown hgrow hat0 W hW;have hat:(Value.slice ao acc.length cap').ownBlock=some g∨w1.heap.size<=g:=hat0.imp id (fun h=>by omega);have hBS:Below w1.heap.size w1 ((w1.alloc o1).alloc o2).drew:=(((Below.refl _ _).alloc (Nat.le_refl _) _).alloc (by simp) _).drew;have hib:∀b,(Value.slice ao acc.length cap').ownBlock=some b->base<=b/\b < w.heap.size:=fun b hb=>HO.out.irow.lt b hb
  obtain ⟨F1,F2,F3,F4,F5⟩:=step_frame (acc:=acc) (bv:=bv) (iv:= .slice ao acc.length cap') hgrow hBS hat (.int .i64 k) (.int .i64 m) (.int .i64 e') (.string t) (.slice an nn cn) (.slice ai ni ci) (.slice (some ⟨g,0,none⟩) (acc.length+1) cp);rw [<-hW] at F1 F2 F3 F4 F5;have hcW:Chg (XA base bv rb) w1 W:=⟨F3,F4,F5,F2,fun b hb hX=>F1 b hb (fun h=>hX (.inr (.inr (hib b h.symm).1))) (fun h=>hX (.inr (.inl h)))⟩;have hcw:Chg (XA base bv rb) w W:=(HC1.out.mono (fun _ _ h=> .inl h)).trans hcW;have hFW:=HF.out.chgA hcw
  have hRW:Rd W rb bt cap ts R.l:=by
   refine hR1.keep (F1 rb hR1.lt ?_ (by omega)) (F1 bt hR1.blt ?_ (by omega)) F2
   ·intro h;have:=(hib rb h.symm).1;omega
   ·intro h;have:=(hib bt h.symm).1;omega
  refine ⟨hRW,hcw,fun h0=>⟨hFW,⟨.slice (some ⟨g,0,none⟩) (acc.length+1) cp,vs++ [Value.agg #[.int .i64 k,.int .i64 m,.int .i64 e',.string t,.slice an nn cn,.slice ai ni ci]],?_⟩,by simp;omega⟩,⟨hFW,?_⟩,HG.out.2.2⟩
  ·rw [hW];exact step_own HO1.out hgrow hBS hat hown (HJ.out h0) (fun b hb _=>⟨by omega,fun h=>by have:=(hib b h.symm).2;omega,(fun h=>by simp [Value.ownBlock] at h),by omega⟩)
  ·have hb2:(put6 w2 g (acc.length * 6) (.int .i64 k) (.int .i64 m) (.int .i64 e') (.string t) (.slice an nn cn) (.slice ai ni ci)).heap[bv]?=w1.heap[bv]?:=by
    have hbg:bv≠g:=by
     rcases hat with h | h
     ·rintro rfl;exact HNE.out h
     ·omega
    rw [put6_block _ _ _ _ _ _ _ _ _ _ hbg,hgrow.block bv (by show bv < ((w1.alloc o1).alloc o2).heap.size;simp;omega) (fun h=>HNE.out h.symm)];exact (Below.heap_alloc _ _ _ (by simp;omega)).trans (Below.heap_alloc _ _ _ hbl)
   rw [hW];exact ⟨_,_,_,_,_,_,set_cell5 (hb2.trans HO1.out.blk) _⟩
 have FIN:=Lib.hid fin;clear fin HJ HC1 HG hR1
 go_region_law ((refine step_append_lies _ (by rfl) _ _ _ (by rfl) base 49 i0 _ 6 88 Tryz.underlying47 hi0 hz0 hz1 hz2 rfl (by omega) _ acc.length (vs.flatMap aggC) (by rfl) (((HROW.out.alloc _).alloc _).drew) ⟨w1.heap.size+1,0,none⟩ 1 1 [.int .i64 0,.int .i64 0,.int .i64 0,.string ⟨#[]⟩,.slice none 0 0,.slice none 0 0] (by rfl) (by rfl) (World.news_of_block (cs:=#[.int .i64 0,.int .i64 0,.int .i64 0,.string ⟨#[]⟩,.slice none 0 0,.slice none 0 0]) (t:=49) (fr:=(0,0)) (two_new _ _ _)) (by simp [Value.oneCell']) (by omega) (by unfold maxLen;omega) (by omega) (by simp;omega) (w1.heap.size+2) (by simp) ?_;intro g cp w2 hown hgrow hat hlt;obtain ⟨z0,z1,z2,z3,z4,z5⟩:=new_cells hown;have f0:=hown.frozenAt (acc.length * 6);have f1:=hown.frozenAt (acc.length * 6+1);have f2:=hown.frozenAt (acc.length * 6+2);have f3:=hown.frozenAt (acc.length * 6+3);have f4:=hown.frozenAt (acc.length * 6+4);have f5:=hown.frozenAt (acc.length * 6+5);have hbg:bv≠g:=(by rcases hat with h | h;(intro e;subst e;exact HNE.out h);omega);have k5:=(hgrow.cell_far ⟨bv,5,none⟩ (by simp;omega) (fun h=>HNE.out h.symm)).trans (cell2.out y5);have kf:=(hgrow.frozen_far ⟨bv,5,none⟩ (by simp;omega) (fun h=>HNE.out h.symm)).trans (frozen2.out yf)))
 all_goals go_wp2_with fail
 all_goals go_ret
 all_goals refine ⟨rfl,FIN.out _ _ w2 g cp _ _ _ _ _ _ hown hgrow hat _ ?_⟩
 all_goals first | (unfold put6;with_reducible rfl) | (rw [<-put6_swap _ _ _ _ _ _ _ _ _ _ _ _ hbg];unfold put6;with_reducible rfl)
end Go.Proofs.YtclghelocglnlaaGreatDoor.Js
namespace Go.Proofs.YtclghelocglnlaaGreatDoor.Js
open Go.RowKit Lex
def XO (base bv sb rb:Nat) (k:Nat):Prop:=k=rb∨k=bv∨k=sb∨base<=k
structure ObjI (lo base br bd bres bv bs sb rb bt n:Nat) (st:List (List UInt8)×List J) (w:World):Prop where
 fr:Fr lo base br bd bres bv rb bt n w
 hbs:w.heap[bs]?=some (.cells #[.map (some sb)] 162 (0,0))
 set:SetIs w sb st.1
 own:∃nv iv vs,Own2 base bv n 7 nv iv st.1 vs st.2 w
 len:st.1.length=st.2.length
 bnd:st.1.length<=1000000
 low:lo<=bs/\lo<=sb/\bs < base/\sb < base
 ne:bs≠bv/\sb≠bv/\sb≠bs/\sb≠br/\sb≠bd/\sb≠bres
def stepO (n:Nat) (st:List (List UInt8)×List J) (l:List Tok):Int×(List (List UInt8)×List J)×List Tok:=
 if (nameS st.1 l).1=0 then ((valS n (nameS st.1 l).2.2).er,(st.1++ [(nameS st.1 l).2.1],st.2++ [(valS n (nameS st.1 l).2.2).j]),(valS n (nameS st.1 l).2.2).l) else ((nameS st.1 l).1,st,(nameS st.1 l).2.2)
theorem str_info2:(Tryz.prog.info? 9).map (fun i=>(i.zero,i.size,i.bytes))=some (some (.string ⟨#[]⟩),1,16):=by kernel_rfl
theorem obj1_step (n:Nat) (hn:n<=15) (hv:ValOk n) (lo base br bd bres bv bs sb rb bt cap:Nat) (ts:List Tok):
 StepOk 138 #[.pointer (some ⟨br,0,none⟩),.pointer (some ⟨bs,0,none⟩),.pointer (some ⟨bd,0,none⟩),.pointer (some ⟨bv,0,none⟩)] (XO base bv sb rb) (ObjI lo base br bd bres bv bs sb rb bt n) (fun w=>(Fr lo base br bd bres bv rb bt n w/\Loads bv 7 w)) (stepO n) (fun st=>st.1.length) rb bt cap ts:=by
 intro st l w hI hR hcnt;obtain ⟨ns,acc⟩:=st;obtain ⟨hF,hbs,hset,⟨nv,iv,vs,hO⟩,hlen0,_,⟨l1,l2,l3,l4⟩,⟨n1,n2,n3,n4,n5,n6⟩⟩:=hI;simp only at hset hO hlen0 hcnt;have hl0:0 < l.length:=List.length_pos_iff.2 hR.fin.ne;have c1:=cell_of_one hF.hbr;have c3:=cell_of_one hbs;have hlen:=hR.len;have N:=Lib.hid (name_any hR hset (by omega));have HNG:=Lib.hid (name_good (seen:=ns) hR.fin);have HNR:=Lib.hid (fun h=>name_right (N:=1099511627776) (seen:=ns) hR.fin (fun x hx=>hR.good x (hR.suf.mem hx)) h);have HF:=Lib.hid hF;obtain ⟨a1,a2,a3,a4,a5,a6⟩:=hF.low;obtain ⟨b1,b2,b3,b4,b5⟩:=hF.high;obtain ⟨d1,d2,d3⟩:=hF.ne;have HO:=Lib.hid hO;have HBS:=Lib.hid hbs;have HSET:=Lib.hid hset;have HL0:=Lib.hid hlen0;have hns:ns.length<=1000000:=by omega
 have hac:acc.length<=1000000:=by omega
 clear hF hO hR hbs hset hlen0;unfold stepO;simp only;obtain ⟨NR,HNN⟩:∃NR,Hid (nameS ns l=NR):=⟨_,rfl⟩;rw [HNN.out] at N HNG HNR⊢;obtain ⟨E,nm,l'⟩:=NR;simp only at N HNG HNR⊢;have hxm:∀k,(k=rb∨k=sb)->XO base bv sb rb k:=fun k h=>h.elim (fun h=> .inl h) (fun h=> .inr (.inr (.inl h)))
 have HXM:=Lib.hid hxm;clear hxm
 by_cases hE:E=0
 ·subst hE;simp only [if_true,true_implies,forall_const] at N HNR⊢;obtain ⟨R,HRR⟩:∃R,Hid (valS n l'=R):=⟨_,rfl⟩;rw [HRR.out];obtain ⟨i0,hi0,hz0,hz1,hz2⟩:=info_parts json_info;obtain ⟨i1,hi1,hy0,hy1,hy2⟩:=info_parts str_info2
  go_enter Tryz.func138,Tryz.ntmps138
  go_wp2_with (go_at_call 139;(with_reducible refine (N.out).mono ?_);rintro e1 w1 ⟨rfl,hR1,hc1,hs1⟩;have c1':=(World.cell?_of_block (w:=w) (a:=⟨br,0,none⟩) (hc1.block br (Own.block_lt HF.out.hbr) (by omega))).trans c1;have c2':=(World.cell?_of_block (w:=w) (a:=⟨bd,0,none⟩) (hc1.block bd (Own.block_lt HF.out.hbd) (by omega))).trans (cell_of_one HF.out.hbd))
  have V:=hv w1 rb bt cap ts l' hR1;rw [show ((17 - n:Nat):Int)=((16 - n:Nat):Int)+1 by omega] at V;unfold VRet at V;have HG:=Lib.hid (val_good n l' hR1.fin);rw [HRR.out] at V HG;have hcX1:Chg (XO base bv sb rb) w w1:=hc1.mono (fun k _ h=>HXM.out k h);have HO1:=Lib.hid (HO.out.chg hc1 (by omega) (by omega));have HF1:=Lib.hid (HF.out.chg hc1 (by omega) (by omega) (by omega));have HBS1:Hid (w1.heap[bs]?=some (.cells #[.map (some sb)] 162 (0,0))):=(hc1.block bs (Own.block_lt HBS.out) (by omega)).trans HBS.out;have HS1:=Lib.hid hs1;have hsz1:=hc1.size;clear N c1 c3 c1' c2' hc1 hs1 HXM
  (with_reducible refine V.mono ?_)
  rintro e2 w2 ⟨k,m,e',t,an,nn,cn,ai,ni,ci,rfl,hR2,hc2,hJ⟩;have hO2:=HO1.out.chgR hc2 (by omega) (by omega);obtain ⟨ao,cap',rfl⟩:=own_slice hO2.irow;obtain ⟨ano,cap2,rfl⟩:=own_slice hO2.nrow;have hO1:=HO1.out;obtain ⟨y0,y1,y2,y3,y4,y5⟩:=six_of hO2.blk;have yf4:=free_of hO2.blk 4;have hbl:bv < w2.heap.size:=Own.block_lt hO2.blk;have HO2:=Lib.hid hO2;have hsz2:=hc2.size;have HC2:=Lib.hid hc2;have HJ:=Lib.hid hJ;clear hO1 hO2 V hc2 hJ hR1;have hib:∀b,(Value.slice ao acc.length cap').ownBlock=some b->base<=b/\b < w1.heap.size:=fun b hb=>HO1.out.irow.lt b hb
  have hnb:∀b,(Value.slice ano ns.length cap2).ownBlock=some b->base<=b/\b < w1.heap.size:=fun b hb=>HO1.out.nrow.lt b hb
  have HIB:=Lib.hid (And.intro hib hnb);have hnbv:some bv≠(Value.slice ano ns.length cap2).ownBlock:=fun h=>by have:=(hnb bv h.symm).1;omega
  have hnbi:some w2.heap.size≠(Value.slice ano ns.length cap2).ownBlock:=fun h=>by have:=(hnb _ h.symm).2;omega
  have HNB:=Lib.hid (And.intro hnbv hnbi);clear hib hnb hnbv hnbi
  go_wp2_with (at_builtin;(refine wpList_append_lies _ rfl _ _ 36 rfl base 9 i1 _ 1 16 Tryz.underlying36 hi1 hy0 hy1 hy2 rfl (by omega) _ ns.length (ns.map strW) rfl ((HO2.out.nrow.alloc _).alloc _) ⟨w2.heap.size+1,0,none⟩ 1 1 [.string ⟨nm.toArray⟩] rfl rfl (World.news_of_block (cs:=#[.string ⟨nm.toArray⟩]) (t:=9) (fr:=(0,0)) (two_new _ _ _)) (by simp [Value.oneCell']) (by omega) (by unfold maxLen;omega) (by omega) (by simp;omega) (w2.heap.size+2) (by simp) ?_);intro g cp w3 hown hgrow hat hlt;have k4:=(hgrow.cell_far ⟨bv,4,none⟩ (by simp;omega) HNB.out.1).trans ((World.cell?_of_block (w:=w2) (a:=⟨bv,4,none⟩) ((Below.heap_alloc _ _ _ (by simp;omega)).trans (Below.heap_alloc _ _ _ hbl))).trans y4);have kf:=(hgrow.frozen_far ⟨bv,4,none⟩ (by simp;omega) HNB.out.1).trans ((World.frozen?_of_block (w:=w2) (a:=⟨bv,4,none⟩) ((Below.heap_alloc _ _ _ (by simp;omega)).trans (Below.heap_alloc _ _ _ hbl))).trans yf4))
  have hBS:Below w2.heap.size w2 ((w2.alloc (.cells #[.int .i64 k,.int .i64 m,.int .i64 e',.string t,.slice an nn cn,.slice ai ni ci] 49)).alloc (.cells #[.string ⟨nm.toArray⟩] 9)):=((Below.refl _ _).alloc (Nat.le_refl _) _).alloc (by simp) _;have hO4:=step_name HO2.out (by omega) hgrow hBS (hat.imp id (fun h=>by omega)) (nm:=nm) HNR.out.2.2 hown;obtain ⟨F1,F2,F3,F4,F5⟩:=name_frame (bv:=bv) (nv:= .slice ano ns.length cap2) hgrow hBS (.slice (some ⟨g,0,none⟩) (ns.length+1) cp);have hgw:(Value.slice (some ⟨g,0,none⟩) (ns.length+1) cp).ownBlock=some g:=rfl;have hgl:base<=g:=(hown.lt g rfl).1
  have hitem:(w3.setCell ⟨bv,4,none⟩ (.slice (some ⟨g,0,none⟩) (ns.length+1) cp)).heap[w2.heap.size]?=some (.cells #[.int .i64 k,.int .i64 m,.int .i64 e',.string t,.slice an nn cn,.slice ai ni ci] 49):=by
   rw [Below.heap_setCell _ _ _ _ (by show w2.heap.size≠bv;omega),hgrow.block w2.heap.size (by simp;omega) HNB.out.2];exact two_old _ _ _
  have hgi:g≠w2.heap.size:=by
   rcases hat with h | h
   ·intro e;subst e;exact HNB.out.2 h.symm
   ·omega
  have hJ4:R.er=0->JAt (fun b=>w1.heap.size<=b/\b < w2.heap.size) (w3.setCell ⟨bv,4,none⟩ (.slice (some ⟨g,0,none⟩) (ns.length+1) cp)) n (.agg #[.int .i64 k,.int .i64 m,.int .i64 e',.string t,.slice an nn cn,.slice ai ni ci]) R.j:=fun h0=>
   (HJ.out h0).keep (fun b hb hlt=>⟨hb,hlt⟩) (fun b hb hlt=>F1 b hlt (fun h=>by have:=(HIB.out.2 b h.symm).2;omega) (by omega)) F2
  have hR4:Rd (w3.setCell ⟨bv,4,none⟩ (.slice (some ⟨g,0,none⟩) (ns.length+1) cp)) rb bt cap ts R.l:=by
   refine hR2.keep (F1 rb hR2.lt ?_ (by omega)) (F1 bt hR2.blt ?_ (by omega)) F2
   ·intro h;have:=(HIB.out.2 rb h.symm).1;omega
   ·intro h;have:=(HIB.out.2 bt h.symm).1;omega
  have hc4:Chg (XO base bv sb rb) w (w3.setCell ⟨bv,4,none⟩ (.slice (some ⟨g,0,none⟩) (ns.length+1) cp)):=by
   refine (hcX1.trans (HC2.out.mono (fun _ _ h=> .inl h))).trans ⟨F3,F4,F5,F2,fun b hb hX=>F1 b hb (fun h=>hX ?_) (fun h=>hX (.inr (.inl h)))⟩;exact .inr (.inr (.inr (HIB.out.2 b h.symm).1))
  have hS4:SetIs (w3.setCell ⟨bv,4,none⟩ (.slice (some ⟨g,0,none⟩) (ns.length+1) cp)) sb (ns++ [nm]):=by
   have hs2:=HS1.out.chg HC2.out (by omega);refine hs2.keep (F1 sb hs2.lt ?_ (by omega));intro h;have:=(HIB.out.2 sb h.symm).1;omega
  have hgat:∀b,w2.heap.size<=b->b < w2.heap.size+1->some b≠(Value.slice ao acc.length cap').ownBlock:=fun b h1 _ h=>by have:=(HIB.out.1 b h.symm).2;omega
  have HGAT:=Lib.hid hgat;have hltg:∀b,(Value.slice (some ⟨g,0,none⟩) (ns.length+1) cp).ownBlock=some b->b=g:=fun b hb=>by cases hb;rfl
  have HAT:=Lib.hid hat;have hsz4:w2.heap.size+1<=(w3.setCell ⟨bv,4,none⟩ (.slice (some ⟨g,0,none⟩) (ns.length+1) cp)).heap.size:=Own.block_lt hitem;have HX:=Lib.hid (And.intro hgl (And.intro hgi hltg));clear hgat F1 F2 F3 F4 F5 hBS hown hgrow hat hlt k4 kf y0 y1 y2 y3 y4 y5 yf4 hgw HJ hR2 hgl hgi hltg;generalize w3.setCell ⟨bv,4,none⟩ (.slice (some ⟨g,0,none⟩) (ns.length+1) cp)=w4 at *;obtain ⟨y0,y1,y2,y3,y4,y5⟩:=six_of hO4.blk;have yf:=free_of hO4.blk 5;have hbl4:bv < w4.heap.size:=Own.block_lt hO4.blk;obtain ⟨x0,x1,x2,x3,x4,x5⟩:=six_of hitem;have hil4:w2.heap.size < w4.heap.size:=Own.block_lt hitem;have HROW:=Lib.hid hO4.irow;have HNE:=Lib.hid hO4.ine;have HO4:=Lib.hid hO4;have hil:(acc.length:Int) < (acc.length:Int)+1:=by omega
  have cell2:Hid (∀{o2:Obj} {i:Nat} {v:Value},w4.cell? ⟨bv,i,none⟩=some v->(w4.alloc o2).drew.cell? ⟨bv,i,none⟩=some v):=fun {o2 i v} h=>by
   show (w4.alloc o2).cell? _=_;exact (World.cell?_of_block (w:=w4) (a:=⟨bv,i,none⟩) (Below.heap_alloc _ _ _ hbl4)).trans h
  have frozen2:Hid (∀{o2:Obj} {i:Nat},w4.frozen? ⟨bv,i,none⟩=false->(w4.alloc o2).drew.frozen? ⟨bv,i,none⟩=false):=fun {o2 i} h=>by
   show (w4.alloc o2).frozen? _=_;exact (World.frozen?_of_block (w:=w4) (a:=⟨bv,i,none⟩) (Below.heap_alloc _ _ _ hbl4)).trans h
  have fin:∀o2 w5 g2 cp2 (z0 z1 z2 z3 z4 z5:Value),w5.ownsRow base 49 6 (.slice (some ⟨g2,0,none⟩) (acc.length+1) cp2) (acc.length+1) (vs.flatMap aggC++ [z0,z1,z2,z3,z4,z5])->(w4.alloc o2).drew.grownBy w5 (Value.slice ao acc.length cap').ownBlock->((Value.slice ao acc.length cap').ownBlock=some g2∨g2=w4.heap.size+1)->
   ∀W,W=(put6 w5 g2 (acc.length * 6) (.int .i64 k) (.int .i64 m) (.int .i64 e') (.string t) (.slice an nn cn) (.slice ai ni ci)).setCell ⟨bv,5,none⟩ (.slice (some ⟨g2,0,none⟩) (acc.length+1) cp2)->
   Rd W rb bt cap ts R.l/\Chg (XO base bv sb rb) w W/\(R.er=0->ObjI lo base br bd bres bv bs sb rb bt n (ns++ [nm],acc++ [R.j]) W)/\(Fr lo base br bd bres bv rb bt n W/\Loads bv 7 W)/\(R.er=0->R.l.length < l.length):=by
   intro o2 w5 g2 cp2 z0 z1 z2 z3 z4 z5 hown hgrow hat0 W hW;have hat:(Value.slice ao acc.length cap').ownBlock=some g2∨w4.heap.size<=g2:=hat0.imp id (fun h=>by omega);have hBS:Below w4.heap.size w4 (w4.alloc o2).drew:=((Below.refl _ _).alloc (Nat.le_refl _) _).drew;obtain ⟨F1,F2,F3,F4,F5⟩:=step_frame (acc:=acc) (bv:=bv) (iv:= .slice ao acc.length cap') hgrow hBS hat (.int .i64 k) (.int .i64 m) (.int .i64 e') (.string t) (.slice an nn cn) (.slice ai ni ci) (.slice (some ⟨g2,0,none⟩) (acc.length+1) cp2);rw [<-hW] at F1 F2 F3 F4 F5;have hib:=HIB.out.1;have hcW:Chg (XO base bv sb rb) w4 W:=⟨F3,F4,F5,F2,fun b hb hX=>F1 b hb (fun h=>hX (.inr (.inr (.inr (hib b h.symm).1)))) (fun h=>hX (.inr (.inl h)))⟩;have hcw:Chg (XO base bv sb rb) w W:=hc4.trans hcW;have hFW:=HF.out.chg hcw (by unfold XO;omega) (by unfold XO;omega) (by unfold XO;omega)
   have hRW:Rd W rb bt cap ts R.l:=by
    refine hR4.keep (F1 rb hR4.lt ?_ (by omega)) (F1 bt hR4.blt ?_ (by omega)) F2
    ·intro h;have:=(hib rb h.symm).1;omega
    ·intro h;have:=(hib bt h.symm).1;omega
   have hll:R.er=0->R.l.length < l.length:=fun h0=>by
    have q1:=HG.out.2.2 h0;have q2:=HNG.out.2.length_le
    omega
   refine ⟨hRW,hcw,fun h0=>⟨hFW,?_,?_,⟨.slice (some ⟨g,0,none⟩) (ns.length+1) cp,.slice (some ⟨g2,0,none⟩) (acc.length+1) cp2,vs++ [Value.agg #[.int .i64 k,.int .i64 m,.int .i64 e',.string t,.slice an nn cn,.slice ai ni ci]],?_⟩,by simp [HL0.out],by simp;omega,⟨l1,l2,l3,l4⟩,⟨n1,n2,n3,n4,n5,n6⟩⟩,⟨hFW,?_⟩,hll⟩
   ·have q1:w4.heap[bs]?=some (.cells #[.map (some sb)] 162 (0,0)):=(hc4.block bs (Own.block_lt HBS.out) (by unfold XO;omega)).trans HBS.out;rw [F1 bs (Own.block_lt q1) (fun h=>by have:=(hib bs h.symm).1;omega) (by omega)];exact q1
   ·exact hS4.keep (F1 sb hS4.lt (fun h=>by have:=(hib sb h.symm).1;omega) (by omega))
   ·rw [hW];refine step_own HO4.out hgrow hBS hat hown (hJ4 h0) (fun b hb _=>⟨by omega,fun h=>by have:=(hib b h.symm).2;omega,fun h=> ?_,by omega⟩);have hbg:=HX.out.2.2 b h.symm;rcases HAT.out with h' | h'
    ·have:=(HIB.out.2 g h').2;omega
    ·omega
   ·have hb2:(put6 w5 g2 (acc.length * 6) (.int .i64 k) (.int .i64 m) (.int .i64 e') (.string t) (.slice an nn cn) (.slice ai ni ci)).heap[bv]?=w4.heap[bv]?:=by
     have hbg:bv≠g2:=by
      rcases hat with h | h
      ·rintro rfl;exact HNE.out h
      ·omega
     rw [put6_block _ _ _ _ _ _ _ _ _ _ hbg,hgrow.block bv (by show bv < (w4.alloc o2).heap.size;simp;omega) (fun h=>HNE.out h.symm)];exact Below.heap_alloc _ _ _ hbl4
    rw [hW];exact ⟨_,_,_,_,_,_,set_cell5 (hb2.trans HO4.out.blk) _⟩
  have FIN:=Lib.hid fin;clear fin hR4 hc4 hS4 hJ4 hO4 hitem HX
  go_region_law ((refine step_append_lies _ (by rfl) _ _ _ (by rfl) base 49 i0 _ 6 88 Tryz.underlying47 hi0 hz0 hz1 hz2 rfl (by omega) _ acc.length (vs.flatMap aggC) (by rfl) ((HROW.out.alloc _).drew) ⟨w4.heap.size,0,none⟩ 1 1 [.int .i64 0,.int .i64 0,.int .i64 0,.string ⟨#[]⟩,.slice none 0 0,.slice none 0 0] (by rfl) (by rfl) (World.news_of_block (cs:=#[.int .i64 0,.int .i64 0,.int .i64 0,.string ⟨#[]⟩,.slice none 0 0,.slice none 0 0]) (t:=49) (fr:=(0,0)) (heap_alloc_new _ _)) (by simp [Value.oneCell']) (by omega) (by unfold maxLen;omega) (by omega) (by simp;omega) (w4.heap.size+1) (by simp) ?_;intro g2 cp2 w5 hown hgrow hat hlt;obtain ⟨z0,z1,z2,z3,z4,z5⟩:=new_cells hown;have f0:=hown.frozenAt (acc.length * 6);have f1:=hown.frozenAt (acc.length * 6+1);have f2:=hown.frozenAt (acc.length * 6+2);have f3:=hown.frozenAt (acc.length * 6+3);have f4:=hown.frozenAt (acc.length * 6+4);have f5:=hown.frozenAt (acc.length * 6+5);have hbg:bv≠g2:=(by rcases hat with h | h;(intro e;subst e;exact HNE.out h);omega);have k5:=(hgrow.cell_far ⟨bv,5,none⟩ (by simp;omega) (fun h=>HNE.out h.symm)).trans (cell2.out y5);have kf:=(hgrow.frozen_far ⟨bv,5,none⟩ (by simp;omega) (fun h=>HNE.out h.symm)).trans (frozen2.out yf)))
  all_goals go_wp2_with fail
  all_goals go_ret
  all_goals refine ⟨rfl,FIN.out _ w5 g2 cp2 _ _ _ _ _ _ hown hgrow hat _ ?_⟩
  all_goals first | (unfold put6;with_reducible rfl) | (rw [<-put6_swap _ _ _ _ _ _ _ _ _ _ _ _ hbg];unfold put6;with_reducible rfl)
 ·have hne:(E !=0)=true:=by simpa using hE
  rw [if_neg hE];simp only
  go_enter Tryz.func138,Tryz.ntmps138
  go_wp2_with (go_at_call 139;(with_reducible refine (N.out).mono ?_);rintro e1 w1 ⟨rfl,hR1,hc1,hs1⟩)
  go_ret
  have hcX:Chg (XO base bv sb rb) w w1:=hc1.mono (fun k _ h=>HXM.out k h);refine ⟨rfl,hR1,hcX,fun h=>absurd h hE,⟨HF.out.chg hc1 (by omega) (by omega) (by omega),(HO.out.loads).chg hc1 (by omega)⟩,fun h=>absurd h hE⟩
end Go.Proofs.YtclghelocglnlaaGreatDoor.Js
namespace Go.Proofs.YtclghelocglnlaaGreatDoor.Js
open Go.RowKit Lex
theorem arr_until (n:Nat):∀(fuel:Nat) (acc:List J) (l:List Tok),arrL (valS n) fuel acc l=⟨(untilS (stepA n) 93 fuel acc l).1,if (untilS (stepA n) 93 fuel acc l).1=0 then .mk 6 0 0 [] [] (untilS (stepA n) 93 fuel acc l).2.1 else j0,(untilS (stepA n) 93 fuel acc l).2.2⟩
 | 0,acc,l=>rfl
 | fuel+1,acc,l=>by
   rw [arrL,untilS];have e1:(stepA n acc l).1=(valS n l).er:=rfl;have e2:(stepA n acc l).2.1=acc++ [(valS n l).j]:=rfl;have e3:(stepA n acc l).2.2=(valS n l).l:=rfl
   by_cases h:(valS n l).er=0
   ·rw [if_pos h,if_pos (e1.trans h),e2,e3];generalize (valS n l).l=q
    cases q with
    | nil=>rfl
    | cons y l'=>
      simp only [moreS]
      by_cases h1:sgB y 93=true
      ·rw [if_pos h1,if_pos h1];rfl
      ·rw [if_neg h1,if_neg h1]
       by_cases h2:sgB y 44=true
       ·rw [if_pos h2,if_pos h2];exact arr_until n fuel _ l'
       ·rw [if_neg h2,if_neg h2];rfl
   ·rw [if_neg h,if_neg (by rw [e1];exact h),e1,if_neg h,e3]
theorem obj_until (n:Nat):∀(fuel:Nat) (ns:List (List UInt8)) (acc:List J) (l:List Tok),objL (valS n) fuel ns acc l=⟨(untilS (stepO n) 125 fuel (ns,acc) l).1,if (untilS (stepO n) 125 fuel (ns,acc) l).1=0 then .mk 7 0 0 [] (untilS (stepO n) 125 fuel (ns,acc) l).2.1.1 (untilS (stepO n) 125 fuel (ns,acc) l).2.1.2 else j0,(untilS (stepO n) 125 fuel (ns,acc) l).2.2⟩
 | 0,ns,acc,l=>rfl
 | fuel+1,ns,acc,l=>by
   rw [objL,untilS]
   by_cases h0:(nameS ns l).1=0
   ·have es:stepO n (ns,acc) l=((valS n (nameS ns l).2.2).er,(ns++ [(nameS ns l).2.1],acc++ [(valS n (nameS ns l).2.2).j]),(valS n (nameS ns l).2.2).l):=(by unfold stepO;rw [if_pos h0]);rw [if_pos h0,es];simp only
    by_cases h:(valS n (nameS ns l).2.2).er=0
    ·rw [if_pos h,if_pos h];generalize (valS n (nameS ns l).2.2).l=q
     cases q with
     | nil=>rfl
     | cons y l'=>
       simp only [moreS]
       by_cases h1:sgB y 125=true
       ·rw [if_pos h1,if_pos h1];rfl
       ·rw [if_neg h1,if_neg h1]
        by_cases h2:sgB y 44=true
        ·rw [if_pos h2,if_pos h2];exact obj_until n fuel _ _ l'
        ·rw [if_neg h2,if_neg h2];rfl
    ·rw [if_neg h,if_neg h,if_neg h]
   ·have es:stepO n (ns,acc) l=((nameS ns l).1,(ns,acc),(nameS ns l).2.2):=(by unfold stepO;rw [if_neg h0]);rw [if_neg h0,es];simp only;rw [if_neg h0,if_neg h0]
theorem flat6_get {vs:List Value} (h6:∀v∈vs,(aggC v).length=6):∀(j i:Nat),j < vs.length->i < 6->(vs.flatMap aggC)[j * 6+i]?=(aggC (vs.getD j undef))[i]?:=by
 induction vs with
 | nil=>intro j i hj;simp at hj
 | cons x l ih=>
   intro j i hj hi;have hx:=h6 x (by simp);rw [List.flatMap_cons]
   cases j with
   | zero=>rw [List.getElem?_append_left (by omega)];simp
   | succ j=>
     rw [List.getElem?_append_right (by rw [hx];omega),hx,show (j+1) * 6+i - 6=j * 6+i by omega,ih (fun v hv=>h6 v (by simp [hv])) j i (by simpa using hj) hi];simp
theorem Own2.jat {base bv n:Nat} {k:Int} {nv iv:Value} {ns:List (List UInt8)} {vs:List Value} {acc:List J} {w:World} (h:Own2 base bv n k nv iv ns vs acc w) (hk:i64B k) (hn:ns.length<=1000000) (ha:acc.length<=1000000):
 JAt (fun b=>base<=b) w (n+1) (.agg #[.int .i64 k,.int .i64 0,.int .i64 0,.string ⟨#[]⟩,nv,iv]) (.mk k 0 0 [] ns acc):=by
 have hz:i64B 0:=⟨by decide,by decide⟩
 have hmem:∀v∈vs,∃i,i < acc.length/\v=vs.getD i undef:=fun v hv=>by
  obtain ⟨i,hi,rfl⟩:=List.mem_iff_getElem.1 hv;exact ⟨i,by rw [<-h.vl];exact hi,by rw [List.getD_eq_getElem?_getD,List.getElem?_eq_getElem hi];rfl⟩
 have h6:∀v∈vs,(aggC v).length=6:=fun v hv=>by
  obtain ⟨i,hi,rfl⟩:=hmem v hv;obtain ⟨_,_,_,_,_,_,_,_,_,_,e⟩:=jAt_form (h.items i hi);rw [e];rfl
 have hst:StrsAt (fun b=>base<=b) w nv ns:=by
  obtain ⟨an,cn,rfl⟩:=own_slice h.nrow;rcases h.nrow.2 with ⟨e,h0⟩ | ⟨g,cap,cur,hv,hbg,hg,hnc,hcm,hcs,htake⟩
  ·exact ⟨an,cn,rfl,by omega,by omega,h.txt,fun hp=>by omega⟩
  ·cases hv
   refine ⟨_,_,rfl,hnc,by omega,h.txt,fun _=>⟨g,0,rfl,hbg,Own.block_lt hg,fun j hj=> ?_⟩⟩;rw [Nat.zero_add];have:=h.nrow.cellAt j (by omega);rw [this,List.getElem?_map,List.getElem?_eq_getElem hj,List.getD_eq_getElem?_getD,List.getElem?_eq_getElem hj]
   rfl
 obtain ⟨ao,ci,rfl⟩:=own_slice h.irow;refine ⟨nv,ao,ci,rfl,hk,hz,hz,by unfold txtB;simp,hst,?_,by omega,fun hp=> ?_⟩
 ·rcases h.irow.2 with ⟨e,h0⟩ | ⟨g,cap,cur,hv,hbg,hg,hnc,_⟩
  ·omega
  ·cases hv;exact hnc
 ·rcases h.irow.2 with ⟨e,h0⟩ | ⟨g,cap,cur,hv,hbg,hg,hnc,_⟩
  ·omega
  ·cases hv
   refine ⟨g,0,rfl,hbg,Own.block_lt hg,fun i hi=>⟨vs.getD i undef,fun q c hc=> ?_,(h.items i hi).keep (fun b hb _=>hb.1) (fun _ _ _=>rfl) (Nat.le_refl _)⟩⟩;have hi2:i < vs.length:=by rw [h.vl];exact hi
   have hq:q < 6:=by
    have:=(List.getElem?_eq_some_iff.1 hc).1;rw [h6 _ (by rw [List.getD_eq_getElem?_getD,List.getElem?_eq_getElem hi2];exact List.getElem_mem _)] at this;exact this
   rw [Nat.zero_add,h.irow.cellAt (i * 6+q) (by omega),flat6_get h6 i q hi2 hq,hc]
theorem vret_fin {w W0 w1:World} {rb bt cap bres base n:Nat} {ts:List Tok} {RR:R} {X:Nat->Prop} {k m e:Int} {t:ByteArray} {a a':Option Addr} {nn c nn' c':Nat} {E:Int}
 (hB:Below w.heap.size w W0) (hX:∀b,b < w.heap.size->X b->b=rb) (hc:Chg X W0 w1) (hR:Rd w1 rb bt cap ts RR.l) (h1:w.heap.size<=bres) (h2:bres < base) (h3:rb < w.heap.size) (h4:bt < w.heap.size) (hE:RR.er=E) (h5:w.heap.size<=base)
 (hJ:E=0->JAt (fun b=>base<=b) w1 n (.agg #[.int .i64 k,.int .i64 m,.int .i64 e,.string t,.slice a nn c,.slice a' nn' c']) RR.j) (c0 c1 c2 c3 c4 c5:Value):
 VRet w rb bt cap ts n RR (.returned (.tuple #[.agg #[.int .i64 k,.int .i64 m,.int .i64 e,.string t,.slice a nn c,.slice a' nn' c'],.int .i64 E])) (put6 w1 bres 0 c0 c1 c2 c3 c4 c5):=by
 have hsz:=put6_size w1 bres 0 c0 c1 c2 c3 c4 c5;have hbl:=fun b h=>put6_block w1 bres 0 c0 c1 c2 c3 c4 c5 b h
 obtain ⟨p1,p2,p3⟩:=put6_os w1 bres 0 c0 c1 c2 c3 c4 c5;have s1:=hc.size;have s2:=hB.size;refine ⟨k,m,e,t,a,nn,c,a',nn',c',by rw [hE],hR.keep (hbl rb (by omega)) (hbl bt (by omega)) (by omega),⟨(p1.trans hc.os).trans hB.os,(p2.trans hc.tape).trans hB.tape,(p3.trans hc.output).trans hB.output,by omega,fun b hb hx=> ?_⟩,fun h0=> ?_⟩
 ·rw [hbl b (by omega),hc.block b (by omega) (fun h=>hx (hX b hb h)),hB.block b hb]
 ·exact (hJ (by rw [<-hE];exact h0)).keep (fun b hb _=>by omega) (fun b hb _=>hbl b (by omega)) (by omega)
theorem alloc4 (w:World) (o1 o2 o3 o4:Obj):((((w.alloc o1).alloc o2).alloc o3).alloc o4).heap[w.heap.size]?=some o1/\((((w.alloc o1).alloc o2).alloc o3).alloc o4).heap[w.heap.size+1]?=some o2/\
 ((((w.alloc o1).alloc o2).alloc o3).alloc o4).heap[w.heap.size+2]?=some o3/\((((w.alloc o1).alloc o2).alloc o3).alloc o4).heap[w.heap.size+3]?=some o4/\((((w.alloc o1).alloc o2).alloc o3).alloc o4).heap.size=w.heap.size+4:=by
 have n2:((w.alloc o1).alloc o2).heap[w.heap.size+1]?=some o2:=by simpa using heap_alloc_new (w.alloc o1) o2
 have n3:(((w.alloc o1).alloc o2).alloc o3).heap[w.heap.size+2]?=some o3:=by simpa using heap_alloc_new ((w.alloc o1).alloc o2) o3
 have n4:((((w.alloc o1).alloc o2).alloc o3).alloc o4).heap[w.heap.size+3]?=some o4:=by simpa using heap_alloc_new (((w.alloc o1).alloc o2).alloc o3) o4
 refine ⟨?_,?_,?_,n4,by simp⟩
 ·rw [Below.heap_alloc _ _ _ (by simp <;> omega),Below.heap_alloc _ _ _ (by simp <;> omega),Below.heap_alloc _ _ _ (by simp)];exact heap_alloc_new w o1
 ·rw [Below.heap_alloc _ _ _ (by simp <;> omega),Below.heap_alloc _ _ _ (by simp)];exact n2
 ·rw [Below.heap_alloc _ _ _ (by simp)];exact n3
def zero6:Array Value:=#[.int .i64 0,.int .i64 0,.int .i64 0,.string ⟨#[]⟩,.slice none 0 0,.slice none 0 0]
theorem own2_new {w:World} {base bv n:Nat} {k:Int} (h:w.heap[bv]?=some (.cells #[.int .i64 k,.int .i64 0,.int .i64 0,.string ⟨#[]⟩,.slice none 0 0,.slice none 0 0] 49 (0,0))):Own2 base bv n k (.slice none 0 0) (.slice none 0 0) [] [] [] w:=
 ⟨h,World.ownsRow_nil _ _ _ _,World.ownsRow_nil _ _ _ _,rfl,by simp [Value.ownBlock],fun x hx=>by simp at hx,fun i hi=>by simp at hi⟩
theorem ArrI.chgR {lo base br bd bres bv rb bt n:Nat} {acc:List J} {w w':World} (h:ArrI lo base br bd bres bv rb bt n acc w) (hc:Chg (·=rb) w w'):ArrI lo base br bd bres bv rb bt n acc w':=by
 obtain ⟨hF,⟨iv,vs,hO⟩,hb⟩:=h;obtain ⟨a1,a2,a3,a4,a5,a6⟩:=hF.low;obtain ⟨b1,b2,b3,b4,b5⟩:=hF.high;exact ⟨hF.chgR hc,⟨iv,vs,hO.chgR hc (by omega) (by omega)⟩,hb⟩
theorem array_any (n:Nat) (hn:n<=15) (hv:ValOk n) (w:World) (rb bt cap:Nat) (ts l:List Tok) (hR:Rd w rb bt cap ts l):
 Calls Tryz.prog 98 #[.pointer (some ⟨rb,0,none⟩),.int .i64 ((16 - n:Nat):Int)] w (VRet w rb bt cap ts (n+1) (arrS (valS n) l)):=by
 obtain ⟨x,l1,rfl⟩:=ex_cons hR.fin;obtain ⟨e1,e2,e3,e4,e5⟩:=alloc4 w (.cells #[.pointer (some ⟨rb,0,none⟩)] 140 (0,0)) (.cells #[.int .i64 ((16 - n:Nat):Int)] 3 (0,0)) (.cells zero6 49 (0,0)) (.cells #[.int .i64 6,.int .i64 0,.int .i64 0,.string ⟨#[]⟩,.slice none 0 0,.slice none 0 0] 49 (0,0));have hmf:∀(fn:Fn) (first cap:Array Value) (w:World),(Instr.makeFunc fn first cap).run Tryz.prog w= .ok (.func fn first cap) w:=fun _ _ _ _=>rfl
 have hbel:∀o1 o2 o3 o4,Below w.heap.size w ((((w.alloc o1).alloc o2).alloc o3).alloc o4):=fun o1 o2 o3 o4=>((((Below.refl _ _).alloc (Nat.le_refl _) _).alloc (by simp) _).alloc (by simp;omega) _).alloc (by simp;omega) _
 have HBEL:=Lib.hid hbel;have hrl:=hR.lt;have htl:=hR.blt;have HR:=Lib.hid hR
 have hF0:Fr w.heap.size (w.heap.size+4) w.heap.size (w.heap.size+1) (w.heap.size+2) (w.heap.size+3) rb bt n ((((w.alloc (.cells #[.pointer (some ⟨rb,0,none⟩)] 140 (0,0))).alloc (.cells #[.int .i64 ((16 - n:Nat):Int)] 3 (0,0))).alloc (.cells zero6 49 (0,0))).alloc (.cells #[.int .i64 6,.int .i64 0,.int .i64 0,.string ⟨#[]⟩,.slice none 0 0,.slice none 0 0] 49 (0,0))):=
  ⟨e1,e2,e3,⟨hrl,htl,by omega,by omega,by omega,by omega⟩,⟨by omega,by omega,by omega,by omega,by omega⟩,⟨by omega,by omega,by omega⟩⟩
 have hI0:ArrI w.heap.size (w.heap.size+4) w.heap.size (w.heap.size+1) (w.heap.size+2) (w.heap.size+3) rb bt n [] _:=⟨hF0,⟨_,_,own2_new e4⟩,by simp⟩;have HI0:=Lib.hid hI0;have hlen:0+(x::l1).length<=ts.length:=by have:=hR.suf.length_le;omega
 have U:=Lib.hid (until_arr (σ:=List J) #[.pointer (some ⟨w.heap.size,0,none⟩),.pointer (some ⟨w.heap.size+1,0,none⟩),.pointer (some ⟨w.heap.size+3,0,none⟩)] (XA (w.heap.size+4) (w.heap.size+3) rb) (ArrI w.heap.size (w.heap.size+4) w.heap.size (w.heap.size+1) (w.heap.size+2) (w.heap.size+3) rb bt n)
  (fun w'=>Fr w.heap.size (w.heap.size+4) w.heap.size (w.heap.size+1) (w.heap.size+2) (w.heap.size+3) rb bt n w'/\Loads (w.heap.size+3) 6 w') (stepA n) List.length (fun st l=>by simp [stepA]) rb bt cap ts 93 ⟨#[93]⟩ rfl (.inl rfl)
  (arr1_step n hn hv _ _ _ _ _ _ rb bt cap ts) (fun st w w' h hc=>h.chgR hc) (fun w1 w2 h hc=>⟨h.1.chgR hc,h.2.chg hc (by omega)⟩) (fun st w h=>⟨h.fr,by obtain ⟨iv,vs,hO⟩:=h.own;exact hO.loads⟩)
  [] x l1 _ HI0.out (hR.below (HBEL.out _ _ _ _)) hlen)
 have HRES:Hid (arrS (valS n) (x::l1)=⟨(if sgB x 93=true then (0,[],l1) else untilS (stepA n) 93 (x::l1).length [] (x::l1)).1,if (if sgB x 93=true then ((0:Int),([]:List J),l1) else untilS (stepA n) 93 (x::l1).length [] (x::l1)).1=0 then .mk 6 0 0 [] [] (if sgB x 93=true then (0,[],l1) else untilS (stepA n) 93 (x::l1).length [] (x::l1)).2.1 else j0,(if sgB x 93=true then (0,[],l1) else untilS (stepA n) 93 (x::l1).length [] (x::l1)).2.2⟩):=by
  show _=_;unfold arrS
  dsimp only
  by_cases h:sgB x 93=true
  ·simp [h]
  ·simp only [if_neg h];exact arr_until n _ _ _
 obtain ⟨RR,HRR⟩:∃RR,Hid (arrS (valS n) (x::l1)=RR):=⟨_,rfl⟩;have HRQ:=Lib.hid (HRR.out.symm.trans HRES.out);rw [HRR.out];clear HRES HRR hR hI0 hF0 hbel hlen e1 e2 e3 e4 e5;simp only at U;generalize (if sgB x 93=true then ((0:Int),([]:List J),l1) else untilS (stepA n) 93 (x::l1).length [] (x::l1))=Q at *;obtain ⟨E,acc,l2⟩:=Q;simp only at U HRQ;unfold zero6 at U;generalize ((16 - n:Nat):Int)=D at *
 go_enter Tryz.func98,Tryz.ntmps98
 go_wp2_with (go_at_call 136;(with_reducible refine (U.out).mono ?_);rintro e1 w1 ⟨rfl,hR1,hc1,hI1,hF1,hL1⟩;have HI1:=Lib.hid hI1;clear hI1;obtain ⟨a,nn,c,a',nn',c',hL⟩:=hL1;obtain ⟨y0,y1,y2,y3,y4,y5⟩:=six_of hL;obtain ⟨z0,z1,z2,z3,z4,z5⟩:=six_of hF1.hres;have f0:=free_of hF1.hres 0;have f1:=free_of hF1.hres 1;have f2:=free_of hF1.hres 2;have f3:=free_of hF1.hres 3;have f4:=free_of hF1.hres 4;have f5:=free_of hF1.hres 5)
 refine bodyPost_ret (v:= .tuple #[.agg #[.int .i64 6,.int .i64 0,.int .i64 0,.string ⟨#[]⟩,.slice a nn c,.slice a' nn' c'],.int .i64 E]) (by simp [results,Tryz.results98,go_sem,z0,z1,z2,z3,z4,z5]) rfl ?_;have hER:RR.er=E:=by rw [HRQ.out]
 have hlR:l2=RR.l:=by rw [HRQ.out]
 rw [hlR] at hR1
 have hJ:E=0->JAt (fun b=>w.heap.size+4<=b) w1 (n+1) (.agg #[.int .i64 6,.int .i64 0,.int .i64 0,.string ⟨#[]⟩,.slice a nn c,.slice a' nn' c']) RR.j:=fun h0=>by
  obtain ⟨_,⟨iv,vs,hO⟩,hbn⟩:=HI1.out h0;have:=hO.jat ⟨by decide,by decide⟩ (by simp) hbn;have hb:=hO.blk;rw [hL] at hb;simp only [Option.some.injEq,Obj.cells.injEq,and_true,Array.mk.injEq,List.cons.injEq,true_and] at hb;obtain ⟨e1,e2⟩:=hb;rw [<-e2,<-e1] at this;rw [HRQ.out,if_pos h0];exact this
 exact vret_fin (bres:=w.heap.size+2) (HBEL.out _ _ _ _) (fun b hb hx=>by unfold XA at hx;omega) hc1 hR1 (by omega) (by omega) hrl htl hER (by omega) hJ _ _ _ _ _ _
end Go.Proofs.YtclghelocglnlaaGreatDoor.Js
