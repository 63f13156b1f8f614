import Derived.Test.YtclghelocglnlaaGreatDoorRd7
set_option maxHeartbeats 0
set_option maxRecDepth 100000
set_option linter.all false
namespace Go.Proofs.YtclghelocglnlaaGreatDoor.Js
open Go.RowKit Lex
theorem alloc6 (w:World) (o1 o2 o3 o4 o5 o6:Obj):((((((w.alloc o1).alloc o2).alloc o3).alloc o4).alloc o5).alloc o6).heap[w.heap.size]?=some o1/\((((((w.alloc o1).alloc o2).alloc o3).alloc o4).alloc o5).alloc o6).heap[w.heap.size+1]?=some o2/\
 ((((((w.alloc o1).alloc o2).alloc o3).alloc o4).alloc o5).alloc o6).heap[w.heap.size+2]?=some o3/\((((((w.alloc o1).alloc o2).alloc o3).alloc o4).alloc o5).alloc o6).heap[w.heap.size+3]?=some o4/\
 ((((((w.alloc o1).alloc o2).alloc o3).alloc o4).alloc o5).alloc o6).heap[w.heap.size+4]?=some o5/\((((((w.alloc o1).alloc o2).alloc o3).alloc o4).alloc o5).alloc o6).heap[w.heap.size+5]?=some o6/\((((((w.alloc o1).alloc o2).alloc o3).alloc o4).alloc o5).alloc o6).heap.size=w.heap.size+6:=by
 obtain ⟨e1,e2,e3,e4,e5⟩:=alloc4 w o1 o2 o3 o4;generalize (((w.alloc o1).alloc o2).alloc o3).alloc o4=W at *;have n5:(W.alloc o5).heap[w.heap.size+4]?=some o5:=by rw [<-e5];exact heap_alloc_new W o5
 have n6:((W.alloc o5).alloc o6).heap[w.heap.size+5]?=some o6:=by
  have:=heap_alloc_new (W.alloc o5) o6
  rwa [show (W.alloc o5).heap.size=w.heap.size+5 by simp;omega] at this
 have old:∀b,b < W.heap.size->((W.alloc o5).alloc o6).heap[b]?=W.heap[b]?:=fun b hb=>(Below.heap_alloc _ _ _ (by simp;omega)).trans (Below.heap_alloc _ _ _ hb)
 refine ⟨?_,?_,?_,?_,?_,n6,by simp;omega⟩
 ·rw [old _ (by omega)];exact e1
 ·rw [old _ (by omega)];exact e2
 ·rw [old _ (by omega)];exact e3
 ·rw [old _ (by omega)];exact e4
 ·rw [Below.heap_alloc _ _ _ (by simp;omega)];exact n5
theorem ObjI.chgR {lo base br bd bres bv bs sb rb bt n:Nat} {st:List (List UInt8)×List J} {w w':World} (h:ObjI lo base br bd bres bv bs sb rb bt n st w) (hc:Chg (·=rb) w w'):ObjI lo base br bd bres bv bs sb rb bt n st w':=by
 obtain ⟨hF,hbs,hset,⟨nv,iv,vs,hO⟩,hlen,hb,⟨l1,l2,l3,l4⟩,hne⟩:=h;obtain ⟨a1,a2,a3,a4,a5,a6⟩:=hF.low;obtain ⟨b1,b2,b3,b4,b5⟩:=hF.high;exact ⟨hF.chgR hc,(hc.block bs (Own.block_lt hbs) (by omega)).trans hbs,hset.chg hc (by omega),⟨nv,iv,vs,hO.chgR hc (by omega) (by omega)⟩,hlen,hb,⟨l1,l2,l3,l4⟩,hne⟩
theorem object_any (n:Nat) (hn:n<=15) (hv:ValOk n) (w:World) (rb bt cap:Nat) (ts l:List Tok) (hR:Rd w rb bt cap ts l):
 Calls Tryz.prog 99 #[.pointer (some ⟨rb,0,none⟩),.int .i64 ((16 - n:Nat):Int)] w (VRet w rb bt cap ts (n+1) (objS (valS n) l)):=by
 obtain ⟨x,l1,rfl⟩:=ex_cons hR.fin;obtain ⟨e1,e2,e3,e4,e5,e6,e7⟩:=alloc6 w (.cells #[.pointer (some ⟨rb,0,none⟩)] 140 (0,0)) (.cells #[.int .i64 ((16 - n:Nat):Int)] 3 (0,0)) (.cells zero6 49 (0,0)) (.cells #[.int .i64 7,.int .i64 0,.int .i64 0,.string ⟨#[]⟩,.slice none 0 0,.slice none 0 0] 49 (0,0)) (.map #[] 0) (.cells #[.map (some (w.heap.size+4))] 162 (0,0));have hmf:∀(fn:Fn) (first cap:Array Value) (w:World),(Instr.makeFunc fn first cap).run Tryz.prog w= .ok (.func fn first cap) w:=fun _ _ _ _=>rfl
 have hmm:= @run_makeMap Tryz.prog;have hbel:∀o1 o2 o3 o4 o5 o6,Below w.heap.size w ((((((w.alloc o1).alloc o2).alloc o3).alloc o4).alloc o5).alloc o6):=fun o1 o2 o3 o4 o5 o6=>((((((Below.refl _ _).alloc (Nat.le_refl _) _).alloc (by simp) _).alloc (by simp;omega) _).alloc (by simp;omega) _).alloc (by simp;omega) _).alloc (by simp;omega) _
 have HBEL:=Lib.hid hbel;have hrl:=hR.lt;have htl:=hR.blt;have HR:=Lib.hid hR
 have hF0:Fr w.heap.size (w.heap.size+6) w.heap.size (w.heap.size+1) (w.heap.size+2) (w.heap.size+3) rb bt n ((((((w.alloc (.cells #[.pointer (some ⟨rb,0,none⟩)] 140 (0,0))).alloc (.cells #[.int .i64 ((16 - n:Nat):Int)] 3 (0,0))).alloc (.cells zero6 49 (0,0))).alloc (.cells #[.int .i64 7,.int .i64 0,.int .i64 0,.string ⟨#[]⟩,.slice none 0 0,.slice none 0 0] 49 (0,0))).alloc (.map #[] 0)).alloc (.cells #[.map (some (w.heap.size+4))] 162 (0,0))):=
  ⟨e1,e2,e3,⟨hrl,htl,by omega,by omega,by omega,by omega⟩,⟨by omega,by omega,by omega,by omega,by omega⟩,⟨by omega,by omega,by omega⟩⟩
 have hset0:SetIs ((((((w.alloc (.cells #[.pointer (some ⟨rb,0,none⟩)] 140 (0,0))).alloc (.cells #[.int .i64 ((16 - n:Nat):Int)] 3 (0,0))).alloc (.cells zero6 49 (0,0))).alloc (.cells #[.int .i64 7,.int .i64 0,.int .i64 0,.string ⟨#[]⟩,.slice none 0 0,.slice none 0 0] 49 (0,0))).alloc (.map #[] 0)).alloc (.cells #[.map (some (w.heap.size+4))] 162 (0,0))) (w.heap.size+4) []:=by
  have h0:=set_new ((((w.alloc (.cells #[.pointer (some ⟨rb,0,none⟩)] 140 (0,0))).alloc (.cells #[.int .i64 ((16 - n:Nat):Int)] 3 (0,0))).alloc (.cells zero6 49 (0,0))).alloc (.cells #[.int .i64 7,.int .i64 0,.int .i64 0,.string ⟨#[]⟩,.slice none 0 0,.slice none 0 0] 49 (0,0)));rw [(alloc4 w _ _ _ _).2.2.2.2] at h0;exact h0.keep (Below.heap_alloc _ _ _ h0.lt)
 have hI0:ObjI w.heap.size (w.heap.size+6) w.heap.size (w.heap.size+1) (w.heap.size+2) (w.heap.size+3) (w.heap.size+5) (w.heap.size+4) rb bt n ([],[]) _:=⟨hF0,e6,hset0,⟨_,_,_,own2_new e4⟩,rfl,by simp,⟨by omega,by omega,by omega,by omega⟩,⟨by omega,by omega,by omega,by omega,by omega,by omega⟩⟩;have HI0:=Lib.hid hI0;have hlen:0+(x::l1).length<=ts.length:=by have:=hR.suf.length_le;omega
 have hcnt:∀(st:List (List UInt8)×List J) (l:List Tok),(stepO n st l).2.1.1.length<=st.1.length+1:=fun st l=>by unfold stepO;split <;> simp
 have U:=Lib.hid (until_obj (σ:=List (List UInt8)×List J) #[.pointer (some ⟨w.heap.size,0,none⟩),.pointer (some ⟨w.heap.size+5,0,none⟩),.pointer (some ⟨w.heap.size+1,0,none⟩),.pointer (some ⟨w.heap.size+3,0,none⟩)] (XO (w.heap.size+6) (w.heap.size+3) (w.heap.size+4) rb) (ObjI w.heap.size (w.heap.size+6) w.heap.size (w.heap.size+1) (w.heap.size+2) (w.heap.size+3) (w.heap.size+5) (w.heap.size+4) rb bt n)
  (fun w'=>Fr w.heap.size (w.heap.size+6) w.heap.size (w.heap.size+1) (w.heap.size+2) (w.heap.size+3) rb bt n w'/\Loads (w.heap.size+3) 7 w') (stepO n) (fun st=>st.1.length) hcnt rb bt cap ts 125 ⟨#[125]⟩ rfl (.inl rfl)
  (obj1_step n hn hv _ _ _ _ _ _ _ _ rb bt cap ts) (fun st w w' h hc=>h.chgR hc) (fun w1 w2 h hc=>⟨h.1.chgR hc,h.2.chg hc (by omega)⟩) (fun st w h=>⟨h.fr,by obtain ⟨nv,iv,vs,hO⟩:=h.own;exact hO.loads⟩)
  ([],[]) x l1 _ HI0.out (hR.below (HBEL.out _ _ _ _ _ _)) hlen)
 have HRES:Hid (objS (valS n) (x::l1)=⟨(if sgB x 125=true then (0,([],[]),l1) else untilS (stepO n) 125 (x::l1).length ([],[]) (x::l1)).1,if (if sgB x 125=true then ((0:Int),(([],[]):List (List UInt8)×List J),l1) else untilS (stepO n) 125 (x::l1).length ([],[]) (x::l1)).1=0 then .mk 7 0 0 [] (if sgB x 125=true then (0,([],[]),l1) else untilS (stepO n) 125 (x::l1).length ([],[]) (x::l1)).2.1.1 (if sgB x 125=true then (0,([],[]),l1) else untilS (stepO n) 125 (x::l1).length ([],[]) (x::l1)).2.1.2 else j0,(if sgB x 125=true then (0,([],[]),l1) else untilS (stepO n) 125 (x::l1).length ([],[]) (x::l1)).2.2⟩):=by
  show _=_;unfold objS
  dsimp only
  by_cases h:sgB x 125=true
  ·simp [h]
  ·simp only [if_neg h];exact obj_until n _ _ _ _
 obtain ⟨RR,HRR⟩:∃RR,Hid (objS (valS n) (x::l1)=RR):=⟨_,rfl⟩;have HRQ:=Lib.hid (HRR.out.symm.trans HRES.out);rw [HRR.out];clear HRES HRR hR hI0 hF0 hbel hlen e1 e2 e3 e4 e5 e6 e7 hset0 hcnt;simp only at U;generalize (if sgB x 125=true then ((0:Int),(([],[]):List (List UInt8)×List J),l1) else untilS (stepO n) 125 (x::l1).length ([],[]) (x::l1))=Q at *;obtain ⟨E,⟨ns,acc⟩,l2⟩:=Q;simp only at U HRQ;unfold zero6 at U;generalize ((16 - n:Nat):Int)=D at *
 go_enter Tryz.func99,Tryz.ntmps99
 go_wp2_with (go_at_call 136;(with_reducible refine (U.out).mono ?_);rintro e1 w1 ⟨rfl,hR1,hc1,hI1,hF1,hL1⟩;have HI1:=Lib.hid hI1;clear hI1;obtain ⟨a,nn,c,a',nn',c',hL⟩:=hL1;obtain ⟨y0,y1,y2,y3,y4,y5⟩:=six_of hL;obtain ⟨z0,z1,z2,z3,z4,z5⟩:=six_of hF1.hres;have f0:=free_of hF1.hres 0;have f1:=free_of hF1.hres 1;have f2:=free_of hF1.hres 2;have f3:=free_of hF1.hres 3;have f4:=free_of hF1.hres 4;have f5:=free_of hF1.hres 5)
 refine bodyPost_ret (v:= .tuple #[.agg #[.int .i64 7,.int .i64 0,.int .i64 0,.string ⟨#[]⟩,.slice a nn c,.slice a' nn' c'],.int .i64 E]) (by simp [results,Tryz.results99,go_sem,z0,z1,z2,z3,z4,z5]) rfl ?_;have hER:RR.er=E:=by rw [HRQ.out]
 have hlR:l2=RR.l:=by rw [HRQ.out]
 rw [hlR] at hR1
 have hJ:E=0->JAt (fun b=>w.heap.size+6<=b) w1 (n+1) (.agg #[.int .i64 7,.int .i64 0,.int .i64 0,.string ⟨#[]⟩,.slice a nn c,.slice a' nn' c']) RR.j:=fun h0=>by
  obtain ⟨_,_,_,⟨nv,iv,vs,hO⟩,hll,hbn,_,_⟩:=HI1.out h0;have:=hO.jat ⟨by decide,by decide⟩ hbn (by rw [<-hll];exact hbn);have hb:=hO.blk;rw [hL] at hb;simp only [Option.some.injEq,Obj.cells.injEq,and_true,Array.mk.injEq,List.cons.injEq,true_and] at hb;obtain ⟨e1,e2⟩:=hb;rw [<-e2,<-e1] at this;rw [HRQ.out,if_pos h0];exact this
 exact vret_fin (bres:=w.heap.size+2) (HBEL.out _ _ _ _ _ _) (fun b hb hx=>by unfold XO at hx;omega) hc1 hR1 (by omega) (by omega) hrl htl hER (by omega) hJ _ _ _ _ _ _
end Go.Proofs.YtclghelocglnlaaGreatDoor.Js
namespace Go.Proofs.YtclghelocglnlaaGreatDoor.Js
open Go.RowKit Lex
theorem begun_form (x:Tok):begunS x= .mk (begunS x).k (begunS x).m (begunS x).e (begunS x).t [] []:=by
 unfold begunS
 split
 ·rfl
 ·split
  ·rfl
  ·split <;> rfl
theorem leaf_jat {S:Nat->Prop} {w:World} {d:Nat} {k m e:Int} {t:List UInt8} (hk:i64B k) (hm:i64B m) (he:i64B e) (ht:txtB t):JAt S w (d+1) (bareV k m e t) (.mk k m e t [] []):=
 ⟨.slice none 0 0,none,0,rfl,hk,hm,he,ht,⟨none,0,rfl,by simp,by simp,fun x hx=>by simp at hx,fun h=>by simp at h⟩,by simp,by simp,fun h=>by simp at h⟩
theorem begun_jat {S:Nat->Prop} {w:World} {d:Nat} {x:Tok} (h:TokG 1099511627776 x):JAt S w (d+1) (begunV x) (begunS x):=by
 have z:i64B 0:=⟨by decide,by decide⟩;rw [begun_form x];refine leaf_jat ?_ ?_ ?_ ?_
 all_goals
  unfold begunS
  split
  ·first | exact ⟨by simp [J.k],by simp [J.k]⟩ | exact z | exact h.len
  ·split
   ·rename_i h3;obtain ⟨q1,q2,q3,q4⟩:=Dec.rightB_bounds (h.num h3)
    first | exact ⟨by simp [J.k],by simp [J.k]⟩ | exact ⟨by simp [J.m];omega,by simp [J.m];omega⟩ | exact ⟨by simp [J.e];omega,by simp [J.e];omega⟩ | (unfold txtB;simp [J.t])
   ·split
    ·first
      | (rcases kind_cases x.t with q | q | q | q | q | q <;> (simp only [J.k,q];exact ⟨by decide,by decide⟩))
      | exact z | (unfold txtB;simp [J.t])
    ·first | exact z | (unfold txtB;simp [j0,J.t])
theorem zero_jat {S:Nat->Prop} {w:World} {d:Nat}:JAt S w (d+1) (bareV 0 0 0 []) j0:=leaf_jat ⟨by decide,by decide⟩ ⟨by decide,by decide⟩ ⟨by decide,by decide⟩ (by unfold txtB;simp)
theorem vret_fin2 {w w1:World} {rb bt cap bres base n:Nat} {ts:List Tok} {RR:R} {k m e:Int} {t:ByteArray} {a a':Option Addr} {nn c nn' c':Nat} {E:Int}
 (hc:Chg (·=rb) w w1) (hR:Rd w1 rb bt cap ts RR.l) (h1:w.heap.size<=bres) (h2:bres < base) (h3:rb < w.heap.size) (h4:bt < w.heap.size) (hE:RR.er=E)
 (hJ:E=0->JAt (fun b=>base<=b) w1 n (.agg #[.int .i64 k,.int .i64 m,.int .i64 e,.string t,.slice a nn c,.slice a' nn' c']) RR.j) (c0 c1 c2 c3 c4 c5:Value):
 VRet w rb bt cap ts n RR (.returned (.tuple #[.agg #[.int .i64 k,.int .i64 m,.int .i64 e,.string t,.slice a nn c,.slice a' nn' c'],.int .i64 E])) (put6 w1 bres 0 c0 c1 c2 c3 c4 c5):=
 vret_fin (Below.refl _ _) (fun _ _ h=>h) hc hR h1 h2 h3 h4 hE (by omega) hJ c0 c1 c2 c3 c4 c5
theorem VRet.alloc {w w1:World} {rb bt cap n:Nat} {ts:List Tok} {RR:R} {e:Ending} (h:VRet w rb bt cap ts n RR e w1) (o:Obj):VRet w rb bt cap ts n RR e (w1.alloc o):=by
 obtain ⟨k,m,e1,t,an,nn,cn,ai,ni,ci,rfl,hR,hc,hJ⟩:=h;have hb:Below w1.heap.size w1 (w1.alloc o):=(Below.refl _ _).alloc (Nat.le_refl _) _;exact ⟨k,m,e1,t,an,nn,cn,ai,ni,ci,rfl,hR.below hb,hc.alloc o,fun h0=>(hJ h0).below hb (Nat.le_refl _)⟩
theorem cell_alloc_old (w:World) (o:Obj) (b i:Nat) (h:b < w.heap.size):(w.alloc o).cell? ⟨b,i,none⟩=w.cell? ⟨b,i,none⟩:=World.cell?_of_block (w:=w) (a:=⟨b,i,none⟩) (Below.heap_alloc _ _ _ h)
theorem size_set (w:World) (a:Addr) (u:Value):(w.setCell a u).heap.size=w.heap.size:=by simp [World.setCell]
theorem res_block {w w1 w2:World} {cs:Array Value} {T:TypeId} (hb1:Below (w.alloc (.cells cs T)).heap.size (w.alloc (.cells cs T)) w1) (hb2:Below w1.heap.size w1 w2):w2.heap[w.heap.size]?=some (.cells cs T (0,0))/\w.heap.size < w2.heap.size/\Below w.heap.size w w2:=by
 have h1:=hb1.size;have h2:=hb2.size;simp at h1;refine ⟨by rw [hb2.block _ (by omega),hb1.block _ (by simp)];exact heap_alloc_new w _,by omega,(((Below.refl _ _).alloc (Nat.le_refl _) _).trans (hb1.mono (by simp))).trans (hb2.mono (by omega))⟩
theorem value_zero:ValOk 0:=by
 intro w rb bt cap ts l hR;obtain ⟨x,l,rfl⟩:=ex_cons hR.fin;have hb0:∀o,Below w.heap.size w (w.alloc o):=fun o=>(Below.refl _ _).alloc (Nat.le_refl _) _
 have HB0:=Lib.hid hb0;have H1:=Lib.hid (fun o=>here_any (hR.below (HB0.out o)));have G1:=Lib.hid (fun w=>begun_any x w);have hrl:=hR.lt;have htl:=hR.blt;have HR:=Lib.hid hR;rw [valS,show ((17 - 0:Nat):Int)=17 from rfl];obtain ⟨RR,HRR⟩:∃RR:R,Hid ((⟨if (begunS x).k=0 then 40 else 41,j0,x::l⟩:R)=RR):=⟨_,rfl⟩;rw [HRR.out];unfold tokV at H1 G1;unfold begunV bareV at G1;clear hR hb0;generalize (begunS x).k=K at *;generalize (begunS x).m=M at *;generalize (begunS x).e=E at *;generalize (begunS x).t=T at *
 by_cases hK:K=0
 ·subst hK;simp only [if_true] at HRR
  go_enter Tryz.func67,Tryz.ntmps67
  go_wp2_with (first
   | (go_at_call 68;(with_reducible refine (H1.out _).mono ?_);rintro e1 w1 ⟨rfl,hb1⟩)
   | (go_at_call 97;(with_reducible refine (G1.out _).mono ?_);rintro e2 w2 ⟨rfl,hb2⟩;obtain ⟨hres,hl2,hbw⟩:=res_block hb1 hb2;obtain ⟨z0,z1,z2,z3,z4,z5⟩:=six_of hres;have f0:=free_of hres 0;have f1:=free_of hres 1;have f2:=free_of hres 2;have f3:=free_of hres 3;have f4:=free_of hres 4;have f5:=free_of hres 5))
  refine bodyPost_ret (v:= .tuple #[.agg #[.int .i64 0,.int .i64 0,.int .i64 0,.string ⟨#[]⟩,.slice none 0 0,.slice none 0 0],.int .i64 40]) (by simp [results,Tryz.results67,go_sem,cell_alloc_old,size_set,hl2,z0,z1,z2,z3,z4,z5]) rfl ?_;exact (vret_fin2 (base:=w.heap.size+1) (.of_below hbw) (by rw [<-HRR.out];exact HR.out.below hbw) (Nat.le_refl _) (by omega) hrl htl (by rw [<-HRR.out]) (fun h=>absurd h (by decide)) _ _ _ _ _ _).alloc _
 ·have hne:(K==0)=false:=by simpa using hK
  rw [if_neg hK] at HRR
  go_enter Tryz.func67,Tryz.ntmps67
  go_wp2_with (first
   | (go_at_call 68;(with_reducible refine (H1.out _).mono ?_);rintro e1 w1 ⟨rfl,hb1⟩)
   | (go_at_call 97;(with_reducible refine (G1.out _).mono ?_);rintro e2 w2 ⟨rfl,hb2⟩;obtain ⟨hres,hl2,hbw⟩:=res_block hb1 hb2;obtain ⟨z0,z1,z2,z3,z4,z5⟩:=six_of hres;have f0:=free_of hres 0;have f1:=free_of hres 1;have f2:=free_of hres 2;have f3:=free_of hres 3;have f4:=free_of hres 4;have f5:=free_of hres 5))
  refine bodyPost_ret (v:= .tuple #[.agg #[.int .i64 0,.int .i64 0,.int .i64 0,.string ⟨#[]⟩,.slice none 0 0,.slice none 0 0],.int .i64 41]) (by simp [results,Tryz.results67,go_sem,cell_alloc_old,size_set,hl2,z0,z1,z2,z3,z4,z5]) rfl ?_;exact (vret_fin2 (base:=w.heap.size+1) (.of_below hbw) (by rw [<-HRR.out];exact HR.out.below hbw) (Nat.le_refl _) (by omega) hrl htl (by rw [<-HRR.out]) (fun h=>absurd h (by decide)) _ _ _ _ _ _).alloc _
end Go.Proofs.YtclghelocglnlaaGreatDoor.Js
namespace Go.Proofs.YtclghelocglnlaaGreatDoor.Js
open Go.RowKit Lex
theorem value_succ (n:Nat) (hn:n<=15) (hv:ValOk n):ValOk (n+1):=by
 intro w rb bt cap ts l hR;obtain ⟨x,l,rfl⟩:=ex_cons hR.fin;have hb0:∀o,Below w.heap.size w (w.alloc o):=fun o=>(Below.refl _ _).alloc (Nat.le_refl _) _
 have HB0:=Lib.hid hb0;have H1:=Lib.hid (fun o=>here_any (hR.below (HB0.out o)));have G1:=Lib.hid (fun w=>begun_any x w);have hrl:=hR.lt;have htl:=hR.blt;have HR:=Lib.hid hR;have hgx:TokG 1099511627776 x:=hR.good x (hR.suf.mem (by simp));have HGX:=Lib.hid hgx;have HJX:=Lib.hid (fun (S:Nat->Prop) (w:World)=>begun_jat (S:=S) (w:=w) (d:=n) hgx);rw [valS,show 17 - (n+1)=16 - n by omega];have hle:=hR.at_.1;have hln:=hR.len;have HBK:=Lib.hid (fun w' (hr:Rd w' rb bt cap ts (x::l))=>hr.blk);have HNX:=Lib.hid (fun w' (hr:Rd w' rb bt cap ts (x::l)) (h5:x.k≠5)=>hr.next h5);have AR:=Lib.hid (fun w' l' hr=>array_any n hn hv w' rb bt cap ts l' hr);have OB:=Lib.hid (fun w' l' hr=>object_any n hn hv w' rb bt cap ts l' hr);have hd:((16 - n:Nat):Int)<=16:=by omega
 obtain ⟨D,HD⟩:∃D,Hid (((16 - n:Nat):Int)=D):=⟨_,rfl⟩;rw [HD.out] at AR OB hd⊢;obtain ⟨P,HP⟩:∃P,Hid (ts.length - (x::l).length=P):=⟨_,rfl⟩;rw [HP.out] at HNX HBK hle;have hPl:P<=1000000:=by omega
 have HBX:=Lib.hid (begun_form x);have HK5:=Lib.hid (fun (h:(begunS x).k≠0)=>begun_k h);unfold tokV at H1 G1;unfold begunV bareV at G1 HJX;clear hR hb0 hle hln hgx
 by_cases hK:(begunS x).k=0
 ·rw [if_pos hK];rw [hK] at G1;obtain ⟨RR,HRR⟩:∃RR:R,Hid ((⟨40,j0,x::l⟩:R)=RR):=⟨_,rfl⟩;rw [HRR.out];clear hK HJX HBX HK5;generalize (begunS x).m=M at *;generalize (begunS x).e=E at *;generalize (begunS x).t=T at *
  go_enter Tryz.func67,Tryz.ntmps67
  go_wp2_with (first
   | (go_at_call 68;(with_reducible refine (H1.out _).mono ?_);rintro e1 w1 ⟨rfl,hb1⟩)
   | (go_at_call 97;(with_reducible refine (G1.out _).mono ?_);rintro e2 w2 ⟨rfl,hb2⟩;obtain ⟨hres,hl2,hbw⟩:=res_block hb1 hb2;obtain ⟨z0,z1,z2,z3,z4,z5⟩:=six_of hres;have f0:=free_of hres 0;have f1:=free_of hres 1;have f2:=free_of hres 2;have f3:=free_of hres 3;have f4:=free_of hres 4;have f5:=free_of hres 5))
  refine bodyPost_ret (v:= .tuple #[.agg #[.int .i64 0,.int .i64 0,.int .i64 0,.string ⟨#[]⟩,.slice none 0 0,.slice none 0 0],.int .i64 40]) (by simp [results,Tryz.results67,go_sem,cell_alloc_old,size_set,hl2,z0,z1,z2,z3,z4,z5]) rfl ?_;exact (vret_fin2 (base:=w.heap.size+1) (.of_below hbw) (by rw [<-HRR.out];exact HR.out.below hbw) (Nat.le_refl _) (by omega) hrl htl (by rw [<-HRR.out]) (fun h=>absurd h (by decide)) _ _ _ _ _ _).alloc _
 ·rw [if_neg hK];have h5:x.k≠5:=HK5.out hK;have hne:((begunS x).k==0)=false:=by simpa using hK
  have hdd:D<=16:=hd
  by_cases h6:(begunS x).k=6
  ·rw [if_pos h6];rw [h6] at G1;obtain ⟨RR,HRR⟩:∃RR:R,Hid (arrS (valS n) l=RR):=⟨_,rfl⟩;have AR2:=Lib.hid (fun w' hr=>AR.out w' l hr);rw [HRR.out] at AR2⊢;clear hK hne h6 HJX HBX HK5 AR OB HRR;generalize (begunS x).m=M at *;generalize (begunS x).e=E at *;generalize (begunS x).t=T at *
   go_enter Tryz.func67,Tryz.ntmps67
   go_wp2_with (first
    | (go_at_call 68;(with_reducible refine (H1.out _).mono ?_);rintro e1 w1 ⟨rfl,hb1⟩)
    | (go_at_call 97;(with_reducible refine (G1.out _).mono ?_);rintro e2 w2 ⟨rfl,hb2⟩;obtain ⟨hres,hl2,hbw⟩:=res_block hb1 hb2;have hr2:=HR.out.below hbw;obtain ⟨r0,r1⟩:=two_of (HBK.out _ hr2);have rf:=free_of (HBK.out _ hr2) 1;have hrl2:rb < w2.heap.size:=(by omega);have hr3:=HNX.out _ hr2 h5;have hc2:=((Chg.of_below (X:=(·=rb)) hbw).setCell (p:=⟨rb,1,none⟩) (.inl rfl) (.int .i64 ((P:Int)+1))))
    | (go_at_call 98;(with_reducible refine (AR2.out _ (hr3.below ((Below.refl _ _).alloc (Nat.le_refl _) _))).mono ?_);rintro e3 w3 ⟨k,m,e',t,an,nn,cn,ai,ni,ci,rfl,hR3,hc3,hJ3⟩;have HJ3:=Lib.hid hJ3;clear hJ3;have hres3:=(hc3.block w.heap.size (by simp [size_set];omega) (by omega)).trans ((Below.heap_alloc _ _ _ (by simp [size_set];omega)).trans ((Below.heap_setCell _ _ _ _ (by show w.heap.size≠rb;omega)).trans hres));obtain ⟨z0,z1,z2,z3,z4,z5⟩:=six_of hres3;have f0:=free_of hres3 0;have f1:=free_of hres3 1;have f2:=free_of hres3 2;have f3:=free_of hres3 3;have f4:=free_of hres3 4;have f5:=free_of hres3 5))
   refine bodyPost_ret (v:= .tuple #[.agg #[.int .i64 k,.int .i64 m,.int .i64 e',.string t,.slice an nn cn,.slice ai ni ci],.int .i64 RR.er]) (by simp [results,Tryz.results67,go_sem,z0,z1,z2,z3,z4,z5]) rfl ?_;have hcc:=(hc2.alloc _).trans hc3;exact vret_fin2 (base:=w2.heap.size+1) hcc hR3 (Nat.le_refl _) (by omega) hrl htl rfl (fun h0=>(HJ3.out h0).keep (fun b hb _=>by simp [size_set] at hb;exact hb) (fun _ _ _=>rfl) (Nat.le_refl _)) _ _ _ _ _ _
  ·rw [if_neg h6];have hne6:((begunS x).k==6)=false:=by simpa using h6
   by_cases h7:(begunS x).k=7
   ·rw [if_pos h7];rw [h7] at G1;obtain ⟨RR,HRR⟩:∃RR:R,Hid (objS (valS n) l=RR):=⟨_,rfl⟩;have AR2:=Lib.hid (fun w' hr=>OB.out w' l hr);rw [HRR.out] at AR2⊢;clear hK hne h6 hne6 h7 HJX HBX HK5 AR OB HRR;generalize (begunS x).m=M at *;generalize (begunS x).e=E at *;generalize (begunS x).t=T at *
    go_enter Tryz.func67,Tryz.ntmps67
    go_wp2_with (first
     | (go_at_call 68;(with_reducible refine (H1.out _).mono ?_);rintro e1 w1 ⟨rfl,hb1⟩)
     | (go_at_call 97;(with_reducible refine (G1.out _).mono ?_);rintro e2 w2 ⟨rfl,hb2⟩;obtain ⟨hres,hl2,hbw⟩:=res_block hb1 hb2;have hr2:=HR.out.below hbw;obtain ⟨r0,r1⟩:=two_of (HBK.out _ hr2);have rf:=free_of (HBK.out _ hr2) 1;have hrl2:rb < w2.heap.size:=(by omega);have hr3:=HNX.out _ hr2 h5;have hc2:=((Chg.of_below (X:=(·=rb)) hbw).setCell (p:=⟨rb,1,none⟩) (.inl rfl) (.int .i64 ((P:Int)+1))))
     | (go_at_call 99;(with_reducible refine (AR2.out _ (hr3.below ((Below.refl _ _).alloc (Nat.le_refl _) _))).mono ?_);rintro e3 w3 ⟨k,m,e',t,an,nn,cn,ai,ni,ci,rfl,hR3,hc3,hJ3⟩;have HJ3:=Lib.hid hJ3;clear hJ3;have hres3:=(hc3.block w.heap.size (by simp [size_set];omega) (by omega)).trans ((Below.heap_alloc _ _ _ (by simp [size_set];omega)).trans ((Below.heap_setCell _ _ _ _ (by show w.heap.size≠rb;omega)).trans hres));obtain ⟨z0,z1,z2,z3,z4,z5⟩:=six_of hres3;have f0:=free_of hres3 0;have f1:=free_of hres3 1;have f2:=free_of hres3 2;have f3:=free_of hres3 3;have f4:=free_of hres3 4;have f5:=free_of hres3 5))
    refine bodyPost_ret (v:= .tuple #[.agg #[.int .i64 k,.int .i64 m,.int .i64 e',.string t,.slice an nn cn,.slice ai ni ci],.int .i64 RR.er]) (by simp [results,Tryz.results67,go_sem,z0,z1,z2,z3,z4,z5]) rfl ?_;have hcc:=(hc2.alloc _).trans hc3;exact vret_fin2 (base:=w2.heap.size+1) hcc hR3 (Nat.le_refl _) (by omega) hrl htl rfl (fun h0=>(HJ3.out h0).keep (fun b hb _=>by simp [size_set] at hb;exact hb) (fun _ _ _=>rfl) (Nat.le_refl _)) _ _ _ _ _ _
   ·rw [if_neg h7];have hne7:((begunS x).k==7)=false:=(by simpa using h7);obtain ⟨RR,HRR⟩:∃RR:R,Hid ((⟨0,begunS x,l⟩:R)=RR):=⟨_,rfl⟩;rw [HRR.out];have HRJ:Hid (RR.j=begunS x/\RR.er=0/\RR.l=l):=(by rw [<-HRR.out];exact ⟨rfl,rfl,rfl⟩);have HJR:Hid (∀(S:Nat->Prop) (w:World),JAt S w (n+1) (.agg #[.int .i64 (begunS x).k,.int .i64 (begunS x).m,.int .i64 (begunS x).e,.string ⟨(begunS x).t.toArray⟩,.slice none 0 0,.slice none 0 0]) RR.j):=fun S w=>by rw [HRJ.out.1];exact HJX.out S w
    clear hK h6 h7 HBX HK5 AR OB HRR HJX;generalize (begunS x).k=K at *;generalize (begunS x).m=M at *;generalize (begunS x).e=E at *;generalize (begunS x).t=T at *
    go_enter Tryz.func67,Tryz.ntmps67
    go_wp2_with (first
     | (go_at_call 68;(with_reducible refine (H1.out _).mono ?_);rintro e1 w1 ⟨rfl,hb1⟩)
     | (go_at_call 97;(with_reducible refine (G1.out _).mono ?_);rintro e2 w2 ⟨rfl,hb2⟩;obtain ⟨hres,hl2,hbw⟩:=res_block hb1 hb2;have hr2:=HR.out.below hbw;obtain ⟨r0,r1⟩:=two_of (HBK.out _ hr2);have rf:=free_of (HBK.out _ hr2) 1;have hrl2:rb < w2.heap.size:=(by omega);have hr3:=HNX.out _ hr2 h5;have hc2:=((Chg.of_below (X:=(·=rb)) hbw).setCell (p:=⟨rb,1,none⟩) (.inl rfl) (.int .i64 ((P:Int)+1)));obtain ⟨z0,z1,z2,z3,z4,z5⟩:=six_of hres;have f0:=free_of hres 0;have f1:=free_of hres 1;have f2:=free_of hres 2;have f3:=free_of hres 3;have f4:=free_of hres 4;have f5:=free_of hres 5;have hrn:rb≠w.heap.size:=(by omega)))
    refine bodyPost_ret (v:= .tuple #[.agg #[.int .i64 K,.int .i64 M,.int .i64 E,.string ⟨T.toArray⟩,.slice none 0 0,.slice none 0 0],.int .i64 0]) (by simp [results,Tryz.results67,go_sem,cell_alloc_old,size_set,hl2,hrn,hrn.symm,z0,z1,z2,z3,z4,z5]) rfl ?_;refine (vret_fin2 (base:=w.heap.size+1) hc2 (by rw [HRJ.out.2.2];exact hr3) (Nat.le_refl _) (by omega) hrl htl HRJ.out.2.1 (fun _=>HJR.out _ _) _ _ _ _ _ _).alloc _
end Go.Proofs.YtclghelocglnlaaGreatDoor.Js
namespace Go.Proofs.YtclghelocglnlaaGreatDoor.Js
open Go.RowKit Lex
theorem val_ok:∀n,n<=16->ValOk n
 | 0,_=>value_zero
 | n+1,h=>value_succ n (by omega) (val_ok n (by omega))
theorem scan_len {l:List UInt8} {n:Nat} {ts:List Tok} (h:scanL l n= .inr ts):ts.length<=l.length+1:=
 scan_ind (P:=fun l _ ts=>ts.length<=l.length+1) (fun n=>by simp) (fun c r n ts _ ih=>by simp at ih⊢;omega)
  (fun l n ts hne h0 ih=>by
    rw [List.length_drop] at ih;have:=firstL_le l;simp;omega) l.length l n ts (Nat.le_refl _) h
theorem scanS_inr {s:List UInt8} {ts:List Tok} (h:scanS s= .inr ts):EndL ts/\AllG 1099511627776 ts/\ts.length<=1000000:=by
 unfold scanS at h
 split at h
 ·cases h
 ·rename_i hl;have h2:=scan_len h;refine ⟨scan_end h,fun x hx=>(scan_good h x hx).mono (by omega),by omega⟩
def ParseRet (P:Int×J×Nat) (w:World) (e:Ending) (w':World):Prop:=
 ∃k m e1 t an nn cn ai ni ci,e= .returned (.tuple #[.agg #[.int .i64 k,.int .i64 m,.int .i64 e1,.string t,.slice an nn cn,.slice ai ni ci],.int .i64 P.1,.int .i64 P.2.2])/\
  JA (fun b=>w.heap.size<=b) w' (.agg #[.int .i64 k,.int .i64 m,.int .i64 e1,.string t,.slice an nn cn,.slice ai ni ci]) P.2.1/\Below w.heap.size w w'
theorem below_put6 {w w1:World} {bres:Nat} (h:Below w.heap.size w w1) (hb:w.heap.size<=bres) (c0 c1 c2 c3 c4 c5:Value):Below w.heap.size w (put6 w1 bres 0 c0 c1 c2 c3 c4 c5):=by
 obtain ⟨p1,p2,p3⟩:=put6_os w1 bres 0 c0 c1 c2 c3 c4 c5;exact ⟨p1.trans h.os,p2.trans h.tape,p3.trans h.output,by rw [put6_size];exact h.size,fun k hk=>(put6_block w1 bres 0 c0 c1 c2 c3 c4 c5 k (by omega)).trans (h.block k hk)⟩
theorem scan_toks (s:List UInt8) (ts:List Tok) (h:scanS s= .inr ts) (w:World) (hs:s.length<=maxLen):Calls Tryz.prog 66 #[.string ⟨s.toArray⟩] w fun e w'=>
 ∃bt cap,e= .returned (.tuple #[.slice (some ⟨bt,0,none⟩) ts.length cap,.int .i64 0,.int .i64 0])/\bt < w'.heap.size/\(∀j,j < ts.length->TokIn w' bt (j * 5) (ts.getD j tok0))/\Below w.heap.size w w':=by
 refine (scan_l s w hs).mono ?_;rw [h];rintro e w' ⟨v,rfl,ho,hb⟩;rcases ToksOwn.at_ ho with ⟨_,_,_,h0⟩ | ⟨b,cap,rfl,_,_,hlt,hT⟩
 ·exact absurd h0 (scanS_inr h).1.ne
 ·exact ⟨b,cap,rfl,hlt,hT,hb⟩
theorem rd_new {w:World} {ts:List Tok} {bt cap:Nat} (hb:bt < w.heap.size) (hT:∀j,j < ts.length->TokIn w bt (j * 5) (ts.getD j tok0)) (h:EndL ts/\AllG 1099511627776 ts/\ts.length<=1000000):
 Rd (w.alloc (.cells #[.slice (some ⟨bt,0,none⟩) ts.length cap,.int .i64 0] 105)) w.heap.size bt cap ts ts:=
 ⟨by rw [heap_alloc_new,Nat.sub_self];rfl,fun j hj=>(hT j hj).below ((Below.refl w.heap.size w).alloc (Nat.le_refl _) _) hb,by omega,by simp;omega,List.suffix_refl _,h.1,h.2.2,h.2.1⟩
theorem here_x {w:World} {rb bt cap:Nat} {ts l:List Tok} {K:Nat} {T:List UInt8} {M E:Int} {Q:Nat} (h:Rd w rb bt cap ts (⟨K,T,M,E,Q⟩::l)):
 Calls Tryz.prog 68 #[.pointer (some ⟨rb,0,none⟩)] w (Ret (.agg #[.int .i64 K,.string ⟨T.toArray⟩,.int .i64 M,.int .i64 E,.int .i64 Q]) w):=here_any h
theorem field0 (K:Nat) (T:List UInt8) (M E:Int) (Q:Nat) (w:World):(Instr.field 109 (.agg #[.int .i64 K,.string ⟨T.toArray⟩,.int .i64 M,.int .i64 E,.int .i64 Q]) 0).run Tryz.prog w= .ok (.int .i64 K) w:=by kernel_rfl
theorem field3 (K:Nat) (T:List UInt8) (M E:Int) (Q:Nat) (w:World):(Instr.field 109 (.agg #[.int .i64 K,.string ⟨T.toArray⟩,.int .i64 M,.int .i64 E,.int .i64 Q]) 3).run Tryz.prog w= .ok (.int .i64 Q) w:=by kernel_rfl
theorem read_stays {w w1 w2 w3:World} {cs rd vb:Array Value} {T1 T2 T3:TypeId} (hres:w1.heap[w.heap.size]?=some (.cells cs T1 (0,0))) (hl:w.heap.size < w1.heap.size) (hbw:Below w.heap.size w w1)
 (hc:Chg (·=w1.heap.size) (w1.alloc (.cells rd T2)) w2) (hb3:Below (w2.alloc (.cells vb T3)).heap.size (w2.alloc (.cells vb T3)) w3):
 w3.heap[w.heap.size]?=some (.cells cs T1 (0,0))/\w3.heap[w2.heap.size]?=some (.cells vb T3 (0,0))/\Below w.heap.size w w3/\Below w2.heap.size w2 w3/\w1.heap.size+1<=w2.heap.size:=by
 have s1:=hc.size;have s3:=hb3.size;simp at s1 s3
 have h2:w2.heap[w.heap.size]?=some (.cells cs T1 (0,0)):=by
  rw [hc.block _ (by simp;omega) (by omega),Below.heap_alloc _ _ _ hl];exact hres
 refine ⟨?_,?_,?_,((Below.refl _ _).alloc (Nat.le_refl _) _).trans (hb3.mono (by simp)),s1⟩
 ·rw [hb3.block _ (by simp;omega),Below.heap_alloc _ _ _ (by omega)];exact h2
 ·rw [hb3.block _ (by simp)];exact heap_alloc_new w2 _
 ·have hbw2:Below w.heap.size w (w1.alloc (.cells rd T2)):=hbw.alloc (by omega) _;have hcb:Below w.heap.size (w1.alloc (.cells rd T2)) w2:=hc.below (by simp;omega) (fun k hk=>by omega);exact ((hbw2.trans hcb).alloc (by omega) _).trans (hb3.mono (by simp;omega))
theorem parse_any (s:List UInt8) (w:World) (hs:s.length<=maxLen):Calls Tryz.prog 37 #[.string ⟨s.toArray⟩] w (ParseRet (parseS s) w):=by
 have S1:=Lib.hid (fun w=>scan_l s w hs);unfold ScanRet at S1;obtain ⟨PP,HPP⟩:∃PP,Hid (parseS s=PP):=⟨_,rfl⟩;rw [HPP.out]
 cases hsc:scanS s with
 | inl n=>
   rw [hsc] at S1;have hP:PP=(30,j0,n):=by rw [<-HPP.out];unfold parseS;rw [hsc]
   subst hP;simp only [toksR,errR,placeR] at S1;clear HPP hsc
   go_enter Tryz.func37,Tryz.ntmps37
   go_wp2_with (go_at_call 66;(with_reducible refine (S1.out _).mono ?_);rintro e1 w1 ⟨v,rfl,ho,hb1⟩;obtain ⟨hres,hl2,hbw⟩:=res_block hb1 (Below.refl _ w1);obtain ⟨z0,z1,z2,z3,z4,z5⟩:=six_of hres;have f0:=free_of hres 0;have f1:=free_of hres 1;have f2:=free_of hres 2;have f3:=free_of hres 3;have f4:=free_of hres 4;have f5:=free_of hres 5)
   refine bodyPost_ret (v:= .tuple #[.agg #[.int .i64 0,.int .i64 0,.int .i64 0,.string ⟨#[]⟩,.slice none 0 0,.slice none 0 0],.int .i64 30,.int .i64 n]) (by simp [results,Tryz.results37,go_sem,z0,z1,z2,z3,z4,z5]) rfl ?_;exact ⟨_,_,_,_,_,_,_,_,_,_,rfl,⟨1,zero_jat⟩,below_put6 (bres:=w.heap.size) hbw (Nat.le_refl _) _ _ _ _ _ _⟩
 | inr ts=>
   have S2:=Lib.hid (fun w=>scan_toks s ts hsc w hs);have hEG:=scanS_inr hsc;have hP:PP=parseT ts:=by rw [<-HPP.out];unfold parseS;rw [hsc]
   unfold parseT at hP;have HP:=Lib.hid hP;have HEG:=Lib.hid hEG;have V:=Lib.hid (fun w' rb bt cap hr=>val_ok 16 (by omega) w' rb bt cap ts ts hr);rw [show ((17 - 16:Nat):Int)=1 from rfl] at V;have HVG:=Lib.hid (val_good 16 ts hEG.1);obtain ⟨RR,HRR⟩:∃RR,Hid (valS 16 ts=RR):=⟨_,rfl⟩;rw [HRR.out] at HP HVG V;obtain ⟨y,l2,hl2⟩:=ex_cons HVG.out.1;obtain ⟨ER,JR,LR⟩:=RR;simp only at hl2;subst hl2;clear HPP hsc hEG hP HRR HVG S1;unfold VRet at V;simp only at V;obtain ⟨n,HN⟩:∃n,Hid (ts.length=n):=⟨_,rfl⟩;have HRN:=Lib.hid (fun w bt cap hb hT=>rd_new (w:=w) (ts:=ts) (bt:=bt) (cap:=cap) hb hT HEG.out);rw [HN.out] at S2 HRN
   by_cases hER:ER=0
   ·subst hER;simp only [true_implies,forall_const] at V
    by_cases hk5:y.k=5
    ·have hPP:PP=(0,JR,0):=(by rw [HP.out];unfold topS;simp [hk5]);subst hPP;clear HP;obtain ⟨YK,YT,YM,YE,YP⟩:=y;simp only at hk5;subst hk5;have g0:=field0 5 YT YM YE YP;have g3:=field3 5 YT YM YE YP;rw [show ((5:Nat):Int)=5 from rfl] at g0 g3
     go_enter Tryz.func37,Tryz.ntmps37
     go_wp2_with (first
      | (go_at_call 66;(with_reducible refine (S2.out _).mono ?_);rintro e1 w1 ⟨bt,cap,rfl,hbt,hT,hb1⟩;have HT:=Lib.hid hT;clear hT;have hr0:=HRN.out w1 bt cap hbt HT.out;obtain ⟨hres,hl2,hbw⟩:=res_block hb1 (Below.refl _ w1))
      | (go_at_call 67;(with_reducible refine (V.out _ _ _ _ hr0).mono ?_);rintro e2 w2 ⟨k,m,e',t,an,nn,cn,ai,ni,ci,rfl,hr2,hc2,hJ2⟩;have hs2:=hc2.size;simp at hs2;have hr3:=fun o=>hr2.below (((Below.refl _ _).alloc (Nat.le_refl _) o));have hc3:=fun o=>hc2.alloc o)
      | (go_at_call 68;(with_reducible refine (here_x (hr3 _)).mono ?_);rintro e3 w3 ⟨rfl,hb3⟩;obtain ⟨q1,q2,q3,q4,q5⟩:=read_stays hres hl2 hbw hc2 hb3;obtain ⟨y0,y1,y2,y3,y4,y5⟩:=six_of q2;obtain ⟨z0,z1,z2,z3,z4,z5⟩:=six_of q1;have f0:=free_of q1 0;have f1:=free_of q1 1;have f2:=free_of q1 2;have f3:=free_of q1 3;have f4:=free_of q1 4;have f5:=free_of q1 5))
     refine bodyPost_ret (v:= .tuple #[.agg #[.int .i64 k,.int .i64 m,.int .i64 e',.string t,.slice an nn cn,.slice ai ni ci],.int .i64 0,.int .i64 0]) (by simp [results,Tryz.results37,go_sem,z0,z1,z2,z3,z4,z5]) rfl ?_
     have hJ3:JAt (fun b=>w.heap.size<=b) (put6 w3 w.heap.size 0 (.int .i64 k) (.int .i64 m) (.int .i64 e') (.string t) (.slice an nn cn) (.slice ai ni ci)) 16 (.agg #[.int .i64 k,.int .i64 m,.int .i64 e',.string t,.slice an nn cn,.slice ai ni ci]) JR:=
      hJ2.keep (fun b hb _=>by simp at hb;omega) (fun b hb hlt=>by simp at hb;rw [put6_block _ _ _ _ _ _ _ _ _ _ (by omega)];exact q4.block b hlt) (by rw [put6_size];exact q4.size)
     exact ⟨_,_,_,_,_,_,_,_,_,_,rfl,⟨16,hJ3⟩,below_put6 (bres:=w.heap.size) q3 (Nat.le_refl _) _ _ _ _ _ _⟩
    ·have hPP:PP=(40,j0,y.p):=(by rw [HP.out];unfold topS;simp [hk5]);subst hPP;clear HP;obtain ⟨YK,YT,YM,YE,YP⟩:=y;simp only at hk5;have hne:((YK:Int) !=5)=true:=(by simp;omega);have g0:=field0 YK YT YM YE YP;have g3:=field3 YK YT YM YE YP
     go_enter Tryz.func37,Tryz.ntmps37
     go_wp2_with (first
      | (go_at_call 66;(with_reducible refine (S2.out _).mono ?_);rintro e1 w1 ⟨bt,cap,rfl,hbt,hT,hb1⟩;have HT:=Lib.hid hT;clear hT;have hr0:=HRN.out w1 bt cap hbt HT.out;obtain ⟨hres,hl2,hbw⟩:=res_block hb1 (Below.refl _ w1))
      | (go_at_call 67;(with_reducible refine (V.out _ _ _ _ hr0).mono ?_);rintro e2 w2 ⟨k,m,e',t,an,nn,cn,ai,ni,ci,rfl,hr2,hc2,hJ2⟩;have hs2:=hc2.size;simp at hs2;have hr3:=fun o=>hr2.below (((Below.refl _ _).alloc (Nat.le_refl _) o));have hc3:=fun o=>hc2.alloc o)
      | (go_at_call 68;(with_reducible refine (here_x (hr3 _)).mono ?_);rintro e3 w3 ⟨rfl,hb3⟩;have hr4:=(hr3 _).below hb3)
      | (go_at_call 68;(with_reducible refine (here_x hr4).mono ?_);rintro e4 w4 ⟨rfl,hb4⟩;obtain ⟨q1,q2,q3,q4,q5⟩:=read_stays hres hl2 hbw hc2 (hb3.trans (hb4.mono hb3.size));obtain ⟨z0,z1,z2,z3,z4,z5⟩:=six_of q1;have f0:=free_of q1 0;have f1:=free_of q1 1;have f2:=free_of q1 2;have f3:=free_of q1 3;have f4:=free_of q1 4;have f5:=free_of q1 5))
     refine bodyPost_ret (v:= .tuple #[.agg #[.int .i64 0,.int .i64 0,.int .i64 0,.string ⟨#[]⟩,.slice none 0 0,.slice none 0 0],.int .i64 40,.int .i64 YP]) (by simp [results,Tryz.results37,go_sem,z0,z1,z2,z3,z4,z5]) rfl ?_;exact ⟨_,_,_,_,_,_,_,_,_,_,rfl,⟨1,zero_jat⟩,below_put6 (bres:=w.heap.size) q3 (Nat.le_refl _) _ _ _ _ _ _⟩
   ·have hPP:PP=(ER,j0,y.p):=(by rw [HP.out];unfold topS;rw [if_neg hER];rfl);subst hPP;have hne:(ER !=0)=true:=(by simpa using hER);have hne2:(ER==0)=false:=(by simpa using hER);obtain ⟨YK,YT,YM,YE,YP⟩:=y;clear HP;have g0:=field0 YK YT YM YE YP;have g3:=field3 YK YT YM YE YP
    go_enter Tryz.func37,Tryz.ntmps37
    go_wp2_with (first
     | (go_at_call 66;(with_reducible refine (S2.out _).mono ?_);rintro e1 w1 ⟨bt,cap,rfl,hbt,hT,hb1⟩;have HT:=Lib.hid hT;clear hT;have hr0:=HRN.out w1 bt cap hbt HT.out;obtain ⟨hres,hl2,hbw⟩:=res_block hb1 (Below.refl _ w1))
     | (go_at_call 67;(with_reducible refine (V.out _ _ _ _ hr0).mono ?_);rintro e2 w2 ⟨k,m,e',t,an,nn,cn,ai,ni,ci,rfl,hr2,hc2,hJ2⟩;clear hJ2;have hs2:=hc2.size;simp at hs2;have hr3:=fun o=>hr2.below (((Below.refl _ _).alloc (Nat.le_refl _) o));have hc3:=fun o=>hc2.alloc o)
     | (go_at_call 68;(with_reducible refine (here_x (hr3 _)).mono ?_);rintro e3 w3 ⟨rfl,hb3⟩;obtain ⟨q1,q2,q3,q4,q5⟩:=read_stays hres hl2 hbw hc2 hb3;obtain ⟨z0,z1,z2,z3,z4,z5⟩:=six_of q1;have f0:=free_of q1 0;have f1:=free_of q1 1;have f2:=free_of q1 2;have f3:=free_of q1 3;have f4:=free_of q1 4;have f5:=free_of q1 5))
    refine bodyPost_ret (v:= .tuple #[.agg #[.int .i64 0,.int .i64 0,.int .i64 0,.string ⟨#[]⟩,.slice none 0 0,.slice none 0 0],.int .i64 ER,.int .i64 YP]) (by simp [results,Tryz.results37,go_sem,z0,z1,z2,z3,z4,z5]) rfl ?_;exact ⟨_,_,_,_,_,_,_,_,_,_,rfl,⟨1,zero_jat⟩,below_put6 (bres:=w.heap.size) q3 (Nat.le_refl _) _ _ _ _ _ _⟩
end Go.Proofs.YtclghelocglnlaaGreatDoor.Js
