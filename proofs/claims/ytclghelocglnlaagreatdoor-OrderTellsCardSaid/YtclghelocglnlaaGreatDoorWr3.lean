import Derived.Test.YtclghelocglnlaaGreatDoorMW
set_option maxHeartbeats 0
set_option maxRecDepth 100000
set_option linter.all false
namespace Go.Proofs.YtclghelocglnlaaGreatDoor.Js
open Go.RowKit Lex
theorem names_whole:∀{ns seen:List (List UInt8)},namesB seen ns=true->∀n∈ns,Quo.wholeB n=true
 | [],_,_,n,h=>by simp at h
 | x::r,seen,h,n,hn=>by
   rw [namesB,Bool.and_eq_true,Bool.and_eq_true] at h;rcases List.mem_cons.1 hn with rfl | hn
   ·exact h.1
   ·exact names_whole h.2.2 n hn
theorem getD_mem {ns:List (List UInt8)} {k:Nat} (h:k < ns.length):ns.getD k []∈ns:=by
 rw [List.getD_eq_getElem?_getD,List.getElem?_eq_getElem h];exact List.getElem_mem _
theorem wi_obj (S:Nat->Prop) (W0:World) (b d dep:Nat) (ih:WV S W0 b d dep) (m e:Int) (t:ByteArray) (an ai:Option Addr) (cn ci:Nat) (ns:List (List UInt8)) (is:List J) (acc:List UInt8) (w:World)
 (hns:StrsAt S W0 (.slice an is.length cn) ns) (hnl:ns.length=is.length) (hnw:namesB [] ns=true) (hi:is.length<=1599289640354) (hit:ItemsAt S W0 d ai is) (hr:rightL dep is=true) (hB:Quo.BAt W0.heap.size b (Lib.byteCells acc) w) (hb:Below W0.heap.size W0 w) (hlen:acc.length+(printL true true ns is).length<=70368744177664):
 Calls Tryz.prog 86 #[.pointer (some ⟨b,0,none⟩),.agg #[.int .i64 7,.int .i64 m,.int .i64 e,.string t,.slice an is.length cn,.slice ai is.length ci]] w (Quo.Wrote W0.heap.size b (acc++printL true true ns is) w):=by
 obtain ⟨ao,cap,hv,_,hn2,htx,hcell⟩:=hns;obtain ⟨rfl,_,rfl⟩:an=ao/\is.length=ns.length/\cn=cap:=by simpa using hv
 unfold ItemsAt at hit;have HI:=Lib.hid hit;have HR:=Lib.hid (rightL_get hr);have HC:=Lib.hid hcell;have HT:Hid (∀k,k < ns.length->txtB (ns.getD k [])/\Quo.wholeB (ns.getD k [])=true):=fun k hk=>⟨htx _ (getD_mem hk),names_whole hnw _ (getD_mem hk)⟩
 have IH:=Lib.hid ih;have hbl:=isB_lt (.inr hB);clear hit hr ih hcell htx hnw hv;obtain ⟨L,HL⟩:∃L,Hid (acc++printL true true ns is=L):=⟨_,rfl⟩;have hLl:L.length<=70368744177664:=by rw [<-HL.out,List.length_append];exact hlen
 rw [HL.out];obtain ⟨n,HN⟩:∃n,Hid (is.length=n):=⟨_,rfl⟩;have HN2:Hid (ns.length=n):=hnl.trans HN.out;clear hnl;rw [HN.out] at hi⊢;have hsz0:=hb.size;clear hlen hn2
 go_enter Tryz.func86,Tryz.ntmps86
 go_wp2
 go_loopw [9] (fun i wr=>∃(k:Nat) (A:List UInt8),k<=n/\i= .int .i64 k/\Quo.BAt W0.heap.size b (Lib.byteCells A) wr/\Below W0.heap.size w wr/\Quo.Kept b w wr/\
  wr.heap[w.heap.size]?=some (.cells #[.int .i64 7,.int .i64 m,.int .i64 e,.string t,.slice an n cn,.slice ai n ci] 49 (0,0))/\Hid (L=A++printL true (k==0) (ns.drop k) (is.drop k))) (fun i _=>n - (intOf i).toNat)
 case atStart=>exact ⟨0,acc,Nat.zero_le _,rfl,hB.alloc _,(Below.refl _ _).alloc hsz0 _,(Lib.OthersKept.refl _ _ _).alloc _,heap_alloc_new w _,HL.out.symm⟩
 case round=>
  obtain ⟨k,A,hk,rfl,hA,hbw,hkw,hbox,HK⟩:=hrel;clear hB HL
  by_cases hlt:k < n
  ·obtain ⟨b0,off,rfl,hS,hb0,hel⟩:=HI.out (by rw [HN.out];omega);obtain ⟨bn,offn,rfl,_,hbn,hcn⟩:=HC.out (by rw [HN2.out];omega);obtain ⟨u,hu1,hu2⟩:=hel k (by rw [HN.out];exact hlt);obtain ⟨k',m',e',t',an',nn',cn',ai',ni',ci',rfl⟩:=jAt_form hu2;have hbr:=hb.trans hbw;obtain ⟨x0,x1,x2,x3,x4,x5⟩:=(hu1.keep (hbr.block b0 hb0)).six;have HS:=Lib.hid (printL_step true (k==0) ns is k (by rw [HN.out];exact hlt));have hrj:=HR.out k (by rw [HN.out];exact hlt);obtain ⟨htx,hwh⟩:=HT.out k (by rw [HN2.out];exact hlt);have HNC:Hid (∀w',Below W0.heap.size W0 w'->w'.cell? ⟨bn,offn+k,none⟩=some (.string ⟨(ns.getD k []).toArray⟩)):=fun w' h=>(h.cell (p:=⟨bn,offn+k,none⟩) hbn).trans (hcn k (by rw [HN2.out];exact hlt))
   have hbl2:b < wr.heap.size:=isB_lt (.inr hA);have hsz:W0.heap.size<=wr.heap.size:=hbr.size;have hxl:=Own.block_lt hbox;have C:=Lib.hid (fun acc w'=>IH.out _ (is.getD k j0) acc w' hu2 hrj);clear hel hu1 hu2 HI HR IH HC HT hcn hrj;generalize is.getD k j0=j at *;generalize ns.getD k []=N at *;have HX:=Lib.hid (And.intro htx hwh);clear htx hwh;generalize hQ:Quo.quoteL N=q at *;have HQ:=Lib.hid hQ;clear hQ;obtain ⟨c0,c1,c2,c3,c4,c5⟩:=six_of hbox;have tk1:(k+1==0)=false:=by simp
   have i1:(k:Int) < (n:Int):=by omega
   by_cases hk0:k=0
   ·have t0:(k:Int)<=0:=(by omega);have tk:(k==0)=true:=(by simp;exact hk0);rw [tk] at HS HK
    have hLk:A.length+q.length+1+(printJ j).length<=L.length:=by
     rw [HK.out,HS.out];simp only [List.length_append,if_true,List.length_cons,List.length_nil];omega
    have n0:=HNC.out wr hbr;have hbn2:bn < wr.heap.size:=Nat.lt_of_lt_of_le hbn hsz;clear hk0 tk
    go_wp2_with (first
     | (go_at_call 84;(with_reducible refine (wt_any W0.heap.size b A N _ (isB_of (hA.alloc _)) HX.out.1 HX.out.2 (by rw [HQ.out];omega) (by simp;omega)).mono ?_);rw [HQ.out];rintro e1 w1 ⟨rfl,hA1,hb1,hk1⟩;have hs1:=hb1.size;simp at hs1;have hbx1:=kept_cells hk1 ((Below.heap_alloc _ _ _ hxl).trans hbox) (by omega) (by decide);have hit1:=kept_cells hk1 (heap_alloc_new wr _) (by omega) (by decide))
     | (go_at_call 85;(with_reducible refine (wb_of W0.heap.size b (A++q) 58 58 rfl _ (isB_of hA1) (by rw [List.length_append];omega) (by omega)).mono ?_);rintro e2 w2 ⟨rfl,hA2,hb2,hk2⟩;have hs2:=hb2.size;have hbx2:=kept_cells hk2 hbx1 (by omega) (by decide);have hit2:=kept_cells hk2 hit1 (by omega) (by decide);obtain ⟨z0,z1,z2,z3,z4,z5⟩:=six_of hit2;have hbr2:=((hbr.alloc hsz _).trans hb1).trans hb2)
     | (go_at_call 46;(with_reducible refine (C.out (A++q++ [58]) _ (isB_of hA2) hbr2 (by simp only [List.length_append,List.length_cons,List.length_nil];omega)).mono ?_);rintro e3 w3 ⟨rfl,hA3,hb3,hk3⟩))
    go_roundw
    case rel=>exact ⟨k+1,A++q++ [58]++printJ j,by omega,by go_num,hA3,(((hbw.alloc hsz _).trans hb1).trans hb2).trans hb3,(((hkw.alloc _).trans hk1).trans hk2).trans hk3,kept_cells hk3 hbx2 (by omega) (by decide),by show _=_;rw [HK.out,HS.out,tk1];simp⟩
    case measure=>simp [intOf];omega
   ·have t0:(0:Int) < (k:Int):=(by omega);have tk:(k==0)=false:=(by simp;exact hk0);rw [tk] at HS HK
    have hLk:A.length+1+q.length+1+(printJ j).length<=L.length:=by
     rw [HK.out,HS.out];simp only [List.length_append,if_true,Bool.false_eq_true,if_false,List.length_cons,List.length_nil];omega
    clear hk0 tk
    go_wp2_with (first
     | (go_at_call 84;(with_reducible refine (wt_any W0.heap.size b (A++ [44]) N _ (isB_of hA0) HX.out.1 HX.out.2 (by rw [HQ.out];simp only [List.length_append,List.length_cons,List.length_nil];omega) (by omega)).mono ?_);rw [HQ.out];rintro e1 w1 ⟨rfl,hA1,hb1,hk1⟩;have hs1:=hb1.size;have hbx1:=kept_cells hk1 hbx0 (by omega) (by decide);have hit1:=kept_cells hk1 hit0 (by omega) (by decide))
     | (go_at_call 46;(with_reducible refine (C.out (A++ [44]++q++ [58]) _ (isB_of hA2) hbr2 (by simp only [List.length_append,List.length_cons,List.length_nil];omega)).mono ?_);rintro e3 w3 ⟨rfl,hA3,hb3,hk3⟩)
     | (go_at_call 85;(with_reducible refine (wb_of W0.heap.size b A 44 44 rfl _ (isB_of (hA.alloc _)) (by omega) (by simp;omega)).mono ?_);rintro e0 w0 ⟨rfl,hA0,hb0',hk0'⟩;have hs0:=hb0'.size;simp at hs0;have hbx0:=kept_cells hk0' ((Below.heap_alloc _ _ _ hxl).trans hbox) (by omega) (by decide);have hit0:=kept_cells hk0' (heap_alloc_new wr _) (by omega) (by decide);obtain ⟨y0,y1,y2,y3,y4,y5⟩:=six_of hbx0;have n0:=HNC.out w0 ((hbr.alloc hsz _).trans hb0'))
     | (go_at_call 85;(with_reducible refine (wb_of W0.heap.size b (A++ [44]++q) 58 58 rfl _ (isB_of hA1) (by simp only [List.length_append,List.length_cons,List.length_nil];omega) (by omega)).mono ?_);rintro e2 w2 ⟨rfl,hA2,hb2,hk2⟩;have hs2:=hb2.size;have hbx2:=kept_cells hk2 hbx1 (by omega) (by decide);have hit2:=kept_cells hk2 hit1 (by omega) (by decide);obtain ⟨z0,z1,z2,z3,z4,z5⟩:=six_of hit2;have hbr2:=(((hbr.alloc hsz _).trans hb0').trans hb1).trans hb2))
    go_roundw
    case rel=>exact ⟨k+1,A++ [44]++q++ [58]++printJ j,by omega,by go_num,hA3,((((hbw.alloc hsz _).trans hb0').trans hb1).trans hb2).trans hb3,((((hkw.alloc _).trans hk0').trans hk1).trans hk2).trans hk3,kept_cells hk3 hbx2 (by omega) (by decide),by show _=_;rw [HK.out,HS.out,tk1];simp⟩
    case measure=>simp [intOf];omega
  ·have HE:Hid (L=A):=by show _=_;rw [HK.out,List.drop_of_length_le (l:=is) (by rw [HN.out];omega),printL];simp
   go_wp2_with fail
   go_end0
   exact ⟨rfl,by rw [HE.out];exact hA,hbw,hkw⟩
theorem ws_c (B b:Nat) (acc l:List UInt8) (s:ByteArray) (hs:(⟨l.toArray⟩:ByteArray)=s) (w:World) (h:Quo.IsB B b (Lib.byteCells acc) w) (hlen:acc.length+l.length<=70368744177664) (hBw:B<=w.heap.size):
 Calls Tryz.prog 82 #[.pointer (some ⟨b,0,none⟩),.string s] w fun e w'=>∃x,e= .returned (.tuple #[x,.nilIface])/\Quo.BAt B b (Lib.byteCells (acc++l)) w'/\Below B w w'/\Quo.Kept b w w':=by
 subst hs;exact ws_of B b acc l w h hlen hBw
theorem fresh_isB (B:Nat) (w:World) (h:B<=w.heap.size):Quo.IsB B w.heap.size (Lib.byteCells []) (w.alloc (.cells #[.pointer none,.slice none 0 0] 81)):=
 Lib.IsBuilderF.of (Or.inl ⟨h,.slice none 0 0,heap_alloc_new w _,World.ownsRow_nil _ _ _ _,by simp [Value.ownBlock]⟩)
theorem dprint_of (m e:Int) (w:World) (h:Dec.Tab w):Calls Tryz.prog 83 #[.agg #[.int .i64 m,.int .i64 e]] w (Ret (.string ⟨(Dec.printS m e).toArray⟩) w):=Dec.print_any m e w h
theorem wv_any (S:Nat->Prop) (W0:World) (b:Nat) (hT:Dec.Tab W0):∀d dep,WV S W0 b d dep:=by
 intro d
 induction d with
 | zero=>intro dep u j acc w h;exact h.elim
 | succ d ih=>
   intro dep u j acc w h hr hB hb hlen;have hbl:=isB_lt hB;have hsz:=hb.size;have hba:∀o,Below W0.heap.size w (w.alloc o):=fun o=>(Below.refl _ _).alloc hsz _
   have hka:∀o,Quo.Kept b w (w.alloc o):=fun o=>(Lib.OthersKept.refl _ _ _).alloc _
   have HBA:=Lib.hid (And.intro hba hka);clear hba hka;have HB:=Lib.hid (fun o=>hB.alloc o);obtain ⟨hdep,hj⟩:=rightJ_forms hr;rcases hj with rfl | rfl | rfl | ⟨m,e,rfl,hmr⟩ | ⟨t,rfl,htw⟩ | ⟨is,rfl,hir⟩ | ⟨ns,is,rfl,hnl,hnb,hir⟩
   ·obtain ⟨d',an,cn,ai,ci,_,rfl,_⟩:=h.open_;rw [show printJ (.mk 1 0 0 [] [] [])=nullL by rw [printJ,if_pos rfl]] at hlen⊢;clear ih h hr;have hq:(⟨nullL.toArray⟩:ByteArray)=⟨#[110,117,108,108]⟩:=rfl
    go_enter Tryz.func46,Tryz.ntmps46
    go_wp2_with (go_at_call 82;(with_reducible refine (ws_c W0.heap.size b acc nullL _ hq _ (HB.out _) hlen (by simp;omega)).mono ?_);rintro e1 w1 ⟨x,rfl,hA1,hb1,hk1⟩)
    go_end0
    exact ⟨rfl,hA1,(HBA.out.1 _).trans hb1,(HBA.out.2 _).trans hk1⟩
   ·obtain ⟨d',an,cn,ai,ci,_,rfl,_⟩:=h.open_;rw [show printJ (.mk 2 0 0 [] [] [])=falseL by rw [printJ,if_neg (by decide),if_pos rfl]] at hlen⊢;clear ih h hr;have hq:(⟨falseL.toArray⟩:ByteArray)=⟨#[102,97,108,115,101]⟩:=rfl
    go_enter Tryz.func46,Tryz.ntmps46
    go_wp2_with (go_at_call 82;(with_reducible refine (ws_c W0.heap.size b acc falseL _ hq _ (HB.out _) hlen (by simp;omega)).mono ?_);rintro e1 w1 ⟨x,rfl,hA1,hb1,hk1⟩)
    go_end0
    exact ⟨rfl,hA1,(HBA.out.1 _).trans hb1,(HBA.out.2 _).trans hk1⟩
   ·obtain ⟨d',an,cn,ai,ci,_,rfl,_⟩:=h.open_;rw [show printJ (.mk 3 0 0 [] [] [])=trueL by rw [printJ,if_neg (by decide),if_neg (by decide),if_pos rfl]] at hlen⊢;clear ih h hr;have hq:(⟨trueL.toArray⟩:ByteArray)=⟨#[116,114,117,101]⟩:=rfl
    go_enter Tryz.func46,Tryz.ntmps46
    go_wp2_with (go_at_call 82;(with_reducible refine (ws_c W0.heap.size b acc trueL _ hq _ (HB.out _) hlen (by simp;omega)).mono ?_);rintro e1 w1 ⟨x,rfl,hA1,hb1,hk1⟩)
    go_end0
    exact ⟨rfl,hA1,(HBA.out.1 _).trans hb1,(HBA.out.2 _).trans hk1⟩
   ·obtain ⟨d',an,cn,ai,ci,_,rfl,_⟩:=h.open_;rw [show printJ (.mk 4 m e [] [] [])=Dec.printS m e by rw [printJ,if_neg (by decide),if_neg (by decide),if_neg (by decide),if_pos rfl]] at hlen⊢;have D:=Lib.hid (fun o=>dprint_of m e (w.alloc o) (hT.below (hb.alloc hsz o)));clear ih h hr;generalize Dec.printS m e=q at *
    go_enter Tryz.func46,Tryz.ntmps46
    go_wp2_with (first | (go_at_call 83;(with_reducible refine (D.out _).mono ?_);rintro e1 w1 ⟨rfl,hb1⟩;have hs1:=hb1.size;simp at hs1) | (go_at_call 82;(with_reducible refine (ws_of W0.heap.size b acc q _ (isB_below (HB.out _) hb1) hlen (by omega)).mono ?_);rintro e2 w2 ⟨x,rfl,hA2,hb2,hk2⟩))
    go_end0
    exact ⟨rfl,hA2,((HBA.out.1 _).trans (hb1.mono (by simp;omega))).trans hb2,(kept_below (HBA.out.2 _) hb1).trans hk2⟩
   ·obtain ⟨d',an,cn,ai,ci,_,rfl,_,_,_,htx,_⟩:=h.open_;rw [show printJ (.mk 5 0 0 t [] [])=Quo.quoteL t by rw [printJ,if_neg (by decide),if_neg (by decide),if_neg (by decide),if_neg (by decide),if_pos rfl]] at hlen⊢;clear ih h hr;have HX:=Lib.hid (And.intro htx htw);clear htx htw
    go_enter Tryz.func46,Tryz.ntmps46
    go_wp2_with (go_at_call 84;(with_reducible refine (wt_any W0.heap.size b acc t _ (HB.out _) HX.out.1 HX.out.2 hlen (by simp;omega)).mono ?_);rintro e1 w1 ⟨rfl,hA1,hb1,hk1⟩)
    go_end0
    exact ⟨rfl,hA1,(HBA.out.1 _).trans hb1,(HBA.out.2 _).trans hk1⟩
   ·obtain ⟨d',an,cn,ai,ci,hd',rfl,_,_,_,_,_,_,_,_,hi,hit⟩:=h.open_;obtain rfl:d'=d:=by omega
    rw [show printJ (.mk 6 0 0 [] [] is)=91::(printL false true [] is++ [93]) by rw [printJ,if_neg (by decide),if_neg (by decide),if_neg (by decide),if_neg (by decide),if_neg (by decide),if_pos rfl]] at hlen⊢;have hl2:acc.length+(printL false true [] is).length+2<=70368744177664:=(by simp at hlen;omega);have C:=Lib.hid (fun acc w' hB hb hl=>wi_arr S W0 b d' (dep+1) (ih (dep+1)) 0 0 ⟨#[]⟩ (.slice an 0 cn) ai ci is acc w' ⟨_,_,_,rfl⟩ hi hit hir hB hb hl);have HE:Hid (acc++91::(printL false true [] is++ [93])=acc++ [91]++printL false true [] is++ [93]):=(by show _=_;simp);rw [HE.out];clear ih h hr hit hir hlen HE hd';generalize printL false true [] is=q at *;generalize is.length=n at *
    go_enter Tryz.func46,Tryz.ntmps46
    go_wp2_with (first
     | (go_at_call 86;(with_reducible refine (C.out (acc++ [91]) _ hA1 (hb.trans hbb1) (by simp only [List.length_append,List.length_cons,List.length_nil];omega)).mono ?_);rintro e2 w2 ⟨rfl,hA2,hb2,hk2⟩;have hs2:=hb2.size)
     | (go_at_call 85;(with_reducible refine (wb_of W0.heap.size b acc 91 91 rfl _ (HB.out _) (by omega) (by simp;omega)).mono ?_);rintro e1 w1 ⟨rfl,hA1,hb1,hk1⟩;have hs1:=hb1.size;simp at hs1;have hbb1:=(HBA.out.1 _).trans hb1;obtain ⟨z0,z1,z2,z3,z4,z5⟩:=six_of (kept_cells hk1 (heap_alloc_new w _) (by omega) (by decide)))
     | (go_at_call 85;(with_reducible refine (wb_of W0.heap.size b (acc++ [91]++q) 93 93 rfl _ (isB_of hA2) (by simp only [List.length_append,List.length_cons,List.length_nil];omega) (by omega)).mono ?_);rintro e3 w3 ⟨rfl,hA3,hb3,hk3⟩))
    go_end0
    exact ⟨rfl,hA3,(hbb1.trans hb2).trans hb3,(((HBA.out.2 _).trans hk1).trans hk2).trans hk3⟩
   ·obtain ⟨d',an,cn,ai,ci,hd',rfl,_,_,_,_,hns,_,_,_,hi,hit⟩:=h.open_;obtain rfl:d'=d:=by omega
    rw [show printJ (.mk 7 0 0 [] ns is)=123::(printL true true ns is++ [125]) by rw [printJ,if_neg (by decide),if_neg (by decide),if_neg (by decide),if_neg (by decide),if_neg (by decide),if_neg (by decide),if_pos rfl]] at hlen⊢;have hl2:acc.length+(printL true true ns is).length+2<=70368744177664:=(by simp at hlen;omega);rw [hnl] at hns⊢;have C:=Lib.hid (fun acc w' hB hb hl=>wi_obj S W0 b d' (dep+1) (ih (dep+1)) 0 0 ⟨#[]⟩ an ai cn ci ns is acc w' hns hnl hnb hi hit hir hB hb hl);have HE:Hid (acc++123::(printL true true ns is++ [125])=acc++ [123]++printL true true ns is++ [125]):=(by show _=_;simp);rw [HE.out];clear ih h hr hit hir hlen HE hd' hns hnl hnb;generalize printL true true ns is=q at *;generalize is.length=n at *
    go_enter Tryz.func46,Tryz.ntmps46
    go_wp2_with (first
     | (go_at_call 86;(with_reducible refine (C.out (acc++ [123]) _ hA1 (hb.trans hbb1) (by simp only [List.length_append,List.length_cons,List.length_nil];omega)).mono ?_);rintro e2 w2 ⟨rfl,hA2,hb2,hk2⟩;have hs2:=hb2.size)
     | (go_at_call 85;(with_reducible refine (wb_of W0.heap.size b acc 123 123 rfl _ (HB.out _) (by omega) (by simp;omega)).mono ?_);rintro e1 w1 ⟨rfl,hA1,hb1,hk1⟩;have hs1:=hb1.size;simp at hs1;have hbb1:=(HBA.out.1 _).trans hb1;obtain ⟨z0,z1,z2,z3,z4,z5⟩:=six_of (kept_cells hk1 (heap_alloc_new w _) (by omega) (by decide)))
     | (go_at_call 85;(with_reducible refine (wb_of W0.heap.size b (acc++ [123]++q) 125 125 rfl _ (isB_of hA2) (by simp only [List.length_append,List.length_cons,List.length_nil];omega) (by omega)).mono ?_);rintro e3 w3 ⟨rfl,hA3,hb3,hk3⟩))
    go_end0
    exact ⟨rfl,hA3,(hbb1.trans hb2).trans hb3,(((HBA.out.2 _).trans hk1).trans hk2).trans hk3⟩
theorem print_of (S:Nat->Prop) (v:Value) (j:J) (w:World) (hT:Dec.Tab w) (h:JA S w v j) (hlen:(printJ j).length<=35184372088832):Calls Tryz.prog 19 #[v] w (Ret (.string ⟨(printS j).toArray⟩) w):=by
 obtain ⟨d,h⟩:=h;obtain ⟨k,m,e,t,an,nn,cn,ai,ni,ci,rfl⟩:=jAt_form h;have hb:∀o,Below w.heap.size w (w.alloc o):=fun o=>(Below.refl _ _).alloc (Nat.le_refl _) _
 have HB:=Lib.hid hb;have C1:=Lib.hid (fun o=>right_of S _ j (w.alloc o) ⟨d,h.below (HB.out o) (Nat.le_refl _)⟩);unfold printS
 cases hr:rightJ 1 j with
 | false=>
   rw [hr] at C1;rw [if_neg (by decide)];clear hb h
   go_enter Tryz.func19,Tryz.ntmps19
   go_wp2_with (go_at_call 45;(with_reducible refine (C1.out _).mono ?_);rintro e1 w1 ⟨rfl,hb1⟩)
   go_ret
   exact ⟨rfl,(HB.out _).trans (hb1.mono (by simp))⟩
 | true=>
   rw [hr] at C1;rw [if_pos rfl];have V:=Lib.hid (fun b w' hB hb=>wv_any S w b hT d 1 _ j [] w' h hr hB hb (by simp;omega));have HL:=Lib.hid hlen;clear hb h hr hlen;rw [List.nil_append] at V;generalize printJ j=q at *
   go_enter Tryz.func19,Tryz.ntmps19
   go_wp2_with (first
    | (go_at_call 45;(with_reducible refine (C1.out _).mono ?_);rintro e1 w1 ⟨rfl,hb1⟩;have hbb:=(HB.out _).trans (hb1.mono (by simp));have hs1:=hb1.size;simp at hs1;have hl1:w.heap.size < w1.heap.size:=(by omega);obtain ⟨z0,z1,z2,z3,z4,z5⟩:=box_cells hb1;have hI0:Quo.IsB w.heap.size w1.heap.size (Lib.byteCells []) (w1.alloc (.cells #[.pointer none,.slice none 0 0] 81)):=fresh_isB _ _ (by omega))
    | (go_at_call 46;(with_reducible refine (V.out w1.heap.size _ hI0 (hbb.alloc (by omega) _)).mono ?_);rintro e2 w2 ⟨rfl,hA2,hb2,hk2⟩)
    | (go_at_call 47;(with_reducible refine (Tryz.Builder_String_any_k w.heap.size w1.heap.size q _ (isB_of hA2) (Nat.le_trans hbb.size (Nat.le_trans (by simp) hb2.size))).mono ?_);rintro e3 w3 ⟨rfl,_,hb3,_⟩))
   go_ret
   exact ⟨rfl,((hbb.alloc (by omega) _).trans hb2).trans hb3⟩
end Go.Proofs.YtclghelocglnlaaGreatDoor.Js
