import Derived.Test.YtclghelocglnlaaGreatDoorMD
import Derived.Deep.DeepCutAuto
import Derived.Deep.CutRange
set_option maxHeartbeats 0
set_option maxRecDepth 100000
set_option linter.all false
namespace Go.Proofs.YtclghelocglnlaaGreatDoor.Js
open Go.RowKit Lex
theorem mkL_step (names:List (List UInt8)) (items:List J) (q:Nat) (h1:q < names.length) (h2:q < items.length) (ns:List (List UInt8)) (is:List J):
 mkL (names.drop q) (items.drop q) ns is=if ns.contains (names.getD q [])=true then mkL (names.drop (q+1)) (items.drop (q+1)) ns is else mkL (names.drop (q+1)) (items.drop (q+1)) (ns++ [names.getD q []]) (is++ [items.getD q j0]):=by
 rw [drop_getD0 [] h1,drop_getD0 j0 h2,mkL]
theorem mkL_end (names:List (List UInt8)) (items:List J) (q:Nat) (h:names.length<=q∨items.length<=q) (ns:List (List UInt8)) (is:List J):mkL (names.drop q) (items.drop q) ns is=(ns,is):=by
 rcases h with h | h
 ·rw [List.drop_of_length_le h,mkL]
 ·rw [List.drop_of_length_le h]
  cases names.drop q <;> rfl
theorem make5_any (S1 S2:Nat->Prop) (d:Nat) (w:World) (an:Option Addr) (cn:Nat) (ai:Option Addr) (ci:Nat) (names:List (List UInt8)) (items:List J) (hN:StrsAt S1 w (.slice an names.length cn) names) (hl:items.length<=1599289640354) (hc:items.length<=ci) (hI:ItemsAt S2 w d ai items)
 (hm:min names.length items.length<=1000000):Calls Tryz.prog 48 #[.slice an names.length cn,.slice ai items.length ci] w (CRet w (d+1) (mkJ names items)):=by
 obtain ⟨_,_,e1,hn1,hn2,htx,hcn⟩:=hN
 cases e1
 have HX:=Lib.hid htx;have HCN:=Lib.hid hcn;have HIT:Hid (ItemsAt S2 w d ai items):=hI;obtain ⟨i0,hi0,hz0,hz1,hz2⟩:=info_parts json_info;obtain ⟨i1,hi1,hx0,hx1,hx2⟩:=info_parts str_info2;obtain ⟨FN,HFN⟩:∃FN,Hid (mkL names items [] []=FN):=⟨_,rfl⟩;unfold mkJ;rw [HFN.out];clear htx hcn hI;obtain ⟨nn,HNN⟩:∃n,Hid (names.length=n):=⟨_,rfl⟩;obtain ⟨ni,HNI⟩:∃n,Hid (items.length=n):=⟨_,rfl⟩;rw [HNN.out] at hn1 hn2 hm⊢;rw [HNI.out] at hl hc hm⊢;have hmm:= @run_makeMap Tryz.prog
 go_enter Tryz.func48,Tryz.ntmps48
 go_wp2_with fail
 go_loopw [17] (fun i wr=>∃(q:Nat) (ns:List (List UInt8)) (acc:List J),q<=nn/\q<=ni/\i= .int .i64 (q:Int)/\Hid (mkL (names.drop q) (items.drop q) ns acc=FN)/\acc.length<=q/\ns.length<=q/\Hid (MI w d ns ns acc wr)) (fun i _=>nn - (intOf i).toNat)
 case atStart=>exact ⟨0,[],[],Nat.zero_le _,Nat.zero_le _,rfl,HFN,by simp,by simp,MI.begin⟩
 case round=>
  clear HFN;obtain ⟨q,ns,acc,hq1,hq2,rfl,HF,hal,hnl,HI⟩:=hrel;have hsz:=HI.out.sz
  by_cases hlt:q < nn/\q < ni
  ·obtain ⟨hl1,hl2⟩:=hlt;have a1:(q:Int) < min (nn:Int) (ni:Int):=by omega
   have a2:(q:Int) < (nn:Int):=by omega
   have a3:(q:Int) < (ni:Int):=by omega
   obtain ⟨bn,on,rfl,_,hbn,hxn⟩:=HCN.out (by rw [HNN.out];omega);have x1:=(World.cell?_of_block (w:=w) (a:=⟨bn,on+q,none⟩) (HI.out.bel.block bn hbn)).trans (hxn q (by rw [HNN.out];omega));have HST:=Lib.hid (mkL_step names items q (by rw [HNN.out];exact hl1) (by rw [HNI.out];exact hl2) ns acc);have HNM:Hid (txtB (names.getD q [])):=HX.out _ (by rw [List.getD_eq_getElem?_getD,List.getElem?_eq_getElem (by rw [HNN.out];exact hl1)];exact List.getElem_mem _);have hbnr:bn < wr.heap.size:=Nat.lt_of_lt_of_le hbn HI.out.bel.size;unfold strW at x1;generalize names.getD q []=nm at *;have hkey:keyOf Tryz.prog 9 (.string ⟨nm.toArray⟩)=some (.string nm):=Go.WideMaps.keyOf_string_mk Tryz.underlying9 (by have hn:=HNM.out;unfold txtB at hn;show (⟨nm.toArray⟩:ByteArray).size<=maxLen;rw [bs_size];unfold maxLen;omega);have hH:=set_has ns nm;have h:=HI.out.set;have HS:Hid (SetIs wr (w.heap.size+2) ns):=h;have HB0:=HI.out.own
   cases hcc:ns.contains nm with
   | true=>
     rw [hcc] at hH;have HCC:=Lib.hid hcc;clear hcc hxn HB0
     go_wp2_with (at_lookup;refine wpList_lookup_own_unit _ rfl _ _ 132 rfl 9 133 law_str Tryz.underlying132 (zero_unit _) (w.heap.size+2) ns.length _ rfl h _ _ rfl hkey ?_)
     go_roundw
     case rel=>exact ⟨q+1,ns,acc,by omega,by omega,by go_num,by show _=_;rw [<-HF.out,HST.out,if_pos HCC.out],by omega,by omega,HI.out.below (belowOne _ _) (Nat.le_refl _)⟩
     case measure=>simp [intOf];omega
   | false=>
     rw [hcc] at hH;have HCC:=Lib.hid hcc;clear hcc hxn HB0
     go_wp2_with (first
      | (at_lookup;refine wpList_lookup_own_unit _ rfl _ _ 132 rfl 9 133 law_str Tryz.underlying132 (zero_unit _) (w.heap.size+2) ns.length _ rfl h _ _ rfl hkey ?_)
      | (at_mapUpdate;refine wpList_mapUpdate_own _ rfl _ _ _ 132 rfl 9 133 law_str Tryz.underlying132 (unitElem (H:=Unit)) (w.heap.size+2) ns.length _ rfl (World.ownsMap.alloc h _) (by unfold maxLen;omega) _ _ _ rfl rfl hkey _ [] unitElem_mk ?_;intro w1 hown1 hgrow1))
     have hS1:SetIs w1 (w.heap.size+2) (ns++ [nm]):=by
      show World.ownsMap _ _ _ _ _ _ _;simp only [List.length_append,List.length_cons,List.length_nil,List.map_append,List.map_cons,List.map_nil,Maps.setOf_snoc];exact hown1
     have hm1:Moves wr.heap.size (w.heap.size+2) wr w1:=((Moves.refl _ _ _).alloc (Nat.le_refl _) _).grown hgrow1 (by simp) (fun k hk=> .inr (by cases hk;rfl));have hM1:=HI.out.seen hm1 hS1;have hs1:=hm1.size;have x2:=(hm1.cell (p:=⟨bn,on+q,none⟩) hbnr (by show bn≠_;omega)).trans x1;have hbn1:bn < w1.heap.size:=(by omega);clear hown1 hgrow1 hS1 hm1 x1 h hH hkey HS HI;have HM1:=Lib.hid hM1;clear hM1;simp only [Act.put]
     go_cut [36] from 36 to 44 (fun pv wx=>Hid (MI w d (ns++ [nm]) (ns++ [nm]) acc wx))
     case first=>
      obtain ⟨nv,iv,vs,hO⟩:=HM1.out.own;obtain ⟨ao,cap,rfl⟩:=own_slice hO.irow;obtain ⟨ano,cap2,rfl⟩:=own_slice hO.nrow;obtain ⟨y0,y1,y2,y3,y4,y5⟩:=six_of hO.blk;have yf:=free_of hO.blk 4;have hbl1:w.heap.size+1 < w1.heap.size:=Own.block_lt hO.blk;have hnb:∀b,(Value.slice ano ns.length cap2).ownBlock=some b->w.heap.size+3<=b/\b < w1.heap.size:=fun b hb=>hO.nrow.lt b hb
      have hnbv:some (w.heap.size+1)≠(Value.slice ano ns.length cap2).ownBlock:=fun h=>by have:=(hnb _ h.symm).1;omega
      have HNBV:=Lib.hid hnbv;have HO:=Lib.hid hO;clear hO hnb hnbv
      go_region_law ((refine step_append_lies _ (by rfl) _ _ _ (by rfl) (w.heap.size+3) 9 i1 _ 1 16 Tryz.underlying36 hi1 hx0 hx1 hx2 rfl (by omega) _ ns.length (ns.map strW) (by rfl) ((HO.out.nrow.drew).alloc _) ⟨w1.heap.size,0,none⟩ 1 1 [.string ⟨nm.toArray⟩] (by rfl) (by rfl) (World.news_of_block (cs:=#[.string ⟨nm.toArray⟩]) (t:=9) (fr:=(0,0)) (heap_alloc_new _ _)) (by simp [Value.oneCell']) (by omega) (by unfold maxLen;omega) (by omega) (by simp;omega) (w1.heap.size+1) (by simp) ?_;intro g cp w3 hown hgrow hat hlt;have k4:=(hgrow.cell_far ⟨w.heap.size+1,4,none⟩ (by simp;omega) HNBV.out).trans ((World.cell?_of_block (w:=w1) (a:=⟨w.heap.size+1,4,none⟩) (Below.heap_alloc _ _ _ (by show w.heap.size+1 < w1.heap.size;omega))).trans y4);have kf:=(hgrow.frozen_far ⟨w.heap.size+1,4,none⟩ (by simp;omega) HNBV.out).trans ((World.frozen?_of_block (w:=w1) (a:=⟨w.heap.size+1,4,none⟩) (Below.heap_alloc _ _ _ (by show w.heap.size+1 < w1.heap.size;omega))).trans yf)))
      all_goals go_wp2_with fail
      all_goals go_meet
      all_goals exact HM1.out.name HO.out ((Below.refl _ _).drew.alloc (Nat.le_refl _) _) hgrow (hat.imp id (fun h=>by omega)) HNM.out hown
     case rest=>
      clear HM1 x2 hbn1 hs1 hbnr hsz;have HM2:=hcut
      have HF2:Hid (mkL (names.drop (q+1)) (items.drop (q+1)) (ns++ [nm]) (acc++ [items.getD q j0])=FN):=by
       show _=_;rw [<-HF.out,HST.out,if_neg (by rw [HCC.out];simp)]
      obtain ⟨bi,oi,c0,c1,c2,c3,c4,c5,rfl,hbi,hli,hJi⟩:=item_at (P:=(q:Int)) HIT.out (by omega) (by rw [HNI.out];exact a3);rw [show ((q:Int)).toNat=q from rfl] at hli hJi;have IC0:=fun (w':World) (hb:Below w.heap.size w w')=>copied_ok d S2 w' _ _ (hJi.below hb (Nat.le_refl _))
      unfold CRet at IC0;have IC:=Lib.hid IC0;clear IC0 hJi;generalize items.getD q j0=y at *;generalize wc=w2 at *;have hsz2:=HM2.out.sz;obtain ⟨v0,v1,v2,v3,v4,v5⟩:=(hli.keep (HM2.out.bel.block bi hbi)).six;have hbi2:bi < w2.heap.size:=(by have:=HM2.out.bel.size;omega);obtain ⟨nv,iv,vs,hO⟩:=HM2.out.own;obtain ⟨ao2,cap2,rfl⟩:=own_slice hO.irow;obtain ⟨y0,y1,y2,y3,y4,y5⟩:=six_of hO.blk;have hbl2:w.heap.size+1 < w2.heap.size:=Own.block_lt hO.blk;have HO:=Lib.hid hO;clear hO hli hcut;have IC1:=Lib.hid (IC.out w2.drew HM2.out.bel.drew);clear IC
      go_wp2_with fail
      go_region_law (first
       | (go_simp;go_at_call 87;(with_reducible refine (IC1.out).mono ?_);rintro e3 w3 ⟨k3,m3,e3',t3,an3,nn3,cn3,ai3,ni3,ci3,rfl,hJ3,hb3⟩;have hb3':Below w2.heap.size w2 w3:=((Below.refl _ _).drew).trans hb3;have hs3:=hb3'.size;have hl3:w.heap.size+1 < w3.heap.size:=(by omega);have HO3:=Lib.hid (HO.out.below5 hb3' (Nat.le_refl _));have y5':=(six_of HO3.out.blk).2.2.2.2.2;have yf:=free_of HO3.out.blk 5;have HNE:=Lib.hid HO3.out.ine)
       | (refine step_append_lies _ (by rfl) _ _ _ (by rfl) (w.heap.size+3) 49 i0 _ 6 88 Tryz.underlying47 hi0 hz0 hz1 hz2 rfl (by omega) _ acc.length (vs.flatMap aggC) (by rfl) (HO3.out.irow.alloc _) ⟨w3.heap.size,0,none⟩ 1 1 [.int .i64 k3,.int .i64 m3,.int .i64 e3',.string t3,.slice an3 nn3 cn3,.slice ai3 ni3 ci3] (by rfl) (by rfl) (World.news_of_block (cs:=#[.int .i64 k3,.int .i64 m3,.int .i64 e3',.string t3,.slice an3 nn3 cn3,.slice ai3 ni3 ci3]) (t:=49) (fr:=(0,0)) (heap_alloc_new _ _)) (by simp [Value.oneCell']) (by omega) (by unfold maxLen;omega) (by omega) (by simp;omega) (w3.heap.size+1) (by simp) ?_;intro g cp w4 hown hgrow hat hlt;have k5:=(hgrow.cell_far ⟨w.heap.size+1,5,none⟩ (by simp;omega) (fun h=>HNE.out h.symm)).trans ((World.cell?_of_block (w:=w3) (a:=⟨w.heap.size+1,5,none⟩) (Below.heap_alloc _ _ _ (by show w.heap.size+1 < w3.heap.size;omega))).trans y5');have kf:=(hgrow.frozen_far ⟨w.heap.size+1,5,none⟩ (by simp;omega) (fun h=>HNE.out h.symm)).trans ((World.frozen?_of_block (w:=w3) (a:=⟨w.heap.size+1,5,none⟩) (Below.heap_alloc _ _ _ (by show w.heap.size+1 < w3.heap.size;omega))).trans yf)))
      all_goals go_wp2_with fail
      all_goals go_roundw
      all_goals first
       | exact ⟨q+1,ns++ [nm],acc++ [y],by omega,by omega,by go_num,HF2,by simp;omega,by simp;omega,HM2.out.item HO.out hb3' ((Below.refl _ _).alloc (Nat.le_refl _) _) hgrow (hat.imp id (fun h=>by omega)) hown hJ3⟩
       | (simp [intOf];omega)
  ·have a1:¬(q:Int) < min (nn:Int) (ni:Int):=by omega
   have HEQ:Hid (FN=(ns,acc)):=by
    show _=_;rw [<-HF.out,mkL_end _ _ _ (by rw [HNN.out,HNI.out];omega)]
   obtain ⟨a,nn',c,a',nn'',c',hblk,hfin⟩:=HI.out.fin (by omega) (by omega);obtain ⟨y0,y1,y2,y3,y4,y5⟩:=six_of hblk;have hres:=HI.out.bres;unfold zero6 at hres;obtain ⟨z0,z1,z2,z3,z4,z5⟩:=six_of hres;have g0:=free_of hres 0;have g1:=free_of hres 1;have g2:=free_of hres 2;have g3:=free_of hres 3;have g4:=free_of hres 4;have g5:=free_of hres 5;have HFIN:=Lib.hid hfin;clear hfin hblk hres HI HF
   go_wp2_with fail
   refine bodyPost_ret (v:= .agg #[.int .i64 7,.int .i64 0,.int .i64 0,.string ⟨#[]⟩,.slice a nn' c,.slice a' nn'' c']) (by simp [results,Tryz.results48,go_sem,z0,z1,z2,z3,z4,z5]) rfl ?_;rw [HEQ.out];exact HFIN.out _ _ _ _ _ _
end Go.Proofs.YtclghelocglnlaaGreatDoor.Js
namespace Go.Proofs.YtclghelocglnlaaGreatDoor.Js
open Go.RowKit Lex
def intJ (n:Int):J:=if (Dec.mk n 0).2.2=true then .mk 4 (Dec.mk n 0).1 (Dec.mk n 0).2.1 [] [] [] else .mk 1 0 0 [] [] []
theorem yes_any (b:Bool) (w:World):Calls Tryz.prog 124 #[.bool b] w (Ret (bareV (if b=true then 3 else 2) 0 0 []) w):=by
 unfold bareV
 cases b with
 | true=>
   go_enter Tryz.func124,Tryz.ntmps124
   go_wp2_with fail
   exact bodyPost_ret (v:= .agg #[.int .i64 3,.int .i64 0,.int .i64 0,.string ⟨#[]⟩,.slice none 0 0,.slice none 0 0]) (by simp [results,Tryz.results124,go_sem]) rfl ⟨rfl,belowOne _ _⟩
 | false=>
   go_enter Tryz.func124,Tryz.ntmps124
   go_wp2_with fail
   exact bodyPost_ret (v:= .agg #[.int .i64 2,.int .i64 0,.int .i64 0,.string ⟨#[]⟩,.slice none 0 0,.slice none 0 0]) (by simp [results,Tryz.results124,go_sem]) rfl ⟨rfl,belowOne _ _⟩
theorem str5_any (t:List UInt8) (w:World):Calls Tryz.prog 50 #[.string ⟨t.toArray⟩] w (Ret (bareV 5 0 0 t) w):=by
 unfold bareV
 go_enter Tryz.func50,Tryz.ntmps50
 go_wp2_with fail
 exact bodyPost_ret (v:= .agg #[.int .i64 5,.int .i64 0,.int .i64 0,.string ⟨t.toArray⟩,.slice none 0 0,.slice none 0 0]) (by simp [results,Tryz.results50,go_sem]) rfl ⟨rfl,belowOne _ _⟩
theorem twelve_of {w:World} {b:Nat} {T:TypeId} {c0 c1 c2 c3 c4 c5:Value} (h:w.heap[b]?=some (.cells #[c0,c1,c2,c3,c4,c5] T (0,0))):
 (w.cell? ⟨b,0,none⟩=some c0/\w.cell? ⟨b,1,none⟩=some c1/\w.cell? ⟨b,2,none⟩=some c2/\w.cell? ⟨b,3,none⟩=some c3/\w.cell? ⟨b,4,none⟩=some c4/\w.cell? ⟨b,5,none⟩=some c5)/\
   w.frozen? ⟨b,0,none⟩=false/\w.frozen? ⟨b,1,none⟩=false/\w.frozen? ⟨b,2,none⟩=false/\w.frozen? ⟨b,3,none⟩=false/\w.frozen? ⟨b,4,none⟩=false/\w.frozen? ⟨b,5,none⟩=false:=
 ⟨six_of h,free_of h 0,free_of h 1,free_of h 2,free_of h 3,free_of h 4,free_of h 5⟩
theorem ans_one {w w1:World} {C:Array Value} {T:TypeId} (hb:Below (w.alloc (.cells C T)).heap.size (w.alloc (.cells C T)) w1):w1.heap[w.heap.size]?=some (.cells C T (0,0))/\w.heap.size < w1.heap.size/\Below w.heap.size w w1:=by
 have hs:=hb.size;simp at hs;exact ⟨(hb.block _ (by simp)).trans (heap_alloc_new w _),by omega,Dec.below_call hb⟩
theorem put6_alloc_row {w:World} {o:Obj} {b:Nat} {X:Obj} (h:w.heap[b]?=some X):(w.alloc o).heap[b]?=some X:=(heap_alloc_old w o (by rcases Nat.lt_or_ge b w.heap.size with h' | h';exact h';rw [Array.getElem?_eq_none h'] at h;cases h)).trans h
theorem int5_any (n:Int) (w:World) (h0: -9223372036854775808<=n) (h1:n<=9223372036854775807):Calls Tryz.prog 49 #[.int .i64 n] w (Ret (bareV (intJ n).k (intJ n).m (intJ n).e []) w):=by
 have M1:=Lib.hid (fun w=>Dec.make_any n 0 w h0 h1 (by decide));unfold Dec.mkV at M1;unfold intJ bareV;generalize Dec.mk n 0=R at *;obtain ⟨r1,r2,r3⟩:=R;simp only at M1⊢
 cases r3 with
 | true=>
   rw [if_pos rfl];show Calls _ _ _ _ (Ret (.agg #[.int .i64 4,.int .i64 r1,.int .i64 r2,.string ⟨#[]⟩,.slice none 0 0,.slice none 0 0]) w)
   go_enter Tryz.func49,Tryz.ntmps49
   go_wp2_with (go_at_call 88;(with_reducible refine (M1.out _).mono ?_);rintro e1 w1 ⟨rfl,hb1⟩;obtain ⟨x1,x2,x3⟩:=ans_one hb1;obtain ⟨⟨z0,z1,z2,z3,z4,z5⟩,g0,g1,g2,g3,g4,g5⟩:=twelve_of x1)
   have q:=six_of (put6_alloc_row (o:= .cells #[.int .i64 r1,.int .i64 r2] 46) (put6_self x1 (.int .i64 4) (.int .i64 r1) (.int .i64 r2) (.string ⟨#[]⟩) (.slice none 0 0) (.slice none 0 0)));simp only [put6,Nat.zero_add] at q;obtain ⟨q0,q1,q2,q3,q4,q5⟩:=q;refine bodyPost_ret (v:= .agg #[.int .i64 4,.int .i64 r1,.int .i64 r2,.string ⟨#[]⟩,.slice none 0 0,.slice none 0 0]) (by simp [results,Tryz.results49,go_sem,q0,q1,q2,q3,q4,q5]) rfl ?_;exact ⟨rfl,(below_put6' x3 (Nat.le_refl _) _ _ _ _ _ _).alloc (by rw [put6_size];exact Nat.le_of_lt x2) _⟩
 | false=>
   rw [if_neg (by simp)];show Calls _ _ _ _ (Ret (.agg #[.int .i64 1,.int .i64 0,.int .i64 0,.string ⟨#[]⟩,.slice none 0 0,.slice none 0 0]) w)
   go_enter Tryz.func49,Tryz.ntmps49
   go_wp2_with (go_at_call 88;(with_reducible refine (M1.out _).mono ?_);rintro e1 w1 ⟨rfl,hb1⟩;obtain ⟨x1,x2,x3⟩:=ans_one hb1;obtain ⟨⟨z0,z1,z2,z3,z4,z5⟩,g0,g1,g2,g3,g4,g5⟩:=twelve_of x1)
   have q:=six_of (put6_alloc_row (o:= .cells #[.int .i64 r1,.int .i64 r2] 46) (put6_self x1 (.int .i64 1) (.int .i64 0) (.int .i64 0) (.string ⟨#[]⟩) (.slice none 0 0) (.slice none 0 0)));simp only [put6,Nat.zero_add] at q;obtain ⟨q0,q1,q2,q3,q4,q5⟩:=q;refine bodyPost_ret (v:= .agg #[.int .i64 1,.int .i64 0,.int .i64 0,.string ⟨#[]⟩,.slice none 0 0,.slice none 0 0]) (by simp [results,Tryz.results49,go_sem,q0,q1,q2,q3,q4,q5]) rfl ?_;exact ⟨rfl,(below_put6' x3 (Nat.le_refl _) _ _ _ _ _ _).alloc (by rw [put6_size];exact Nat.le_of_lt x2) _⟩
theorem cret_fin {w w1:World} {n bres:Nat} {j:J} {k m e:Int} {t:ByteArray} {a a':Option Addr} {nn c nn' c':Nat} (hB:Below w.heap.size w w1) (h1:w.heap.size<=bres)
 (hJ:JAt (fun b=>w.heap.size<=b/\b≠bres) w1 n (.agg #[.int .i64 k,.int .i64 m,.int .i64 e,.string t,.slice a nn c,.slice a' nn' c']) j) (c0 c1 c2 c3 c4 c5:Value):
 JAt (fun b=>w.heap.size<=b) (put6 w1 bres 0 c0 c1 c2 c3 c4 c5) n (.agg #[.int .i64 k,.int .i64 m,.int .i64 e,.string t,.slice a nn c,.slice a' nn' c']) j/\Below w.heap.size w (put6 w1 bres 0 c0 c1 c2 c3 c4 c5):=by
 have hsz:=put6_size w1 bres 0 c0 c1 c2 c3 c4 c5;exact ⟨hJ.keep (fun b hb _=>hb.1) (fun b hb _=>put6_block w1 bres 0 c0 c1 c2 c3 c4 c5 b hb.2) (by omega),below_put6' hB h1 _ _ _ _ _ _⟩
def GRet (w:World) (d:Nat) (r:J×Bool) (e:Ending) (w':World):Prop:=
 ∃k m e1 t an nn cn ai ni ci,e= .returned (.tuple #[.agg #[.int .i64 k,.int .i64 m,.int .i64 e1,.string t,.slice an nn cn,.slice ai ni ci],.bool r.2])/\
  JAt (fun b=>w.heap.size<=b) w' d (.agg #[.int .i64 k,.int .i64 m,.int .i64 e1,.string t,.slice an nn cn,.slice ai ni ci]) r.1/\Below w.heap.size w w'
def LsRet (w:World) (d:Nat) (r:List J×Bool) (e:Ending) (w':World):Prop:=
 ∃ai ci,e= .returned (.tuple #[.slice ai r.1.length ci,.bool r.2])/\r.1.length<=ci/\ItemsAt (fun b=>w.heap.size<=b) w' d ai r.1/\Below w.heap.size w w'
theorem arr5_any (S:Nat->Prop) (d:Nat) (w:World) (ai:Option Addr) (ci:Nat) (is:List J) (hl:is.length<=1599289640354) (hc:is.length<=ci) (hit:ItemsAt S w d ai is):Calls Tryz.prog 89 #[.slice ai is.length ci] w (CRet w (d+1) (.mk 6 0 0 [] [] is)):=by
 have CA:=Lib.hid (fun (w':World) (hb:Below w.heap.size w w')=>copiedAll_any S d (copied_ok d) w' ai ci is hl hc (hit.below hb));have HL:=Lib.hid hl;unfold LRet at CA;clear hl hc hit
 go_enter Tryz.func89,Tryz.ntmps89
 go_wp2_with (go_at_call 121;(with_reducible refine (CA.out _ (belowOne _ _)).mono ?_);rintro e1 w1 ⟨ai2,ci2,rfl,hc2,hI2,hb1⟩;obtain ⟨x1,x2,x3⟩:=ans_one hb1;obtain ⟨⟨z0,z1,z2,z3,z4,z5⟩,g0,g1,g2,g3,g4,g5⟩:=twelve_of x1)
 refine bodyPost_ret (v:= .agg #[.int .i64 6,.int .i64 0,.int .i64 0,.string ⟨#[]⟩,.slice none 0 0,.slice ai2 is.length ci2]) (by simp [results,Tryz.results89,go_sem,z0,z1,z2,z3,z4,z5]) rfl ?_;have z:i64B 0:=⟨by decide,by decide⟩;obtain ⟨q1,q2⟩:=cret_fin (bres:=w.heap.size) (n:=d+1) (j:= .mk 6 0 0 [] [] is) x3 (Nat.le_refl _) ⟨_,_,_,rfl,⟨by decide,by decide⟩,z,z,by unfold txtB;simp,strs_none,hc2,HL.out,hI2.keep (fun b hb _=>by simp at hb;exact ⟨by omega,by omega⟩) (fun _ _ _=>rfl) (Nat.le_refl _)⟩ (.int .i64 6) (.int .i64 0) (.int .i64 0) (.string ⟨#[]⟩) (.slice none 0 0) (.slice ai2 is.length ci2);exact ⟨_,_,_,_,_,_,_,_,_,_,rfl,q1,q2⟩
theorem list5_any (S:Nat->Prop) (d:Nat) (v:Value) (j:J) (w:World) (h:JAt S w d v j):Calls Tryz.prog 143 #[v] w (LsRet w d (lstS j)):=by
 obtain ⟨k,m,e,t,ns,is⟩:=j;obtain ⟨d',an,cn,ai,ci,hd',rfl,_,_,_,_,_,hn1,hn,hi1,hi,hit⟩:=h.open_;have hI:ItemsAt S w d' ai is:=hit;have CA:=Lib.hid (fun (w':World) (hb:Below w.heap.size w w')=>copiedAll_any S d' (copied_ok d') w' ai ci is hi hi1 (hI.below hb));unfold LRet at CA;unfold lstS;clear hit hI h
 by_cases hk:k=6
 ·subst hk;rw [if_pos (show (J.mk 6 m e t ns is).k=6 from rfl)];show Calls _ _ _ _ (LsRet w d (is,true))
  go_enter Tryz.func143,Tryz.ntmps143
  go_wp2_with (go_at_call 121;(with_reducible refine (CA.out _ (belowOne _ _)).mono ?_);rintro e1 w1 ⟨ai2,ci2,rfl,hc2,hI2,hb1⟩)
  go_ret2
  subst hd';refine ⟨ai2,ci2,rfl,hc2,fun hp=> ?_,Dec.below_call hb1⟩;obtain ⟨b,off,q1,q2,q3,q4⟩:=hI2 hp;exact ⟨b,off,q1,by simp at q2;omega,q3,fun i hi=>by obtain ⟨u,r1,r2⟩:=q4 i hi;exact ⟨u,r1,(r2.deep (Nat.le_succ _)).keep (fun b hb _=>by simp at hb;omega) (fun _ _ _=>rfl) (Nat.le_refl _)⟩⟩
 ·rw [if_neg (show¬(J.mk k m e t ns is).k=6 from hk)];have hne:(k !=6)=true:=by simpa using hk
  go_enter Tryz.func143,Tryz.ntmps143
  go_wp2_with fail
  go_ret2
  exact ⟨none,0,rfl,Nat.le_refl _,fun h=>by simp at h,belowOne _ _⟩
end Go.Proofs.YtclghelocglnlaaGreatDoor.Js
namespace Go.Proofs.YtclghelocglnlaaGreatDoor.Js
open Go.RowKit Lex
theorem ItemsAt.deep {S:Nat->Prop} {w:World} {d d':Nat} {ai:Option Addr} {is:List J} (h:ItemsAt S w d ai is) (hd:d<=d'):ItemsAt S w d' ai is:=fun hp=>by
 obtain ⟨b,off,q1,q2,q3,q4⟩:=h hp;exact ⟨b,off,q1,q2,q3,fun i hi=>by obtain ⟨u,r1,r2⟩:=q4 i hi;exact ⟨u,r1,r2.deep hd⟩⟩
theorem belowThree (w:World) (o1 o2 o3:Obj):Below w.heap.size w (((w.alloc o1).alloc o2).alloc o3):=(((Below.refl _ _).alloc (Nat.le_refl _) _).alloc (by simp) _).alloc (by simp;omega) _
def lsG (j:J) (nm:List UInt8):List J×Bool:=tellG [] lstS j nm
theorem tellL_any (S:Nat->Prop) (d:Nat) (v:Value) (j:J) (nm:List UInt8) (w:World) (h:JAt S w d v j):Calls Tryz.prog 142 #[v,.string ⟨nm.toArray⟩,.func (.func 143) #[] #[]] w (LsRet w d (lsG j nm)):=by
 have PL:=Lib.hid (fun (w':World) (hb:Below w.heap.size w w')=>place_any S d v j nm w' (h.below hb (Nat.le_refl _)));obtain ⟨P,hP⟩:∃P,plc j nm=P:=⟨_,rfl⟩;have hB:=plc_B j nm P hP;unfold lsG tellG;rw [hP] at PL⊢;clear hP;obtain ⟨k,m,e,t,ns,is⟩:=j;obtain ⟨d',an,cn,ai,ci,hd',rfl,_,_,_,_,_,hn1,hn,hi1,hi,hit⟩:=h.open_;subst hd';have HIT:Hid (ItemsAt S w d' ai is):=hit;clear hit h;change -1<=P/\P < is.length at hB;obtain ⟨hB0,hB1⟩:=hB
 by_cases hn:P < 0
 ·rw [if_pos hn]
  go_enter Tryz.func142,Tryz.ntmps142
  go_wp2_with (go_at_call 140;(with_reducible refine (PL.out _ (belowOne _ _)).mono ?_);rintro e1 w1 ⟨rfl,hb1⟩)
  go_ret2
  exact ⟨none,0,rfl,Nat.le_refl _,fun h=>by simp at h,Dec.below_call hb1⟩
 ·rw [if_neg hn];obtain ⟨b,off,c0,c1,c2,c3,c4,c5,rfl,hbl,hl,hJ⟩:=item_at HIT.out (by omega) hB1;have IC:=Lib.hid (fun (w':World) (hb:Below w.heap.size w w')=>list5_any S d' _ _ w' (hJ.below hb (Nat.le_refl _)));unfold LsRet at IC;have HL:=Lib.hid hl;change Calls _ _ _ _ (LsRet w (d'+1) (lstS (is.getD P.toNat j0)));generalize lstS (is.getD P.toNat j0)=R at *;obtain ⟨r1,r2⟩:=R;clear hl hJ HIT
  go_enter Tryz.func142,Tryz.ntmps142
  go_wp2_with (first
   | (go_at_call 140;(with_reducible refine (PL.out _ (belowOne _ _)).mono ?_);rintro e1 w1 ⟨rfl,hb1⟩;have x1:=(hb1.block _ (by simp)).trans (heap_alloc_new w _);obtain ⟨y0,y1,y2,y3,y4,y5⟩:=six_of x1;have HBW:=Lib.hid (Dec.below_call hb1);obtain ⟨z0,z1,z2,z3,z4,z5⟩:=(HL.out.keep (HBW.out.block b hbl)).six)
   | (go_at_call 143;(with_reducible refine (IC.out _ HBW.out).mono ?_);rintro e2 w2 ⟨ai2,ci2,rfl,hc2,hI2,hb2⟩))
  go_ret2
  exact ⟨ai2,ci2,rfl,hc2,(hI2.deep (Nat.le_succ _)).keep (fun b hb _=>Nat.le_trans HBW.out.size hb) (fun _ _ _=>rfl) (Nat.le_refl _),HBW.out.trans (hb2.mono HBW.out.size)⟩
theorem flist_any (S:Nat->Prop) (d:Nat) (v:Value) (j:J) (nm:List UInt8) (w:World) (h:JAt S w d v j):Calls Tryz.prog 105 #[v,.string ⟨nm.toArray⟩] w (LsRet w d (lsG j nm)):=by
 have TE:=Lib.hid (fun (w':World) (hb:Below w.heap.size w w')=>tellL_any S d v j nm w' (h.below hb (Nat.le_refl _)));unfold LsRet at TE;generalize lsG j nm=R at *;obtain ⟨r1,r2⟩:=R;obtain ⟨k,m,e,t,an,nn,cn,ai,ni,ci,rfl⟩:=jAt_form h;clear h
 go_enter Tryz.func105,Tryz.ntmps105
 go_wp2_with (go_at_call 142;(with_reducible refine (TE.out _ (belowOne _ _)).mono ?_);rintro e1 w1 ⟨ai2,ci2,rfl,hc2,hI2,hb1⟩)
 go_ret2
 exact ⟨ai2,ci2,rfl,hc2,hI2.keep (fun b hb _=>by simp at hb;omega) (fun _ _ _=>rfl) (Nat.le_refl _),Dec.below_call hb1⟩
end Go.Proofs.YtclghelocglnlaaGreatDoor.Js
namespace Go.Proofs.YtclghelocglnlaaGreatDoor.Js
open Go.RowKit Lex
def InT (base:Nat) (nv iv:Value) (b:Nat):Prop:=base<=b/\some b≠iv.ownBlock/\some b≠nv.ownBlock
structure Own3 (base n:Nat) (nv iv:Value) (ns:List (List UInt8)) (vs:List Value) (acc:List J) (w:World):Prop where
 irow:w.ownsRow base 49 6 iv acc.length (vs.flatMap aggC)
 nrow:w.ownsRow base 9 1 nv ns.length (ns.map strW)
 vl:vs.length=acc.length
 txt:∀x∈ns,txtB x
 items:∀i,i < acc.length->JAt (InT base nv iv) w n (vs.getD i undef) (acc.getD i j0)
theorem own3_nil {base n:Nat} {w:World}:Own3 base n (.slice none 0 0) (.slice none 0 0) [] [] [] w:=
 ⟨World.ownsRow_nil _ _ _ _,World.ownsRow_nil _ _ _ _,rfl,fun x hx=>by simp at hx,fun i hi=>by simp at hi⟩
theorem row_keep {w w':World} {base e s n:Nat} {v:Value} {xs:List Value} (hr:w.ownsRow base e s v n xs) (hk:∀g,v.ownBlock=some g->g < w.heap.size->w'.heap[g]?=w.heap[g]?):w'.ownsRow base e s v n xs:=by
 refine ⟨hr.1,?_⟩;rcases hr.2 with hn | ⟨g,cap,cur,hv,hbg,hg,hq⟩
 ·exact .inl hn
 ·exact .inr ⟨g,cap,cur,hv,hbg,(hk g (by rw [hv];rfl) (Own.block_lt hg)).trans hg,hq⟩
theorem Own3.below {base n:Nat} {nv iv:Value} {ns:List (List UInt8)} {vs:List Value} {acc:List J} {w w':World} (h:Own3 base n nv iv ns vs acc w) {B:Nat} (hb:Below B w w') (hB:w.heap.size<=B):Own3 base n nv iv ns vs acc w':=
 ⟨row_keep h.irow (fun g _ hl=>hb.block g (by omega)),row_keep h.nrow (fun g _ hl=>hb.block g (by omega)),h.vl,h.txt,fun i hi=>(h.items i hi).below hb hB⟩
section
variable {base n:Nat} {nv iv:Value} {ns:List (List UInt8)} {vs:List Value} {acc:List J} {w1 wS w2:World} {g cp:Nat}
theorem Own3.item (hO:Own3 base n nv iv ns vs acc w1) (hgrow:wS.grownBy w2 iv.ownBlock) (hBS:Below w1.heap.size w1 wS) (hat:iv.ownBlock=some g∨w1.heap.size<=g)
 {c0 c1 c2 c3 c4 c5:Value} (hown:w2.ownsRow base 49 6 (.slice (some ⟨g,0,none⟩) (acc.length+1) cp) (acc.length+1) (vs.flatMap aggC++ [c0,c1,c2,c3,c4,c5]))
 {S:Nat->Prop} {j:J} (hJ:JAt S w1 n (.agg #[c0,c1,c2,c3,c4,c5]) j) (hq:∀b,S b->b < w1.heap.size->base<=b/\some b≠iv.ownBlock/\some b≠nv.ownBlock):
 Own3 base n nv (.slice (some ⟨g,0,none⟩) (acc.length+1) cp) ns (vs++ [.agg #[c0,c1,c2,c3,c4,c5]]) (acc++ [j]) w2:=by
 have hs:=hgrow.size;have hsS:=hBS.size;have F1:∀b,b < w1.heap.size->some b≠iv.ownBlock->w2.heap[b]?=w1.heap[b]?:=fun b hb h1=>by rw [hgrow.block b (by omega) h1,hBS.block b hb]
 have hnapart:nv.ownBlock=none∨nv.ownBlock≠iv.ownBlock:=Own.own_apart hO.irow hO.nrow (by decide)
 refine ⟨?_,row_keep hO.nrow (fun gn e1 hl=>F1 gn hl (fun h=>by
  rcases hnapart with h' | h'
  ·rw [h'] at e1;cases e1
  ·exact h' (e1.trans h))),by simp [hO.vl],hO.txt,fun i hi=> ?_⟩
 ·simpa [aggC] using hown
 ·have hS:∀b,(base<=b/\some b≠iv.ownBlock/\some b≠nv.ownBlock)->b < w1.heap.size->InT base nv (.slice (some ⟨g,0,none⟩) (acc.length+1) cp) b:=fun b hb hlt=>by
   refine ⟨hb.1,?_,hb.2.2⟩;show some b≠some g;intro e
   cases e
   rcases hat with h | h
   ·exact hb.2.1 h.symm
   ·omega
  by_cases hia:i < acc.length
  ·have:=hO.items i hia;have e1:(vs++ [Value.agg #[c0,c1,c2,c3,c4,c5]]).getD i undef=vs.getD i undef:=by rw [List.getD_eq_getElem?_getD,List.getD_eq_getElem?_getD,List.getElem?_append_left (by rw [hO.vl];exact hia)]
   have e2:(acc++ [j]).getD i j0=acc.getD i j0:=by rw [List.getD_eq_getElem?_getD,List.getD_eq_getElem?_getD,List.getElem?_append_left hia]
   rw [e1,e2];exact this.keep (fun b hb hlt=>hS b hb hlt) (fun b hb hlt=>F1 b hlt hb.2.1) (by omega)
  ·have hi':i=acc.length:=by simp at hi;omega
   subst hi';have e1:(vs++ [Value.agg #[c0,c1,c2,c3,c4,c5]]).getD acc.length undef= .agg #[c0,c1,c2,c3,c4,c5]:=by rw [<-hO.vl,List.getD_eq_getElem?_getD,List.getElem?_append_right (Nat.le_refl _)];simp
   have e2:(acc++ [j]).getD acc.length j0=j:=by rw [List.getD_eq_getElem?_getD,List.getElem?_append_right (Nat.le_refl _)];simp
   rw [e1,e2];exact hJ.keep (fun b hb hlt=>hS b (hq b hb hlt) hlt) (fun b hb hlt=>F1 b hlt (hq b hb hlt).2.1) (by omega)
end
theorem Own3.strs {base n:Nat} {nv iv:Value} {ns:List (List UInt8)} {vs:List Value} {acc:List J} {w:World} (h:Own3 base n nv iv ns vs acc w) (hn:ns.length<=1000000):StrsAt Any w nv ns:=by
 obtain ⟨an,cn,rfl⟩:=own_slice h.nrow;rcases h.nrow.2 with ⟨e,h0⟩ | ⟨g,cap,cur,hv,hbg,hg,hnc,hcm,hcs,htake⟩
 ·exact ⟨an,cn,rfl,by omega,by omega,h.txt,fun hp=>by omega⟩
 ·cases hv
  refine ⟨_,_,rfl,hnc,by omega,h.txt,fun _=>⟨g,0,rfl,trivial,Own.block_lt hg,fun j hj=> ?_⟩⟩;rw [Nat.zero_add];have:=h.nrow.cellAt j (by omega);rw [this,List.getElem?_map,List.getElem?_eq_getElem hj,List.getD_eq_getElem?_getD,List.getElem?_eq_getElem hj]
  rfl
theorem Own3.its {base n:Nat} {nv:Value} {ai:Option Addr} {ni ci:Nat} {ns:List (List UInt8)} {vs:List Value} {acc:List J} {w:World} (h:Own3 base n nv (.slice ai ni ci) ns vs acc w):ni=acc.length/\acc.length<=ci/\ItemsAt Any w n ai acc:=by
 have hmem:∀v∈vs,∃i,i < acc.length/\v=vs.getD i undef:=fun v hv=>by
  obtain ⟨i,hi,rfl⟩:=List.mem_iff_getElem.1 hv;exact ⟨i,by rw [<-h.vl];exact hi,by rw [List.getD_eq_getElem?_getD,List.getElem?_eq_getElem hi];rfl⟩
 have h6:∀v∈vs,(aggC v).length=6:=fun v hv=>by
  obtain ⟨i,hi,rfl⟩:=hmem v hv;obtain ⟨_,_,_,_,_,_,_,_,_,_,e⟩:=jAt_form (h.items i hi);rw [e];rfl
 rcases h.irow.2 with ⟨e,h0⟩ | ⟨g,cap,cur,hv,hbg,hg,hnc,_⟩
 ·simp at e;exact ⟨by omega,by omega,fun hp=>by omega⟩
 ·cases hv
  refine ⟨rfl,hnc,fun hp=>⟨g,0,rfl,trivial,Own.block_lt hg,fun i hi=>⟨vs.getD i undef,fun q c hc=> ?_,(h.items i hi).any⟩⟩⟩;have hi2:i < vs.length:=by rw [h.vl];exact hi
  have hq:q < 6:=by
   have:=(List.getElem?_eq_some_iff.1 hc).1;rw [h6 _ (by rw [List.getD_eq_getElem?_getD,List.getElem?_eq_getElem hi2];exact List.getElem_mem _)] at this;exact this
  rw [Nat.zero_add,h.irow.cellAt (i * 6+q) (by omega),flat6_get h6 i q hi2 hq,hc]
end Go.Proofs.YtclghelocglnlaaGreatDoor.Js
