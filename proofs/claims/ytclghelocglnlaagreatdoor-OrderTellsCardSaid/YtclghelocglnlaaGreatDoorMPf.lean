import Derived.Test.YtclghelocglnlaaGreatDoorME
import Derived.Deep.CutBlock
set_option maxHeartbeats 0
set_option maxRecDepth 100000
set_option linter.all false
namespace Go.Proofs.YtclghelocglnlaaGreatDoor.Js
open Go.RowKit Lex
structure TI (w:World) (base:Nat) (ns:List (List UInt8)) (acc:List J) (nv iv:Value) (wr:World):Prop where
 bel:Below w.heap.size w wr
 lo:w.heap.size<=base
 own:∃vs,Own3 base 15 nv iv ns vs acc wr
 hi:base<=wr.heap.size
end Go.Proofs.YtclghelocglnlaaGreatDoor.Js
namespace Go.Proofs.YtclghelocglnlaaGreatDoor.Js
end Go.Proofs.YtclghelocglnlaaGreatDoor.Js
namespace Go.Proofs.YtclghelocglnlaaGreatDoor.Js
open Go.RowKit
def bare (o:Oper):Oper:={ o with after:=#[] }
theorem bare_wp (P:Program) (o:Oper):Oper.wp P (bare o)=Oper.wp P o:=rfl
theorem bare_asks (P:Program) (o:Oper):Oper.asks P (bare o)=Oper.asks P o:=rfl
theorem bare_yielded (l:List Oper) (tmps:Array Value):yielded (l.map bare).toArray tmps=yielded l.toArray tmps:=by
 funext j
 unfold yielded
 have h:(((l.map bare).toArray[j]?).bind (·.dst))=((l.toArray[j]?).bind (·.dst)):=by
  simp only [List.getElem?_toArray,List.getElem?_map]
  cases l[j]? <;> rfl
 rw [h]
theorem bare_wanted (o:Oper) (y:Nat->Option Bool):Region.wanted (bare o) y=Region.wanted o y:=rfl
theorem wpList_bare {P:Program} {l0:List Oper} {Q:Exit->Act->World->Prop}:∀(l:List Oper),wpList P (l0.map bare).toArray Q (l.map bare)=wpList P l0.toArray Q l
 | []=>rfl
 | o::rest=>by
   funext a w
   rw [List.map_cons,wpList,wpList,wpList_bare rest,bare_yielded,bare_wanted,bare_wp,bare_asks]
   rfl
theorem wp_region_bare {P:Program} {Q:Exit->Act->World->Prop} {a:Act} {w:World} {id:Nat} {l:List Oper} (h:wpList P (l.map bare).toArray Q (l.map bare) a w):(Code.region id l.toArray false).wp P Q a w:=
 wp_region_lit (by rw [wpList_bare] at h;exact h)
end Go.Proofs.YtclghelocglnlaaGreatDoor.Js
namespace Go.Proofs.YtclghelocglnlaaGreatDoor.Js
open Go.RowKit Lex
def RG (S:Nat->Prop) (w:World) (d:Nat) (r:J×Bool) (e:Ending) (w':World):Prop:=
 ∃k m e1 t an nn cn ai ni ci,e= .returned (.tuple #[.agg #[.int .i64 k,.int .i64 m,.int .i64 e1,.string t,.slice an nn cn,.slice ai ni ci],.bool r.2])/\
  JAt S w d (.agg #[.int .i64 k,.int .i64 m,.int .i64 e1,.string t,.slice an nn cn,.slice ai ni ci]) r.1/\Below w.heap.size w w'
theorem box7 (w:World) (o o':Obj):Below w.heap.size w ((w.alloc o).alloc o'):=((Below.refl _ _).alloc (Nat.le_refl _) _).alloc (by simp) _
theorem getS_at {k m e:Int} {t:List UInt8} {ns:List (List UInt8)} {is:List J} {nm:List UInt8} (hk:k=7):getS (.mk k m e t ns is) nm=if plcL nm ns 0 is.length < 0 then (j0,false) else (is.getD (plcL nm ns 0 is.length).toNat j0,true):=by
 subst hk
 rfl
theorem getS_not {k m e:Int} {t:List UInt8} {ns:List (List UInt8)} {is:List J} {nm:List UInt8} (hk:¬k=7):getS (.mk k m e t ns is) nm=(j0,false):=by
 unfold getS
 have:plc (.mk k m e t ns is) nm= -1:=by
  unfold plc;rw [if_neg (show¬(J.mk k m e t ns is).k=7 from hk)]
 rw [this,if_pos (by decide)]
theorem rget_any (S:Nat->Prop) (d:Nat) (v:Value) (j:J) (nm:List UInt8) (w:World) (h:JAt S w d v j):Calls Tryz.prog 56 #[v,.string ⟨nm.toArray⟩] w (RG S w d (getS j nm)):=by
 obtain ⟨k,m,e,t,ns,is⟩:=j;obtain ⟨d',an,cn,ai,ci,rfl,rfl,_,_,_,_,hns,hn1,hn,hi1,hi,hit⟩:=h.open_;obtain ⟨_,_,e1,_,_,_,hc1⟩:=hns
 cases e1
 have H1:=Lib.hid hc1;have H2:=Lib.hid hit;have HZ:Hid (JAt S w (d'+1) (bareV 0 0 0 []) j0):=leaf_jat ⟨by decide,by decide⟩ ⟨by decide,by decide⟩ ⟨by decide,by decide⟩ (by unfold txtB;simp);clear hc1 hit h
 by_cases hk:k=7
 ·rw [getS_at hk];subst hk;obtain ⟨R,HR⟩:∃R,Hid (plcL nm ns 0 is.length=R):=⟨_,rfl⟩;rw [HR.out];obtain ⟨G,HG⟩:∃G:J×Bool,Hid (G=if R < 0 then (j0,false) else (is.getD R.toNat j0,true)):=⟨_,rfl⟩;rw [<-HG.out];obtain ⟨nn,HN⟩:∃n,Hid (ns.length=n):=⟨_,rfl⟩;obtain ⟨ni,HI⟩:∃n,Hid (is.length=n):=⟨_,rfl⟩;rw [HN.out] at H1 hn hn1⊢;rw [HI.out] at hi hi1 HR H2⊢
  go_enter Tryz.func56,Tryz.ntmps56
  go_wp2_with fail
  go_loopw [6] (fun i wr=>∃q:Nat,q<=nn/\q<=ni/\i= .int .i64 q/\(w.alloc (.cells #[.int .i64 7,.int .i64 m,.int .i64 e,.string ⟨t.toArray⟩,.slice an nn cn,.slice ai ni ci] 49)).alloc (.cells #[.int .i64 0,.int .i64 0,.int .i64 0,.string ⟨#[]⟩,.slice none 0 0,.slice none 0 0] 49)=wr/\Hid (plcL nm (ns.drop q) q ni=R)) (fun i _=>nn - (intOf i).toNat)
  case atStart=>exact ⟨0,Nat.zero_le _,Nat.zero_le _,rfl,rfl,HR⟩
  case round=>
   obtain ⟨q,hq,hq2,rfl,rfl,HK⟩:=hrel
   by_cases hlt:q < nn/\q < ni
   ·obtain ⟨l1,l2⟩:=hlt;obtain ⟨b1,o1,rfl,_,hb1,hx1⟩:=H1.out (by omega);obtain ⟨b2,o2,rfl,hS2,hb2,hx2⟩:=H2.out (by omega);obtain ⟨u,hu1,hu2⟩:=hx2 q l2;obtain ⟨k4,m4,e4,t4,an4,nn4,cn4,ai4,ni4,ci4,rfl⟩:=jAt_form hu2;have hbx:=box7 w (.cells #[.int .i64 7,.int .i64 m,.int .i64 e,.string ⟨t.toArray⟩,.slice (some ⟨b1,o1,none⟩) nn cn,.slice (some ⟨b2,o2,none⟩) ni ci] 49) (.cells #[.int .i64 0,.int .i64 0,.int .i64 0,.string ⟨#[]⟩,.slice none 0 0,.slice none 0 0] 49);have x1:=(hbx.cell (p:=⟨b1,o1+q,none⟩) hb1).trans (hx1 q l1);obtain ⟨y0,y1,y2,y3,y4,y5⟩:=(hu1.keep (hbx.block b2 hb2)).six;have HS:=Lib.hid (drop_getD0 (l:=ns) (q:=q) [] (by rw [HN.out];exact l1));have HJ:=Lib.hid hu2;have HBX:=Lib.hid hbx;unfold strW at x1;have i1:(q:Int) < (nn:Int):=(by omega);have i2:(q:Int) < (ni:Int):=(by omega);clear hx1 H1 hx2 H2 hu1 hu2 hbx;generalize ns.getD q []=X at *
    by_cases hxy:X=nm
    ·subst hxy
     have HGE:Hid (G=(is.getD q j0,true)):=by
      show _=_;rw [HG.out,<-HK.out,HS.out,plcL,if_pos l2,if_pos rfl,if_neg (by omega),Int.toNat_natCast]
     obtain rfl:=HGE.out;clear HGE HG HK HS
     go_wp2_with fail
     exact bodyPost_ret (v:= .tuple #[.agg #[.int .i64 k4,.int .i64 m4,.int .i64 e4,.string t4,.slice an4 nn4 cn4,.slice ai4 ni4 ci4],.bool true]) (by simp [results,Tryz.results56,go_sem]) rfl ⟨_,_,_,_,_,_,_,_,_,_,rfl,HJ.out.deep (Nat.le_succ _),box7 w _ _⟩
    ·have hne:(X==nm)=false:=(by simpa using hxy);have HXY:=Lib.hid hxy;clear hxy
     go_wp2_with fail
     go_roundw
     case rel=>exact ⟨q+1,by omega,by omega,by go_num,trivial,by show _=_;rw [<-HK.out,HS.out,plcL,if_pos l2,if_neg HXY.out]⟩
     case measure=>simp [intOf];omega
   ·have HE:Hid (G=(j0,false)):=by
     show _=_;rw [HG.out]
     have:R= -1:=by
      rw [<-HK.out]
      by_cases h:q < nn
      ·rw [drop_getD0 (l:=ns) (q:=q) [] (by rw [HN.out];exact h),plcL,if_neg (by omega)]
      ·rw [List.drop_of_length_le (by rw [HN.out];omega),plcL]
     rw [this,if_pos (by decide)]
    obtain rfl:=HE.out;clear HE HG HK
    by_cases h:q < nn
    ·have i1:(q:Int) < (nn:Int):=(by omega);have i2:¬(q:Int) < (ni:Int):=by omega
     go_wp2_with fail
     exact bodyPost_ret (v:= .tuple #[.agg #[.int .i64 0,.int .i64 0,.int .i64 0,.string ⟨#[]⟩,.slice none 0 0,.slice none 0 0],.bool false]) (by simp [results,Tryz.results56,go_sem]) rfl ⟨_,_,_,_,_,_,_,_,_,_,rfl,HZ.out,box7 w _ _⟩
    ·have i1:¬(q:Int) < (nn:Int):=by omega
     go_wp2_with fail
     exact bodyPost_ret (v:= .tuple #[.agg #[.int .i64 0,.int .i64 0,.int .i64 0,.string ⟨#[]⟩,.slice none 0 0,.slice none 0 0],.bool false]) (by simp [results,Tryz.results56,go_sem]) rfl ⟨_,_,_,_,_,_,_,_,_,_,rfl,HZ.out,box7 w _ _⟩
 ·rw [getS_not hk];have hkb:(k==7)=false:=by simpa using hk
  clear H1 H2;generalize ns.length=nn at *;generalize is.length=ni at *
  go_enter Tryz.func56,Tryz.ntmps56
  go_wp2_with fail
  go_loopw [6] (fun i wr=>i= .int .i64 0/\(w.alloc (.cells #[.int .i64 k,.int .i64 m,.int .i64 e,.string ⟨t.toArray⟩,.slice an nn cn,.slice ai ni ci] 49)).alloc (.cells #[.int .i64 0,.int .i64 0,.int .i64 0,.string ⟨#[]⟩,.slice none 0 0,.slice none 0 0] 49)=wr) (fun _ _=>0)
  case atStart=>exact ⟨rfl,rfl⟩
  case round=>
   obtain ⟨rfl,rfl⟩:=hrel
   by_cases h1:0 < nn
   ·have i1:(0:Int) < (nn:Int):=by omega
    by_cases h2:0 < ni
    ·have i2:(0:Int) < (ni:Int):=by omega
     go_wp2_with fail
     exact bodyPost_ret (v:= .tuple #[.agg #[.int .i64 0,.int .i64 0,.int .i64 0,.string ⟨#[]⟩,.slice none 0 0,.slice none 0 0],.bool false]) (by simp [results,Tryz.results56,go_sem]) rfl ⟨_,_,_,_,_,_,_,_,_,_,rfl,HZ.out,box7 w _ _⟩
    ·have i2:¬(0:Int) < (ni:Int):=by omega
     go_wp2_with fail
     exact bodyPost_ret (v:= .tuple #[.agg #[.int .i64 0,.int .i64 0,.int .i64 0,.string ⟨#[]⟩,.slice none 0 0,.slice none 0 0],.bool false]) (by simp [results,Tryz.results56,go_sem]) rfl ⟨_,_,_,_,_,_,_,_,_,_,rfl,HZ.out,box7 w _ _⟩
   ·have i1:¬(0:Int) < (nn:Int):=by omega
    go_wp2_with fail
    exact bodyPost_ret (v:= .tuple #[.agg #[.int .i64 0,.int .i64 0,.int .i64 0,.string ⟨#[]⟩,.slice none 0 0,.slice none 0 0],.bool false]) (by simp [results,Tryz.results56,go_sem]) rfl ⟨_,_,_,_,_,_,_,_,_,_,rfl,HZ.out,box7 w _ _⟩
end Go.Proofs.YtclghelocglnlaaGreatDoor.Js
namespace Go.Proofs.YtclghelocglnlaaGreatDoor.Js
open Go.RowKit Lex
theorem jAt_tell {S:Nat->Prop} {w:World} {d:Nat} {j:J} {k m e:Int} {t:ByteArray} {an:Option Addr} {nn cn:Nat} {ai:Option Addr} {ni ci:Nat} (h:JAt S w d (.agg #[.int .i64 k,.int .i64 m,.int .i64 e,.string t,.slice an nn cn,.slice ai ni ci]) j):
 j.k=k/\j.m=m/\j.e=e/\(⟨j.t.toArray⟩:ByteArray)=t/\j.is.length=ni/\i64B m/\i64B e:=by
 obtain ⟨k',m',e',t',ns,is⟩:=j;obtain ⟨d',an',cn',ai',ci',_,hv,h1,h2,h3,_⟩:=h.open_;simp only [Value.agg.injEq,Array.mk.injEq,List.cons.injEq,Value.int.injEq,Value.string.injEq,Value.slice.injEq,true_and,and_true] at hv;obtain ⟨rfl,rfl,rfl,rfl,_,_,rfl,_⟩:=hv;exact ⟨rfl,rfl,rfl,rfl,rfl,h2,h3⟩
def withG {α:Type} (z:α) (f:J->α) (r:J×Bool):α:=if r.2=true then f r.1 else z
theorem below_box {w w1:World} {o:Obj} (hb:Below (w.alloc o).heap.size (w.alloc o) w1):Below w.heap.size w w1:=((Below.refl _ _).alloc (Nat.le_refl _) _).trans (hb.mono (by simp))
theorem rnum_any (S:Nat->Prop) (d:Nat) (v:Value) (j:J) (nm:List UInt8) (w:World) (h:JAt S w d v j):Calls Tryz.prog 41 #[v,.string ⟨nm.toArray⟩] w (Ret (.tuple #[.int .i64 (withG (0,false) numS (getS j nm)).1,.bool (withG (0,false) numS (getS j nm)).2]) w):=by
 have G1:=Lib.hid (fun o=>rget_any S d v j nm (w.alloc o) (h.below ((Below.refl _ _).alloc (Nat.le_refl _) _) (Nat.le_refl _)));unfold RG at G1;generalize getS j nm=R at *;obtain ⟨x,b⟩:=R;obtain ⟨k,m,e,t,an,nn,cn,ai,ni,ci,rfl⟩:=jAt_form h;clear h;unfold withG
 cases b with
 | false=>
   rw [if_neg (by simp)]
   go_enter Tryz.func41,Tryz.ntmps41
   go_wp2_with (go_at_call 56;(with_reducible refine (G1.out _).mono ?_);rintro e1 w1 ⟨k2,m2,e2',t2,an2,nn2,cn2,ai2,ni2,ci2,rfl,hJ,hb⟩)
   go_ret2
   exact ⟨rfl,(below_box hb).alloc (below_box hb).size _⟩
 | true=>
   rw [if_pos rfl];obtain ⟨xk,xm,xe,xt,xns,xis⟩:=x
   by_cases hk:xk=4
   ·subst hk;have hx:numS (.mk 4 xm xe xt xns xis)=Dec.intS xm xe:=(by unfold numS;exact if_pos rfl);rw [hx];clear hx;have I1:Hid (∀(m e:Int) (w:World),i64B m->i64B e->Calls Tryz.prog 79 #[.agg #[.int .i64 m,.int .i64 e]] w (Ret (Dec.rsV (Dec.intS m e)) w)):=fun m e w hm he=>Dec.rint_any m e w hm.1 hm.2 he.1 he.2
    go_enter Tryz.func41,Tryz.ntmps41
    go_wp2_with (first
     | (go_at_call 56;(with_reducible refine (G1.out _).mono ?_);rintro e1 w1 ⟨k2,m2,e2',t2,an2,nn2,cn2,ai2,ni2,ci2,rfl,hJ,hb⟩;obtain ⟨h1,h2,h3,_,_,hm2,he2⟩:=jAt_tell hJ;obtain rfl:xm=m2:=h2;obtain rfl:xe=e2':=h3;have h1':(4:Int)=k2:=h1;subst h1';have I2:=Lib.hid (fun w=>I1.out xm xe w hm2 he2);clear hJ)
     | (go_at_call 79;(with_reducible refine (I2.out _).mono ?_);unfold Dec.rsV;rintro e3 w3 ⟨rfl,hb3⟩))
    go_ret2
    exact ⟨rfl,(below_box hb).trans ((below_box hb3).mono (below_box hb).size)⟩
   ·have hx:numS (.mk xk xm xe xt xns xis)=(0,false):=(by unfold numS;exact if_neg hk);rw [hx]
    go_enter Tryz.func41,Tryz.ntmps41
    go_wp2_with (go_at_call 56;(with_reducible refine (G1.out _).mono ?_);rintro e1 w1 ⟨k2,m2,e2',t2,an2,nn2,cn2,ai2,ni2,ci2,rfl,hJ,hb⟩;obtain ⟨h1,_⟩:=jAt_tell hJ;obtain rfl:xk=k2:=h1;have hk2:(xk==4)=false:=by simpa using hk)
    go_ret2
    exact ⟨rfl,(below_box hb).alloc (below_box hb).size _⟩
theorem rtext_any (S:Nat->Prop) (d:Nat) (v:Value) (j:J) (nm:List UInt8) (w:World) (h:JAt S w d v j):Calls Tryz.prog 42 #[v,.string ⟨nm.toArray⟩] w (Ret (.tuple #[.string ⟨(withG ([],false) txtS (getS j nm)).1.toArray⟩,.bool (withG ([],false) txtS (getS j nm)).2]) w):=by
 have G1:=Lib.hid (fun o=>rget_any S d v j nm (w.alloc o) (h.below ((Below.refl _ _).alloc (Nat.le_refl _) _) (Nat.le_refl _)));unfold RG at G1;generalize getS j nm=R at *;obtain ⟨x,b⟩:=R;obtain ⟨k,m,e,t,an,nn,cn,ai,ni,ci,rfl⟩:=jAt_form h;clear h;unfold withG
 cases b with
 | false=>
   rw [if_neg (by simp)]
   go_enter Tryz.func42,Tryz.ntmps42
   go_wp2_with (go_at_call 56;(with_reducible refine (G1.out _).mono ?_);rintro e1 w1 ⟨k2,m2,e2',t2,an2,nn2,cn2,ai2,ni2,ci2,rfl,hJ,hb⟩)
   go_ret2
   exact ⟨rfl,(below_box hb).alloc (below_box hb).size _⟩
 | true=>
   rw [if_pos rfl]
   by_cases hk:x.k=5
   ·have hx:txtS x=(x.t,true):=(by unfold txtS;rw [if_pos hk]);rw [hx];clear hx
    go_enter Tryz.func42,Tryz.ntmps42
    go_wp2_with (go_at_call 56;(with_reducible refine (G1.out _).mono ?_);rintro e1 w1 ⟨k2,m2,e2',t2,an2,nn2,cn2,ai2,ni2,ci2,rfl,hJ,hb⟩;obtain ⟨h1,_,_,h4,_⟩:=jAt_tell hJ;rw [hk] at h1;subst h1;subst h4;clear hJ)
    go_ret2
    exact ⟨rfl,(below_box hb).alloc (below_box hb).size _⟩
   ·have hx:txtS x=([],false):=(by unfold txtS;rw [if_neg hk]);rw [hx]
    go_enter Tryz.func42,Tryz.ntmps42
    go_wp2_with (go_at_call 56;(with_reducible refine (G1.out _).mono ?_);rintro e1 w1 ⟨k2,m2,e2',t2,an2,nn2,cn2,ai2,ni2,ci2,rfl,hJ,hb⟩;obtain ⟨h1,_⟩:=jAt_tell hJ;have hk2:(k2==5)=false:=by rw [<-h1];simpa using hk)
    go_ret2
    exact ⟨rfl,(below_box hb).alloc (below_box hb).size _⟩
theorem rflag_any (S:Nat->Prop) (d:Nat) (v:Value) (j:J) (nm:List UInt8) (w:World) (h:JAt S w d v j):Calls Tryz.prog 80 #[v,.string ⟨nm.toArray⟩] w (Ret (.tuple #[.bool (withG (false,false) flagS (getS j nm)).1,.bool (withG (false,false) flagS (getS j nm)).2]) w):=by
 have G1:=Lib.hid (fun o=>rget_any S d v j nm (w.alloc o) (h.below ((Below.refl _ _).alloc (Nat.le_refl _) _) (Nat.le_refl _)));unfold RG at G1;generalize getS j nm=R at *;obtain ⟨x,b⟩:=R;obtain ⟨k,m,e,t,an,nn,cn,ai,ni,ci,rfl⟩:=jAt_form h;clear h;unfold withG
 cases b with
 | false=>
   rw [if_neg (by simp)]
   go_enter Tryz.func80,Tryz.ntmps80
   go_upto_region 2 with (go_at_call 56;(with_reducible refine (G1.out _).mono ?_);rintro e1 w1 ⟨k2,m2,e2',t2,an2,nn2,cn2,ai2,ni2,ci2,rfl,hJ,hb⟩)
   have hB:=Lib.hid ((below_box hb).alloc (below_box hb).size (.cells #[.int .i64 k2,.int .i64 m2,.int .i64 e2',.string t2,.slice an2 nn2 cn2,.slice ai2 ni2 ci2] 49))
   go_quiet (fail)
   go_wp2_with fail
   go_ret2
   exact ⟨rfl,bdrewN hB.out _⟩
 | true=>
   rw [if_pos rfl];obtain ⟨xk,xm,xe,xt,xns,xis⟩:=x
   by_cases h3:xk=3
   ·subst h3;rw [show flagS (.mk 3 xm xe xt xns xis)=(true,true) from rfl]
    go_enter Tryz.func80,Tryz.ntmps80
    go_upto_region 2 with (go_at_call 56;(with_reducible refine (G1.out _).mono ?_);rintro e1 w1 ⟨k2,m2,e2',t2,an2,nn2,cn2,ai2,ni2,ci2,rfl,hJ,hb⟩;obtain ⟨h1,_⟩:=jAt_tell hJ;have h1':(3:Int)=k2:=h1;subst h1')
    have hB:=Lib.hid ((below_box hb).alloc (below_box hb).size (.cells #[.int .i64 3,.int .i64 m2,.int .i64 e2',.string t2,.slice an2 nn2 cn2,.slice ai2 ni2 ci2] 49));clear hJ hb
    go_quiet (fail)
    go_wp2_with fail
    go_ret2
    exact ⟨rfl,bdrewN hB.out _⟩
   ·have q3:(xk==3)=false:=(by simpa using h3);have q4:decide (xk=3)=false:=by simpa using h3
    by_cases h2:xk=2
    ·subst h2;clear q3 q4 h3;rw [show flagS (.mk 2 xm xe xt xns xis)=(false,true) from rfl]
     go_enter Tryz.func80,Tryz.ntmps80
     go_upto_region 2 with (go_at_call 56;(with_reducible refine (G1.out _).mono ?_);rintro e1 w1 ⟨k2,m2,e2',t2,an2,nn2,cn2,ai2,ni2,ci2,rfl,hJ,hb⟩;obtain ⟨h1,_⟩:=jAt_tell hJ;have h1':(2:Int)=k2:=h1;subst h1')
     have hB:=Lib.hid ((below_box hb).alloc (below_box hb).size (.cells #[.int .i64 2,.int .i64 m2,.int .i64 e2',.string t2,.slice an2 nn2 cn2,.slice ai2 ni2 ci2] 49));clear hJ hb
     go_quiet (fail)
     go_wp2_with fail
     go_ret2
     exact ⟨rfl,bdrewN hB.out _⟩
    ·have q5:(xk==2)=false:=(by simpa using h2);have q6:decide (xk=2)=false:=(by simpa using h2);rw [show flagS (.mk xk xm xe xt xns xis)=(false,false) from by unfold flagS;simp [J.k,h3,h2]]
     go_enter Tryz.func80,Tryz.ntmps80
     go_upto_region 2 with (go_at_call 56;(with_reducible refine (G1.out _).mono ?_);rintro e1 w1 ⟨k2,m2,e2',t2,an2,nn2,cn2,ai2,ni2,ci2,rfl,hJ,hb⟩;obtain ⟨h1,_⟩:=jAt_tell hJ;obtain rfl:xk=k2:=h1)
     have hB:=Lib.hid ((below_box hb).alloc (below_box hb).size (.cells #[.int .i64 xk,.int .i64 m2,.int .i64 e2',.string t2,.slice an2 nn2 cn2,.slice ai2 ni2 ci2] 49));clear hJ hb
     go_quiet (fail)
     go_wp2_with fail
     go_ret2
     exact ⟨rfl,bdrewN hB.out _⟩
end Go.Proofs.YtclghelocglnlaaGreatDoor.Js
namespace Go.Proofs.YtclghelocglnlaaGreatDoor.Js
open Go.RowKit Lex
theorem rint5_any (n:Int) (w:World) (h0: -9223372036854775808<=n) (h1:n<=9223372036854775807):Calls Tryz.prog 23 #[.int .i64 n] w (Ret (bareV (intJ n).k (intJ n).m (intJ n).e []) w):=by
 have M1:=Lib.hid (fun w=>Dec.rmake_any n 0 w h0 h1 (by decide) (by decide));unfold Dec.mkV at M1;unfold intJ bareV;generalize Dec.mk n 0=R at *;obtain ⟨r1,r2,r3⟩:=R;simp only at M1⊢
 cases r3 with
 | true=>
   rw [if_pos rfl];show Calls _ _ _ _ (Ret (.agg #[.int .i64 4,.int .i64 r1,.int .i64 r2,.string ⟨#[]⟩,.slice none 0 0,.slice none 0 0]) w)
   go_enter Tryz.func23,Tryz.ntmps23
   go_wp2_with (go_at_call 57;(with_reducible refine (M1.out _).mono ?_);rintro e1 w1 ⟨rfl,hb1⟩;obtain ⟨x1,x2,x3⟩:=ans_one hb1;obtain ⟨⟨z0,z1,z2,z3,z4,z5⟩,g0,g1,g2,g3,g4,g5⟩:=twelve_of x1)
   have q:=six_of (put6_alloc_row (o:= .cells #[.int .i64 r1,.int .i64 r2] 46) (put6_self x1 (.int .i64 4) (.int .i64 r1) (.int .i64 r2) (.string ⟨#[]⟩) (.slice none 0 0) (.slice none 0 0)));simp only [put6,Nat.zero_add] at q;obtain ⟨q0,q1,q2,q3,q4,q5⟩:=q;refine bodyPost_ret (v:= .agg #[.int .i64 4,.int .i64 r1,.int .i64 r2,.string ⟨#[]⟩,.slice none 0 0,.slice none 0 0]) (by simp [results,Tryz.results23,go_sem,q0,q1,q2,q3,q4,q5]) rfl ?_;exact ⟨rfl,(below_put6' x3 (Nat.le_refl _) _ _ _ _ _ _).alloc (by rw [put6_size];exact Nat.le_of_lt x2) _⟩
 | false=>
   rw [if_neg (by simp)];show Calls _ _ _ _ (Ret (.agg #[.int .i64 1,.int .i64 0,.int .i64 0,.string ⟨#[]⟩,.slice none 0 0,.slice none 0 0]) w)
   go_enter Tryz.func23,Tryz.ntmps23
   go_wp2_with (go_at_call 57;(with_reducible refine (M1.out _).mono ?_);rintro e1 w1 ⟨rfl,hb1⟩;obtain ⟨x1,x2,x3⟩:=ans_one hb1;obtain ⟨⟨z0,z1,z2,z3,z4,z5⟩,g0,g1,g2,g3,g4,g5⟩:=twelve_of x1)
   have q:=six_of (put6_alloc_row (o:= .cells #[.int .i64 r1,.int .i64 r2] 46) (put6_self x1 (.int .i64 1) (.int .i64 0) (.int .i64 0) (.string ⟨#[]⟩) (.slice none 0 0) (.slice none 0 0)));simp only [put6,Nat.zero_add] at q;obtain ⟨q0,q1,q2,q3,q4,q5⟩:=q;refine bodyPost_ret (v:= .agg #[.int .i64 1,.int .i64 0,.int .i64 0,.string ⟨#[]⟩,.slice none 0 0,.slice none 0 0]) (by simp [results,Tryz.results23,go_sem,q0,q1,q2,q3,q4,q5]) rfl ?_;exact ⟨rfl,(below_put6' x3 (Nat.le_refl _) _ _ _ _ _ _).alloc (by rw [put6_size];exact Nat.le_of_lt x2) _⟩
theorem ryes_any (b:Bool) (w:World):Calls Tryz.prog 55 #[.bool b] w (Ret (bareV (if b=true then 3 else 2) 0 0 []) w):=by
 unfold bareV
 cases b with
 | true=>
   go_enter Tryz.func55,Tryz.ntmps55
   go_wp2_with fail
   exact bodyPost_ret (v:= .agg #[.int .i64 3,.int .i64 0,.int .i64 0,.string ⟨#[]⟩,.slice none 0 0,.slice none 0 0]) (by simp [results,Tryz.results55,go_sem]) rfl ⟨rfl,belowOne _ _⟩
 | false=>
   go_enter Tryz.func55,Tryz.ntmps55
   go_wp2_with fail
   exact bodyPost_ret (v:= .agg #[.int .i64 2,.int .i64 0,.int .i64 0,.string ⟨#[]⟩,.slice none 0 0,.slice none 0 0]) (by simp [results,Tryz.results55,go_sem]) rfl ⟨rfl,belowOne _ _⟩
theorem rstr5_any (t:List UInt8) (w:World):Calls Tryz.prog 24 #[.string ⟨t.toArray⟩] w (Ret (bareV 5 0 0 t) w):=by
 unfold bareV
 go_enter Tryz.func24,Tryz.ntmps24
 go_wp2_with fail
 exact bodyPost_ret (v:= .agg #[.int .i64 5,.int .i64 0,.int .i64 0,.string ⟨t.toArray⟩,.slice none 0 0,.slice none 0 0]) (by simp [results,Tryz.results24,go_sem]) rfl ⟨rfl,belowOne _ _⟩
end Go.Proofs.YtclghelocglnlaaGreatDoor.Js
namespace Go.Proofs.YtclghelocglnlaaGreatDoor.Js
open Go.RowKit Lex
end Go.Proofs.YtclghelocglnlaaGreatDoor.Js
namespace Go.Proofs.YtclghelocglnlaaGreatDoor.Js
open Go.RowKit Lex
def XB (w:World) (d:Nat) (r:J×Bool) (p q:Value) (w':World):Prop:=
 ∃bx k m e t an nn cn ai ni ci,p= .pointer (some ⟨bx,0,none⟩)/\q= .bool r.2/\Below w.heap.size w w'/\w'.heap[bx]?=some (.cells #[.int .i64 k,.int .i64 m,.int .i64 e,.string t,.slice an nn cn,.slice ai ni ci] 49 (0,0))/\JAt Any w' d (.agg #[.int .i64 k,.int .i64 m,.int .i64 e,.string t,.slice an nn cn,.slice ai ni ci]) r.1
theorem XB.ofA {w w5:World} {d:Nat} {r:J×Bool} {k m e:Int} {t:ByteArray} {an:Option Addr} {nn cn:Nat} {ai:Option Addr} {ni ci:Nat} (hb:Below w.heap.size w w5) (hJ:JAt (fun b=>b < w.heap.size) w5 d (.agg #[.int .i64 k,.int .i64 m,.int .i64 e,.string t,.slice an nn cn,.slice ai ni ci]) r.1):
 XB w d r (.pointer (some ⟨w5.heap.size,0,none⟩)) (.bool r.2) (w5.alloc (.cells #[.int .i64 k,.int .i64 m,.int .i64 e,.string t,.slice an nn cn,.slice ai ni ci] 49)):=
 ⟨_,k,m,e,t,an,nn,cn,ai,ni,ci,rfl,rfl,hb.alloc hb.size _,heap_alloc_new _ _,hJ.any.below (belowOne _ _) (Nat.le_refl _)⟩
theorem XB.ofB {w w5:World} {d:Nat} {r:J×Bool} {k m e:Int} {t:ByteArray} {an:Option Addr} {nn cn:Nat} {ai:Option Addr} {ni ci:Nat} {d0 d1 d2 d3 d4 d5:Value} (hb:Below w.heap.size w w5) (hz:w5.heap[w.heap.size]?=some (.cells #[d0,d1,d2,d3,d4,d5] 49 (0,0))) (hJ:JAt (fun b=>b < w.heap.size) w5 d (.agg #[.int .i64 k,.int .i64 m,.int .i64 e,.string t,.slice an nn cn,.slice ai ni ci]) r.1):
 XB w d r (.pointer (some ⟨w.heap.size,0,none⟩)) (.bool r.2) ((((((w5.setCell ⟨w.heap.size,0,none⟩ (.int .i64 k)).setCell ⟨w.heap.size,1,none⟩ (.int .i64 m)).setCell ⟨w.heap.size,2,none⟩ (.int .i64 e)).setCell ⟨w.heap.size,3,none⟩ (.string t)).setCell ⟨w.heap.size,4,none⟩ (.slice an nn cn)).setCell ⟨w.heap.size,5,none⟩ (.slice ai ni ci)):=by
 have h:XB w d r (.pointer (some ⟨w.heap.size,0,none⟩)) (.bool r.2) (put6 w5 w.heap.size 0 (.int .i64 k) (.int .i64 m) (.int .i64 e) (.string t) (.slice an nn cn) (.slice ai ni ci)):=
  ⟨_,k,m,e,t,an,nn,cn,ai,ni,ci,rfl,rfl,below_put6' hb (Nat.le_refl _) _ _ _ _ _ _,put6_self hz _ _ _ _ _ _,hJ.keep (S':=Any) (fun _ _ _=>trivial) (fun b hb' _=>put6_block _ _ 0 _ _ _ _ _ _ b (by have h':b < w.heap.size:=hb';omega)) (by rw [put6_size];exact Nat.le_refl _)⟩
 simpa only [put6,Nat.zero_add] using h
end Go.Proofs.YtclghelocglnlaaGreatDoor.Js
namespace Go.Proofs.YtclghelocglnlaaGreatDoor.Js
open Go.RowKit Lex
theorem plc_has (nm:List UInt8):∀(ns:List (List UInt8)) (q n:Nat),q+ns.length<=n->ns.contains nm=decide (0<=plcL nm ns q n)
 | [],q,n,_=>by simp [plcL]
 | x::r,q,n,h=>by
   have hl:q < n:=by simp at h;omega
   rw [plcL,if_pos hl]
   by_cases e:x=nm
   ·rw [if_pos e];subst e;simp
   ·rw [if_neg e,<-plc_has nm r (q+1) n (by simp at h;omega),List.contains_cons];have:(nm==x)=false:=(by simpa using fun h=>e h.symm);rw [this,Bool.false_or]
theorem getS_two {k m e:Int} {t:List UInt8} {ns:List (List UInt8)} {is:List J} (hk:k=7) (hl:ns.length=is.length) (nm:List UInt8):(getS (.mk k m e t ns is) nm).2=ns.contains nm:=by
 rw [getS_at hk,plc_has nm ns 0 is.length (by omega)]
 by_cases h:plcL nm ns 0 is.length < 0
 ·rw [if_pos h];simp;omega
 ·rw [if_neg h];simp;omega
structure MR (w:World) (d:Nat) (nv iv:Value) (ns:List (List UInt8)) (vs:List Value) (acc:List J) (wr:World):Prop where
 bel:Below w.heap.size w wr
 bres:wr.heap[w.heap.size]?=some (.cells zero6 49 (0,0))
 blk:wr.heap[w.heap.size+1]?=some (.cells #[.int .i64 7,.int .i64 0,.int .i64 0,.string ⟨#[]⟩,nv,iv] 49 (0,0))
 irow:wr.ownsRow (w.heap.size+2) 49 6 iv acc.length (vs.flatMap aggC)
 nrow:wr.ownsRow (w.heap.size+2) 9 1 nv ns.length (ns.map strW)
 vl:vs.length=acc.length
 txt:∀x∈ns,txtB x
 items:∀i,i < acc.length->JAt (fun b=>b < w.heap.size) w d (vs.getD i undef) (acc.getD i j0)
 sz:w.heap.size+2<=wr.heap.size
theorem own_mono {w:World} {b b' e s n:Nat} {v:Value} {xs:List Value} (h:w.ownsRow b e s v n xs) (hb:b'<=b):w.ownsRow b' e s v n xs:=by
 refine ⟨h.1,?_⟩;rcases h.2 with hn | ⟨g,cap,cur,hv,hbg,hr⟩
 ·exact .inl hn
 ·exact .inr ⟨g,cap,cur,hv,by omega,hr⟩
section
variable {w:World} {d:Nat} {nv iv:Value} {ns:List (List UInt8)} {vs:List Value} {acc:List J} {wr wS w2:World} {g cp:Nat}
theorem MR.below (h:MR w d nv iv ns vs acc wr) {w':World} {B:Nat} (hb:Below B wr w') (hB:wr.heap.size<=B):MR w d nv iv ns vs acc w':=by
 have hs:=h.sz;have hs2:=hb.size;exact ⟨h.bel.trans (hb.mono (by omega)),(hb.block _ (by omega)).trans h.bres,(hb.block _ (by omega)).trans h.blk,row_keep h.irow (fun g _ hl=>hb.block g (by omega)),row_keep h.nrow (fun g _ hl=>hb.block g (by omega)),h.vl,h.txt,h.items,by omega⟩
theorem MR.own3 (h:MR w d nv iv ns vs acc wr):Own3 0 d nv iv ns vs acc wr:=
 ⟨own_mono h.irow (Nat.zero_le _),own_mono h.nrow (Nat.zero_le _),h.vl,h.txt,fun i hi=>by
   have hs:=h.sz;refine (h.items i hi).keep (fun b hb _=>⟨Nat.zero_le _,fun e=> ?_,fun e=> ?_⟩) (fun b hb hl=>h.bel.block b hl) (by omega)
   ·have:=(h.irow.lt b e.symm).1;omega
   ·have:=(h.nrow.lt b e.symm).1;omega⟩
theorem MR.jat (h:MR w d nv iv ns vs acc wr) (hn:ns.length<=1000000) (ha:acc.length<=1000000):JAt Any wr (d+1) (.agg #[.int .i64 7,.int .i64 0,.int .i64 0,.string ⟨#[]⟩,nv,iv]) (.mk 7 0 0 [] ns acc):=by
 obtain ⟨ai,ci,rfl⟩:=own_slice h.irow;obtain ⟨_,hc,hI⟩:=h.own3.its;exact ⟨nv,ai,ci,rfl,⟨by decide,by decide⟩,⟨by decide,by decide⟩,⟨by decide,by decide⟩,by unfold txtB;simp,h.own3.strs hn,hc,by omega,hI⟩
theorem MR.name (h:MR w d nv iv ns vs acc wr) (hgrow:wS.grownBy w2 nv.ownBlock) (hBS:Below wr.heap.size wr wS) (hat:nv.ownBlock=some g∨wr.heap.size<=g) {nm:List UInt8} (ht:txtB nm)
 (hown:w2.ownsRow (w.heap.size+2) 9 1 (.slice (some ⟨g,0,none⟩) (ns.length+1) cp) (ns.length+1) (ns.map strW++ [strW nm])):
 MR w d (.slice (some ⟨g,0,none⟩) (ns.length+1) cp) iv (ns++ [nm]) vs acc (w2.setCell ⟨w.heap.size+1,4,none⟩ (.slice (some ⟨g,0,none⟩) (ns.length+1) cp)):=by
 obtain ⟨F1,F2,F3,F4,F5⟩:=name_frame (bv:=w.heap.size+1) (nv:=nv) hgrow hBS (.slice (some ⟨g,0,none⟩) (ns.length+1) cp);have hs:=h.sz;have hsS:=hBS.size;have hnlt:∀b,nv.ownBlock=some b->w.heap.size+2<=b/\b < wr.heap.size:=fun b hb=>h.nrow.lt b hb
 have hilt:∀b,iv.ownBlock=some b->w.heap.size+2<=b/\b < wr.heap.size:=fun b hb=>h.irow.lt b hb
 have hne:some (w.heap.size+1)≠nv.ownBlock:=fun e=>by have:=(hnlt _ e.symm).1;omega
 have hbg:w.heap.size+1≠g:=by
  rcases hat with e | e
  ·intro e2;rw [<-e2] at e;exact hne e.symm
  ·omega
 have hb2:w2.heap[w.heap.size+1]?=wr.heap[w.heap.size+1]?:=by rw [hgrow.block _ (by omega) hne,hBS.block _ (by omega)]
 have hapart:iv.ownBlock=none∨iv.ownBlock≠nv.ownBlock:=Own.own_apart h.nrow h.irow (by decide);refine ⟨⟨F3.trans h.bel.os,F4.trans h.bel.tape,F5.trans h.bel.output,by omega,fun b hb=> ?_⟩,?_,set_cell4 (hb2.trans h.blk) _,?_,?_,h.vl,?_,h.items,by omega⟩
 ·rw [F1 b (by omega) (fun e=>by have:=(hnlt b e.symm).1;omega) (by omega)];exact h.bel.block b hb
 ·rw [F1 _ (by omega) (fun e=>by have:=(hnlt _ e.symm).1;omega) (by omega)];exact h.bres
 ·exact row_keep h.irow (fun gi e1 hl=>F1 gi hl (fun e=>by
   rcases hapart with h' | h'
   ·rw [h'] at e1;cases e1
   ·exact h' (e1.trans e)) (by have:=(hilt gi e1).1;omega))
 ·have:=ownsRow_setCell_other hown (a:=⟨w.heap.size+1,4,none⟩) (by simpa [Value.ownBlock] using Ne.symm hbg) (.slice (some ⟨g,0,none⟩) (ns.length+1) cp)
  simpa using this
 ·intro x hx;rcases List.mem_append.1 hx with hx | hx
  ·exact h.txt x hx
  ·simp at hx;subst hx;exact ht
theorem MR.item (h:MR w d nv iv ns vs acc wr) (hgrow:wS.grownBy w2 iv.ownBlock) (hBS:Below wr.heap.size wr wS) (hat:iv.ownBlock=some g∨wr.heap.size<=g)
 {c0 c1 c2 c3 c4 c5:Value} (hown:w2.ownsRow (w.heap.size+2) 49 6 (.slice (some ⟨g,0,none⟩) (acc.length+1) cp) (acc.length+1) (vs.flatMap aggC++ [c0,c1,c2,c3,c4,c5]))
 {j:J} (hJ:JAt (fun b=>b < w.heap.size) w d (.agg #[c0,c1,c2,c3,c4,c5]) j):
 MR w d nv (.slice (some ⟨g,0,none⟩) (acc.length+1) cp) ns (vs++ [.agg #[c0,c1,c2,c3,c4,c5]]) (acc++ [j]) (w2.setCell ⟨w.heap.size+1,5,none⟩ (.slice (some ⟨g,0,none⟩) (acc.length+1) cp)):=by
 obtain ⟨F1,F2,F3,F4,F5⟩:=item_frame5 (bv:=w.heap.size+1) (iv:=iv) hgrow hBS (.slice (some ⟨g,0,none⟩) (acc.length+1) cp);have hs:=h.sz;have hsS:=hBS.size;have hnlt:∀b,nv.ownBlock=some b->w.heap.size+2<=b/\b < wr.heap.size:=fun b hb=>h.nrow.lt b hb
 have hilt:∀b,iv.ownBlock=some b->w.heap.size+2<=b/\b < wr.heap.size:=fun b hb=>h.irow.lt b hb
 have hne:some (w.heap.size+1)≠iv.ownBlock:=fun e=>by have:=(hilt _ e.symm).1;omega
 have hbg:w.heap.size+1≠g:=by
  rcases hat with e | e
  ·intro e2;rw [<-e2] at e;exact hne e.symm
  ·omega
 have hb2:w2.heap[w.heap.size+1]?=wr.heap[w.heap.size+1]?:=by rw [hgrow.block _ (by omega) hne,hBS.block _ (by omega)]
 have hapart:nv.ownBlock=none∨nv.ownBlock≠iv.ownBlock:=Own.own_apart h.irow h.nrow (by decide);refine ⟨⟨F3.trans h.bel.os,F4.trans h.bel.tape,F5.trans h.bel.output,by omega,fun b hb=> ?_⟩,?_,set_cell5 (hb2.trans h.blk) _,?_,?_,by simp [h.vl],h.txt,fun i hi=> ?_,by omega⟩
 ·rw [F1 b (by omega) (fun e=>by have:=(hilt b e.symm).1;omega) (by omega)];exact h.bel.block b hb
 ·rw [F1 _ (by omega) (fun e=>by have:=(hilt _ e.symm).1;omega) (by omega)];exact h.bres
 ·have:=ownsRow_setCell_other hown (a:=⟨w.heap.size+1,5,none⟩) (by simpa [Value.ownBlock] using Ne.symm hbg) (.slice (some ⟨g,0,none⟩) (acc.length+1) cp)
  simpa [aggC] using this
 ·exact row_keep h.nrow (fun gn e1 hl=>F1 gn hl (fun e=>by
   rcases hapart with h' | h'
   ·rw [h'] at e1;cases e1
   ·exact h' (e1.trans e)) (by have:=(hnlt gn e1).1;omega))
 ·by_cases hia:i < acc.length
  ·have:=h.items i hia
   rwa [show (vs++ [Value.agg #[c0,c1,c2,c3,c4,c5]]).getD i undef=vs.getD i undef by rw [List.getD_eq_getElem?_getD,List.getD_eq_getElem?_getD,List.getElem?_append_left (by rw [h.vl];exact hia)],
    show (acc++ [j]).getD i j0=acc.getD i j0 by rw [List.getD_eq_getElem?_getD,List.getD_eq_getElem?_getD,List.getElem?_append_left hia]]
  ·have hi':i=acc.length:=by simp at hi;omega
   subst hi'
   rwa [show (vs++ [Value.agg #[c0,c1,c2,c3,c4,c5]]).getD acc.length undef= .agg #[c0,c1,c2,c3,c4,c5] by rw [<-h.vl,List.getD_eq_getElem?_getD,List.getElem?_append_right (Nat.le_refl _)];simp,
    show (acc++ [j]).getD acc.length j0=j by rw [List.getD_eq_getElem?_getD,List.getElem?_append_right (Nat.le_refl _)];simp]
end
theorem MR.begin (w:World) (d:Nat):MR w d (.slice none 0 0) (.slice none 0 0) [] [] [] ((w.alloc (.cells zero6 49)).alloc (.cells #[.int .i64 7,.int .i64 0,.int .i64 0,.string ⟨#[]⟩,.slice none 0 0,.slice none 0 0] 49)):=by
 refine ⟨((Below.refl _ _).alloc (Nat.le_refl _) _).alloc (by simp) _,?_,two_new w _ _,World.ownsRow_nil _ _ _ _,World.ownsRow_nil _ _ _ _,rfl,fun x hx=>by simp at hx,fun i hi=>by simp at hi,by simp⟩;rw [Below.heap_alloc _ _ _ (by simp)];exact heap_alloc_new w _
end Go.Proofs.YtclghelocglnlaaGreatDoor.Js
namespace Go.Proofs.YtclghelocglnlaaGreatDoor.Js
open Go.RowKit Lex
theorem Own3.jat7 {base n:Nat} {nv iv:Value} {ns:List (List UInt8)} {vs:List Value} {acc:List J} {w:World} (h:Own3 base n nv iv ns vs acc w) (hn:ns.length<=1000000) (ha:acc.length<=1000000):JAt Any w (n+1) (.agg #[.int .i64 7,.int .i64 0,.int .i64 0,.string ⟨#[]⟩,nv,iv]) (.mk 7 0 0 [] ns acc):=by
 obtain ⟨ai,ci,rfl⟩:=own_slice h.irow;obtain ⟨_,hc,hI⟩:=h.its;exact ⟨nv,ai,ci,rfl,⟨by decide,by decide⟩,⟨by decide,by decide⟩,⟨by decide,by decide⟩,by unfold txtB;simp,h.strs hn,hc,by omega,hI⟩
theorem MR.fin {w:World} {d:Nat} {nv iv:Value} {ns:List (List UInt8)} {vs:List Value} {acc:List J} {wr:World} (h:MR w d nv iv ns vs acc wr) (hn:ns.length<=1000000) (ha:acc.length<=1000000) (c0 c1 c2 c3 c4 c5:Value):
 JAt Any (put6 wr w.heap.size 0 c0 c1 c2 c3 c4 c5) (d+1) (.agg #[.int .i64 7,.int .i64 0,.int .i64 0,.string ⟨#[]⟩,nv,iv]) (.mk 7 0 0 [] ns acc)/\Below w.heap.size w (put6 wr w.heap.size 0 c0 c1 c2 c3 c4 c5):=by
 have hs:=h.sz
 have hO:Own3 0 d nv iv ns vs acc (put6 wr w.heap.size 0 c0 c1 c2 c3 c4 c5):=⟨row_keep h.own3.irow (fun g e hl=>put6_block _ _ 0 _ _ _ _ _ _ g (by have:=(h.irow.lt g e).1;omega)),row_keep h.own3.nrow (fun g e hl=>put6_block _ _ 0 _ _ _ _ _ _ g (by have:=(h.nrow.lt g e).1;omega)),h.vl,h.txt,fun i hi=>by
  refine (h.items i hi).keep (fun b hb _=>⟨Nat.zero_le _,fun e=> ?_,fun e=> ?_⟩) (fun b hb hl=>(put6_block _ _ 0 _ _ _ _ _ _ b (by have h':b < w.heap.size:=hb;omega)).trans (h.bel.block b hl)) (by rw [put6_size];omega)
  ·have:=(h.irow.lt b e.symm).1;omega
  ·have:=(h.nrow.lt b e.symm).1;omega⟩
 exact ⟨hO.jat7 hn ha,below_put6' h.bel (Nat.le_refl _) _ _ _ _ _ _⟩
theorem rmake5_any (d:Nat) (w:World) (an:Option Addr) (cn:Nat) (ai:Option Addr) (ci:Nat) (names:List (List UInt8)) (items:List J) (hN:StrsAt Any w (.slice an names.length cn) names) (hl:items.length<=1599289640354) (hc:items.length<=ci) (hI:ItemsAt Any w d ai items)
 (hm:min names.length items.length<=1000000):Calls Tryz.prog 22 #[.slice an names.length cn,.slice ai items.length ci] w (fun e w'=>∃nn cn' ni ci' a a',e= .returned (.agg #[.int .i64 7,.int .i64 0,.int .i64 0,.string ⟨#[]⟩,.slice a nn cn',.slice a' ni ci'])/\JAt Any w' (d+1) (.agg #[.int .i64 7,.int .i64 0,.int .i64 0,.string ⟨#[]⟩,.slice a nn cn',.slice a' ni ci']) (mkJ names items)/\Below w.heap.size w w'):=by
 obtain ⟨_,_,e1,hn1,hn2,htx,hcn⟩:=hN
 cases e1
 have HX:=Lib.hid htx;have HCN:=Lib.hid hcn;have HIT:Hid (ItemsAt Any w d ai items):=hI;obtain ⟨i0,hi0,hz0,hz1,hz2⟩:=info_parts json_info;obtain ⟨i1,hi1,hx0,hx1,hx2⟩:=info_parts str_info2;obtain ⟨FN,HFN⟩:∃FN,Hid (mkL names items [] []=FN):=⟨_,rfl⟩;unfold mkJ;rw [HFN.out];clear htx hcn hI;obtain ⟨nn,HNN⟩:∃n,Hid (names.length=n):=⟨_,rfl⟩;obtain ⟨ni,HNI⟩:∃n,Hid (items.length=n):=⟨_,rfl⟩;rw [HNN.out] at hn1 hn2 hm⊢;rw [HNI.out] at hl hc hm⊢
 go_enter Tryz.func22,Tryz.ntmps22
 go_wp2_with fail
 go_loopw [6] (fun i wr=>∃(q:Nat) (nv iv:Value) (ns:List (List UInt8)) (vs:List Value) (acc:List J),q<=nn/\q<=ni/\i= .int .i64 (q:Int)/\Hid (mkL (names.drop q) (items.drop q) ns acc=FN)/\acc.length<=q/\ns.length=acc.length/\Hid (MR w d nv iv ns vs acc wr)) (fun i _=>nn - (intOf i).toNat)
 case atStart=>exact ⟨0,_,_,[],[],[],Nat.zero_le _,Nat.zero_le _,rfl,HFN,by simp,by simp,MR.begin w d⟩
 case round=>
  clear HFN;obtain ⟨q,nv,iv,ns,vs,acc,hq1,hq2,rfl,HF,hal,hnl,HI⟩:=hrel;have HNL:=Lib.hid hnl;clear hnl;have hsz:=HI.out.sz
  by_cases hlt:q < nn/\q < ni
  ·obtain ⟨hl1,hl2⟩:=hlt;have a2:(q:Int) < (nn:Int):=by omega
   have a3:(q:Int) < (ni:Int):=by omega
   have hal1:acc.length<=1000000:=by omega
   have hnl1:ns.length<=1000000:=by rw [HNL.out];omega
   obtain ⟨bn,on,rfl,_,hbn,hxn⟩:=HCN.out (by rw [HNN.out];omega);have x1:=(World.cell?_of_block (w:=wr) (a:=⟨bn,on+q,none⟩) rfl).trans ((World.cell?_of_block (w:=w) (a:=⟨bn,on+q,none⟩) (HI.out.bel.block bn hbn)).trans (hxn q (by rw [HNN.out];omega)));have HST:=Lib.hid (mkL_step names items q (by rw [HNN.out];exact hl1) (by rw [HNI.out];exact hl2) ns acc);have HNM:Hid (txtB (names.getD q [])):=HX.out _ (by rw [List.getD_eq_getElem?_getD,List.getElem?_eq_getElem (by rw [HNN.out];exact hl1)];exact List.getElem_mem _);have hbnr:bn < wr.heap.size:=Nat.lt_of_lt_of_le hbn HI.out.bel.size;unfold strW at x1;generalize names.getD q []=nm at *;obtain ⟨ano,capn,rfl⟩:=own_slice HI.out.nrow;obtain ⟨aio,capi,rfl⟩:=own_slice HI.out.irow;obtain ⟨y0,y1,y2,y3,y4,y5⟩:=six_of HI.out.blk;have hvbl:w.heap.size+1 < wr.heap.size:=by omega
   have hJr:JAt (fun b=>b < wr.heap.size) wr (d+1) (.agg #[.int .i64 7,.int .i64 0,.int .i64 0,.string ⟨#[]⟩,.slice ano ns.length capn,.slice aio acc.length capi]) (.mk 7 0 0 [] ns acc):=(HI.out.jat hnl1 hal1).keep (fun b _ hb=>hb) (fun _ _ _=>rfl) (Nat.le_refl _);have GA:=Lib.hid (rget_any _ (d+1) _ _ nm wr.drew (hJr.below (Below.refl _ _).drew (Nat.le_refl _)));have GB:=Lib.hid (rget_any _ (d+1) _ _ nm (wr.alloc (.cells #[.int .i64 0,.int .i64 0,.int .i64 0,.string ⟨#[]⟩,.slice none 0 0,.slice none 0 0] 49)).drew (hJr.below ((Below.refl _ _).alloc (Nat.le_refl _) _).drew (Nat.le_refl _)));have HG2:=Lib.hid (getS_two (k:=7) (m:=0) (e:=0) (t:= []) rfl HNL.out nm);unfold RG at GA GB;generalize getS (.mk 7 0 0 [] ns acc) nm=G at *;clear hxn hJr
   go_upto_region 5 with fail
   go_cut [7,8] from 22 to 30 (fun s6 s7 wy=>Hid (XB wr (d+1) G s6 s7 wy))
   case first=>
    go_region_law (first
     | (go_simp;go_at_call 56;(with_reducible refine (GA.out).mono ?_);rintro e5 w5 ⟨k5,m5,e5',t5,an5,nn5,cn5,ai5,ni5,ci5,rfl,hJ5,hb5⟩;have HB5:=Lib.hid (((Below.refl _ _).drew).trans hb5:Below wr.heap.size wr w5);have HJ5:=Lib.hid (hJ5.below hb5 (Nat.le_refl _)))
     | (go_simp;go_at_call 56;(with_reducible refine (GB.out).mono ?_);rintro e5 w5 ⟨k5,m5,e5',t5,an5,nn5,cn5,ai5,ni5,ci5,rfl,hJ5,hb5⟩;have HZ5:=Lib.hid ((hb5.block _ (by show wr.heap.size < (wr.alloc (.cells #[.int .i64 0,.int .i64 0,.int .i64 0,.string ⟨#[]⟩,.slice none 0 0,.slice none 0 0] 49)).heap.size;simp)).trans (heap_alloc_new wr (.cells #[.int .i64 0,.int .i64 0,.int .i64 0,.string ⟨#[]⟩,.slice none 0 0,.slice none 0 0] 49)):w5.heap[wr.heap.size]?=some (.cells #[.int .i64 0,.int .i64 0,.int .i64 0,.string ⟨#[]⟩,.slice none 0 0,.slice none 0 0] 49 (0,0)));obtain ⟨⟨z0,z1,z2,z3,z4,z5⟩,g0,g1,g2,g3,g4,g5⟩:=twelve_of HZ5.out;have HB5:=Lib.hid ((((Below.refl _ _).alloc (Nat.le_refl _) _).drew).trans (hb5.mono (by show wr.heap.size<=(wr.alloc (.cells #[.int .i64 0,.int .i64 0,.int .i64 0,.string ⟨#[]⟩,.slice none 0 0,.slice none 0 0] 49)).heap.size;simp)):Below wr.heap.size wr w5);have HJ5:=Lib.hid (hJ5.below hb5 (Nat.le_refl _))))
    all_goals go_wp2_with fail
    all_goals go_meet
    all_goals first
     | (with_reducible exact Lib.hid (XB.ofA HB5.out HJ5.out))
     | (with_reducible exact Lib.hid (XB.ofB HB5.out HZ5.out HJ5.out))
   case rest=>
    obtain ⟨bx,k6,m6,e6,t6,an6,nn6,cn6,ai6,ni6,ci6,rfl,rfl,hb6,_,_⟩:=hcut.out;have HM:=Lib.hid (HI.out.below hb6 (Nat.le_refl _));rw [HG2.out];have x2:=(hb6.cell (p:=⟨bn,on+q,none⟩) hbnr).trans x1;have hbn1:bn < wc.heap.size:=Nat.lt_of_lt_of_le hbnr hb6.size;clear x1 y0 y1 y2 y3 y4 y5 GA GB HI hcut hb6 hbnr
    cases hcc:ns.contains nm with
    | true=>
      have HCC:=Lib.hid hcc;clear hcc
      go_wp2_with fail
      go_roundw
      case rel=>exact ⟨q+1,_,_,ns,vs,acc,by omega,by omega,by go_num,by show _=_;rw [<-HF.out,HST.out,if_pos HCC.out],by omega,HNL.out,HM⟩
      case measure=>simp [intOf];omega
    | false=>
      have HCC:=Lib.hid hcc;clear hcc;have hsz1:=HM.out.sz
      go_upto_region 7 with fail
      go_cut [33] from 33 to 41 (fun pv wx=>Hid (∃nv2,MR w d nv2 (.slice aio acc.length capi) (ns++ [nm]) vs acc wx))
      case first=>
       obtain ⟨y0,y1,y2,y3,y4,y5⟩:=six_of HM.out.blk;have yf:=free_of HM.out.blk 4;have hbl1:w.heap.size+1 < wc.heap.size:=Own.block_lt HM.out.blk;have hnbv:some (w.heap.size+1)≠(Value.slice ano ns.length capn).ownBlock:=fun h=>by have:=(HM.out.nrow.lt _ h.symm).1;omega
       have HNBV:=Lib.hid hnbv;clear hnbv
       go_region_law ((refine step_append_lies _ (by rfl) _ _ _ (by rfl) (w.heap.size+2) 9 i1 _ 1 16 Tryz.underlying36 hi1 hx0 hx1 hx2 rfl (by omega) _ ns.length (ns.map strW) (by rfl) ((HM.out.nrow.drew).alloc _) ⟨wc.heap.size,0,none⟩ 1 1 [.string ⟨nm.toArray⟩] (by rfl) (by rfl) (World.news_of_block (cs:=#[.string ⟨nm.toArray⟩]) (t:=9) (fr:=(0,0)) (heap_alloc_new _ _)) (by simp [Value.oneCell']) (by omega) (by unfold maxLen;omega) (by omega) (by simp;omega) (wc.heap.size+1) (by simp) ?_;intro g cp w3 hown hgrow hat hlt;have k4:=(hgrow.cell_far ⟨w.heap.size+1,4,none⟩ (by simp;omega) HNBV.out).trans ((World.cell?_of_block (w:=wc) (a:=⟨w.heap.size+1,4,none⟩) (Below.heap_alloc _ _ _ (by show w.heap.size+1 < wc.heap.size;omega))).trans y4);have kf:=(hgrow.frozen_far ⟨w.heap.size+1,4,none⟩ (by simp;omega) HNBV.out).trans ((World.frozen?_of_block (w:=wc) (a:=⟨w.heap.size+1,4,none⟩) (Below.heap_alloc _ _ _ (by show w.heap.size+1 < wc.heap.size;omega))).trans yf)))
       all_goals go_wp2_with fail
       all_goals go_meet
       all_goals exact ⟨_,HM.out.name hgrow ((Below.refl _ _).drew.alloc (Nat.le_refl _) _) (hat.imp id (fun h=>by omega)) HNM.out hown⟩
      case rest=>
       obtain ⟨nv2,hM2⟩:=hcut.out;have HM2:=Lib.hid hM2
       have HF2:Hid (mkL (names.drop (q+1)) (items.drop (q+1)) (ns++ [nm]) (acc++ [items.getD q j0])=FN):=by
        show _=_;rw [<-HF.out,HST.out,if_neg (by rw [HCC.out];simp)]
       clear HM x2 hbn1 hsz hsz1 hM2 hcut;obtain ⟨bi,oi,c0,c1,c2,c3,c4,c5,rfl,hbi,hli,hJi⟩:=item_at (P:=(q:Int)) HIT.out (by omega) (by rw [HNI.out];exact a3);rw [show ((q:Int)).toNat=q from rfl] at hli hJi;have HJI:=Lib.hid (hJi.keep (S':=fun b=>b < w.heap.size) (fun b _ hb=>hb) (fun _ _ _=>rfl) (Nat.le_refl _));obtain ⟨k3,m3,e3',t3,an3,nn3,cn3,ai3,ni3,ci3,ev⟩:=jAt_form hJi
       cases ev
       generalize items.getD q j0=y at *;generalize wc=w2 at *;have hsz2:=HM2.out.sz;obtain ⟨v0,v1,v2,v3,v4,v5⟩:=(hli.keep (HM2.out.bel.block bi hbi)).six;have hbi2:bi < w2.heap.size:=(by have:=HM2.out.bel.size;omega);obtain ⟨y0,y1,y2,y3,y4,y5⟩:=six_of HM2.out.blk;have yf:=free_of HM2.out.blk 5;have hbl2:w.heap.size+1 < w2.heap.size:=Own.block_lt HM2.out.blk;have hnbv:some (w.heap.size+1)≠(Value.slice aio acc.length capi).ownBlock:=fun h=>by have:=(HM2.out.irow.lt _ h.symm).1;omega
       have HNBV:=Lib.hid hnbv;clear hnbv hli hJi
       go_wp2_with fail
       go_region_law ((refine step_append_lies _ (by rfl) _ _ _ (by rfl) (w.heap.size+2) 49 i0 _ 6 88 Tryz.underlying47 hi0 hz0 hz1 hz2 rfl (by omega) _ acc.length (vs.flatMap aggC) (by rfl) ((HM2.out.irow.drew).alloc _) ⟨w2.heap.size,0,none⟩ 1 1 [.int .i64 k3,.int .i64 m3,.int .i64 e3',.string t3,.slice an3 nn3 cn3,.slice ai3 ni3 ci3] (by rfl) (by rfl) (World.news_of_block (cs:=#[.int .i64 k3,.int .i64 m3,.int .i64 e3',.string t3,.slice an3 nn3 cn3,.slice ai3 ni3 ci3]) (t:=49) (fr:=(0,0)) (heap_alloc_new _ _)) (by simp [Value.oneCell']) (by omega) (by unfold maxLen;omega) (by omega) (by simp;omega) (w2.heap.size+1) (by simp) ?_;intro g cp w4 hown hgrow hat hlt;have k5:=(hgrow.cell_far ⟨w.heap.size+1,5,none⟩ (by simp;omega) HNBV.out).trans ((World.cell?_of_block (w:=w2) (a:=⟨w.heap.size+1,5,none⟩) (Below.heap_alloc _ _ _ (by show w.heap.size+1 < w2.heap.size;omega))).trans y5);have kf:=(hgrow.frozen_far ⟨w.heap.size+1,5,none⟩ (by simp;omega) HNBV.out).trans ((World.frozen?_of_block (w:=w2) (a:=⟨w.heap.size+1,5,none⟩) (Below.heap_alloc _ _ _ (by show w.heap.size+1 < w2.heap.size;omega))).trans yf)))
       all_goals go_wp2_with fail
       all_goals go_roundw
       all_goals first
        | exact ⟨q+1,_,_,ns++ [nm],_,acc++ [y],by omega,by omega,by go_num,HF2,by simp;omega,by simp [HNL.out],HM2.out.item hgrow ((Below.refl _ _).drew.alloc (Nat.le_refl _) _) (hat.imp id (fun h=>by omega)) hown HJI.out⟩
        | (simp [intOf];omega)
  ·have HEQ:Hid (FN=(ns,acc)):=by
    show _=_;rw [<-HF.out,mkL_end _ _ _ (by rw [HNN.out,HNI.out];omega)]
   have hal1:acc.length<=1000000:=by omega
   have hnl1:ns.length<=1000000:=by rw [HNL.out];omega
   obtain ⟨ano,capn,rfl⟩:=own_slice HI.out.nrow;obtain ⟨aio,capi,rfl⟩:=own_slice HI.out.irow;obtain ⟨y0,y1,y2,y3,y4,y5⟩:=six_of HI.out.blk;have hres:=HI.out.bres;unfold zero6 at hres;obtain ⟨z0,z1,z2,z3,z4,z5⟩:=six_of hres;have HRES:=Lib.hid hres;have g0:=free_of hres 0;have g1:=free_of hres 1;have g2:=free_of hres 2;have g3:=free_of hres 3;have g4:=free_of hres 4;have g5:=free_of hres 5;clear hres;have fin:=Lib.hid (HI.out.fin hnl1 hal1)
   by_cases h:q < nn
   ·have i1:(q:Int) < (nn:Int):=(by omega);have i2:¬(q:Int) < (ni:Int):=by omega
    go_wp2_with fail
    refine bodyPost_ret (v:= .agg #[.int .i64 7,.int .i64 0,.int .i64 0,.string ⟨#[]⟩,.slice ano ns.length capn,.slice aio acc.length capi]) (by simp [results,Tryz.results22,go_sem,z0,z1,z2,z3,z4,z5]) rfl ?_;rw [HEQ.out];exact ⟨_,_,_,_,_,_,rfl,fin.out _ _ _ _ _ _⟩
   ·have i1:¬(q:Int) < (nn:Int):=by omega
    go_wp2_with fail
    refine bodyPost_ret (v:= .agg #[.int .i64 7,.int .i64 0,.int .i64 0,.string ⟨#[]⟩,.slice ano ns.length capn,.slice aio acc.length capi]) (by simp [results,Tryz.results22,go_sem,z0,z1,z2,z3,z4,z5]) rfl ?_;rw [HEQ.out];exact ⟨_,_,_,_,_,_,rfl,fin.out _ _ _ _ _ _⟩
end Go.Proofs.YtclghelocglnlaaGreatDoor.Js
