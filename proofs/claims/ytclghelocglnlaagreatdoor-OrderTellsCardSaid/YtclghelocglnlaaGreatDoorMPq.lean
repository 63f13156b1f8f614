import Derived.Test.YtclghelocglnlaaGreatDoorMQ
import Derived.Test.YtclghelocglnlaaGreatDoorMPf
set_option maxHeartbeats 0
set_option maxRecDepth 100000
set_option linter.all false
namespace Go.Proofs.YtclghelocglnlaaGreatDoor.Dec
open Go.RowKit Go.Sort
theorem rprint_no (m e:Int) (w:World) (hm0: -9223372036854775808<=m) (hm1:m<=9223372036854775807) (he0: -9223372036854775808<=e) (he1:e<=9223372036854775807) (hr:rightB m e=false):
 Calls Tryz.prog 92 #[.agg #[.int .i64 m,.int .i64 e]] w (Ret (.string ⟨#[]⟩) w):=by
 go_enter Tryz.func92,Tryz.ntmps92
 go_wp2_with fail
 (with_reducible refine (rright_any _ _ _ hm0 hm1 he0 he1).mono ?_)
 rintro e1 w1 ⟨rfl,hb⟩;rw [hr];have hbb:=below_call hb;clear hb
 go_wp2_with fail
 go_ret
 exact ⟨rfl,hbb⟩
theorem rprint_yes (m e:Int) (w:World) (hr:rightB m e=true):
 Calls Tryz.prog 92 #[.agg #[.int .i64 m,.int .i64 e]] w (Ret (.string ⟨(printS m e).toArray⟩) w):=by
 obtain ⟨b1,b2,b3,b4⟩:=rightB_bounds hr;have hl:=decDigits_le b1 b2;have TX:=Lib.hid (fun w=>text_int (m.natAbs+1) (max m (-m)) w (by omega) (by omega) (by omega));rw [show (max m (-m)).toNat=m.natAbs by omega] at TX
 have hp1:0<=e->printS m e=sg (decide (m < 0))++(Lib.decDigits m.natAbs++zeros e.toNat):=fun he=>by
  unfold printS sg;rw [if_pos hr,if_pos he,<-List.append_assoc]
  congr 1
  unfold Lib.itoa
  by_cases hm:m < 0
  ·rw [if_pos hm,if_pos (by simp [hm])];rfl
  ·rw [if_neg hm,if_neg (by simp [hm]),show m.toNat=m.natAbs by omega];rfl
 have hp2:¬0<=e->printS m e=sg (decide (m < 0))++((figsL m e).take ((figsL m e).length - (-e).toNat)++46::(figsL m e).drop ((figsL m e).length - (-e).toNat)):=fun he=>by
  unfold printS sg;rw [if_pos hr,if_neg he]
  congr 1
  simp
 have hfg:figsL m e=zeros (1 - e - (Lib.decDigits m.natAbs).length).toNat++Lib.decDigits m.natAbs:=rfl;have H1:=Lib.hid hp1;have H2:=Lib.hid hp2;have HF:=Lib.hid hfg;have HR:=Lib.hid hr;have hdn:1<=(Lib.decDigits m.natAbs).length:=by rw [Lib.decDigits_length];exact Lib.nDigits_pos _
 clear hp1 hp2 hfg hr;generalize printS m e=res at *;generalize figsL m e=FG at *;generalize Lib.decDigits m.natAbs=D at *
 go_enter Tryz.func92,Tryz.ntmps92
 go_wp2_with fail
 (with_reducible refine (rright_any _ _ _ (by omega) (by omega) (by omega) (by omega)).mono ?_)
 rintro e1 w1 ⟨rfl,hb1⟩;rw [HR.out];have P:=(DecAt.new w m e _).below hb1;have hbb:=below_call hb1;have Pc:=P;obtain ⟨p0,p1,pf,pl⟩:=Pc;clear hb1
 go_wp2_with fail
 (with_reducible refine (TX.out _).mono ?_)
 rintro e1 w2 ⟨rfl,hb2⟩;have P:=P.below hb2;have hbb2:Below w.heap.size w w2:=hbb.trans (hb2.mono hbb.size);clear hb2 p0 p1 pf pl hbb TX;obtain ⟨p0,p1,pf,pl⟩:=P
 by_cases he:0<=e
 ·obtain ⟨k,rfl⟩:=Int.eq_ofNat_of_zero_le he;have hres:res=sg (decide (m < 0))++(D++zeros k):=H1.out he;have HRES:=Lib.hid hres;clear H1 H2 HF hres
  go_wp2_with fail
  go_loop [4,5] (fun s i=>∃(j:Nat) (tb:ByteArray),i= .int .i64 j/\s= .string tb/\j<=k/\tb.size<=16+j/\Hid (tb.data.toList=D++zeros j)) (fun _ i=>k - (intOf i).toNat)
  case atStart=>
   refine ⟨0,_,rfl,rfl,by omega,?_,by show _=_;simp [zeros]⟩;have:(⟨D.toArray⟩:ByteArray).size=D.length:=List.size_toArray
   omega
  case round=>
   obtain ⟨j,tb,rfl,rfl,hj,htz,htb⟩:=hrel
   by_cases hjk:j < k
   ·go_wp2_with fail
    go_round
    case rel=>exact ⟨j+1,tb++⟨#[48]⟩,by go_num,rfl,by omega,by rw [ByteArray.size_append];show _+1<=_;omega,by show _=_;rw [app_data',htb.out,zeros_snoc',<-List.append_assoc]⟩
    case measure=>simp [intOf];omega
   ·have hjk2:j=k:=(by omega);have HT:Hid (tb.data.toList=D++zeros k):=(by rw [<-hjk2];exact htb);clear hjk2 htb
    by_cases hm:m < 0
    ·have hfin:(⟨#[45]⟩++tb:ByteArray)=⟨res.toArray⟩:=by
      apply ba_eq
      rw [app_data',HT.out,HRES.out];unfold sg;rw [if_pos (by simp [hm])]
     have HFIN:=Lib.hid hfin;clear hfin
     go_wp2_with fail
     go_ret
     exact ⟨ret_str HFIN.out,hbb2⟩
    ·have hfin:tb=⟨res.toArray⟩:=by
      apply ba_eq
      rw [HT.out,HRES.out];unfold sg;rw [if_neg (by simp [hm])];rfl
     have HFIN:=Lib.hid hfin;clear hfin
     go_wp2_with fail
     go_ret
     exact ⟨ret_str HFIN.out,hbb2⟩
 ·have hres:=H2.out (by omega);have HRES:=Lib.hid hres;clear H1 H2 hres
  go_wp2_with fail
  go_loop [4,5] (fun s i=>∃(tb:ByteArray),i= .int .i64 0/\s= .string tb/\Hid (tb.data.toList=D)) (fun _ i=>0)
  case atStart=>exact ⟨_,rfl,rfl,by show _=_;simp⟩
  case round=>
   obtain ⟨tb,rfl,rfl,htb⟩:=hrel
   have htz:tb.size<=16:=by
    have:tb.size=tb.data.toList.length:=rfl;rw [this,htb.out];exact hl
   have htz1:1<=tb.size:=by
    have:tb.size=tb.data.toList.length:=rfl;rw [this,htb.out];exact hdn
   go_wp2_with fail
   go_loop [4] (fun s=>∃(z:Nat) (ub:ByteArray),s= .string ub/\(ub.size:Int)<=max (tb.size:Int) (1 - e)/\Hid (ub.data.toList=zeros z++D/\(z=0∨(ub.size:Int)<=1 - e))) (fun s=>40 - (strOf s).size)
   case atStart=>exact ⟨0,tb,rfl,by omega,by show _/\_;exact ⟨by rw [htb.out];simp [zeros],.inl rfl⟩⟩
   case round=>
    obtain ⟨z,ub,rfl,huz,hub⟩:=hrel
    have hus:(ub.size:Int)=z+D.length:=by
     have:ub.size=ub.data.toList.length:=rfl;rw [this,hub.out.1,List.length_append,zeros_length];simp
    have HUS:=Lib.hid hus;clear hus
    by_cases hz:(ub.size:Int)<= -e
    ·go_wp2_with fail
     go_round
     case rel=>exact ⟨z+1,⟨#[48]⟩++ub,rfl,by rw [ByteArray.size_append];have:(⟨#[48]⟩:ByteArray).size=1:=rfl;omega,by show _/\_;refine ⟨by rw [app_data',hub.out.1];rfl,.inr ?_⟩;rw [ByteArray.size_append];have:(⟨#[48]⟩:ByteArray).size=1:=rfl;omega⟩
     case measure=>
      show 40 - ((⟨#[48]⟩:ByteArray)++ub).size < 40 - ub.size;rw [ByteArray.size_append];have:(⟨#[48]⟩:ByteArray).size=1:=rfl
      omega
    ·have hF:ub.data.toList=FG:=by
      rw [hub.out.1,HF.out];have:=HUS.out;have h3:=hub.out.2
      congr 2
      omega
     have hus2:FG.length=ub.size:=(by rw [<-hF];rfl);have HFB:=Lib.hid hF;have HU2:=Lib.hid hus2;clear hF hus2 HF
     go_wp2_with fail
     obtain ⟨p,hp⟩:=Int.eq_ofNat_of_zero_le (a:=(ub.size:Int)+e) (by omega);have hwr:IntKind.i64.wrap ((ub.size:Int)+e)=(p:Int):=(by rw [IntKind.wrap_i64];omega);have hpl:p<=ub.size:=(by omega);have hub40:ub.size<=40:=(by omega);have HPE:Hid (p=FG.length - (-e).toNat):=(by show _=_;rw [HU2.out];omega);clear hp;have hx1:(ub.extract 0 p).data.toList=FG.take p:=by rw [Lib.extract_data,HFB.out];simp
     have hx2:(ub.extract p ub.size).data.toList=FG.drop p:=by
      rw [Lib.extract_data,HFB.out,List.take_of_length_le];rw [List.length_drop,HU2.out]
      omega
     have hx3:(ub.extract 0 p).size<=40:=by
      have:(ub.extract 0 p).size=(ub.extract 0 p).data.toList.length:=rfl;rw [this,hx1,List.length_take];omega
     have hx4:(ub.extract p ub.size).size<=40:=by
      have:(ub.extract p ub.size).size=(ub.extract p ub.size).data.toList.length:=rfl;rw [this,hx2,List.length_drop,HU2.out];omega
     have HX1:=Lib.hid hx1;have HX2:=Lib.hid hx2;clear hx1 hx2
     go_quiet (fail)
     have hsb:(ub.extract 0 p++⟨#[46]⟩++ub.extract p ub.size:ByteArray).data.toList=FG.take p++46::FG.drop p:=by
      rw [app_data',app_data',HX1.out,HX2.out,List.append_assoc];rfl
     have hsz:(ub.extract 0 p++⟨#[46]⟩++ub.extract p ub.size:ByteArray).size<=90:=by
      rw [ByteArray.size_append,ByteArray.size_append];have:(⟨#[46]⟩:ByteArray).size=1:=rfl
      omega
     have HSB:=Lib.hid hsb;clear hsb hwr hx3 hx4 HX1 HX2;generalize (ub.extract 0 p++⟨#[46]⟩++ub.extract p ub.size:ByteArray)=sb at *
     by_cases hm:m < 0
     ·have hfin:(⟨#[45]⟩++sb:ByteArray)=⟨res.toArray⟩:=by
       apply ba_eq
       rw [app_data',HSB.out,HRES.out,<-HPE.out];unfold sg;rw [if_pos (by simp [hm])]
      have HFIN:=Lib.hid hfin;clear hfin
      go_wp2_with fail
      go_ret
      exact ⟨ret_str HFIN.out,below_drewN hbb2 _⟩
     ·have hfin:sb=⟨res.toArray⟩:=by
       apply ba_eq
       rw [HSB.out,HRES.out,<-HPE.out];unfold sg;rw [if_neg (by simp [hm])];rfl
      have HFIN:=Lib.hid hfin;clear hfin
      go_wp2_with fail
      go_ret
      exact ⟨ret_str HFIN.out,below_drewN hbb2 _⟩
theorem rprint_any (m e:Int) (w:World) (hm0: -9223372036854775808<=m) (hm1:m<=9223372036854775807) (he0: -9223372036854775808<=e) (he1:e<=9223372036854775807):
 Calls Tryz.prog 92 #[.agg #[.int .i64 m,.int .i64 e]] w (Ret (.string ⟨(printS m e).toArray⟩) w):=by
 rcases h:rightB m e with _ | _
 ·have:printS m e= []:=by unfold printS;rw [if_neg (by simp [h])]
  rw [this];exact rprint_no m e w hm0 hm1 he0 he1 h
 ·exact rprint_yes m e w h
end Go.Proofs.YtclghelocglnlaaGreatDoor.Dec
namespace Go.Proofs.YtclghelocglnlaaGreatDoor.Js
open Go.RowKit Lex Go.Sort
theorem mixedQ:Tryz.prog.follows .mixedOrders=true:=by kernel_rfl
theorem getD_mem' {ns:List (List UInt8)} {k:Nat} (h:k < ns.length):ns.getD k []∈ns:=by
 rw [List.getD_eq_getElem?_getD,List.getElem?_eq_getElem h];exact List.getElem_mem _
theorem below1 (w:World) (o:Obj):Below w.heap.size w (w.alloc o):=(Below.refl _ _).alloc (Nat.le_refl _) _
theorem strs_take {S:Nat->Prop} {w:World} {an:Option Addr} {nn cn:Nat} {ns:List (List UInt8)} (h:StrsAt S w (.slice an nn cn) ns) (k:Nat) (hk:k<=nn):StrsAt S w (.slice an k cn) (ns.take k):=by
 obtain ⟨ao,cap,e,hc,hmx,htx,hcl⟩:=h;simp only [Value.slice.injEq] at e;obtain ⟨rfl,rfl,rfl⟩:=e;have hl:(ns.take k).length=k:=by simp;omega
 refine ⟨an,cn,by rw [hl],by omega,by omega,fun n hn=>htx n (List.mem_of_mem_take hn),fun hp=> ?_⟩;obtain ⟨b,off,e1,e2,e3,e4⟩:=hcl (by omega);refine ⟨b,off,e1,e2,e3,fun j hj=> ?_⟩;rw [hl] at hj;rw [List.getD_eq_getElem?_getD,List.getElem?_take,if_pos hj,<-List.getD_eq_getElem?_getD];exact e4 j (by omega)
theorem rwhole_of (t:List UInt8) (w:World) (h:txtB t):Calls Tryz.prog 125 #[.string ⟨t.toArray⟩] w (fun e w'=>e= .returned (.bool (Quo.wholeB t))/\w=w'):=by
 have:=Quo.rwhole_any ⟨t.toArray⟩ w (by rw [bs_size];unfold txtB at h;omega)
 rwa [show (⟨t.toArray⟩:ByteArray).data.toList=t from rfl] at this
theorem rrightAt_any (S:Nat->Prop):∀(d:Nat) (v:Value) (j:J) (w:World) (dep:Nat),dep<=1000->JAt S w d v j->Calls Tryz.prog 91 #[v,.int .i64 dep] w (Ret (.bool (rightJ dep j)) w):=by
 intro d
 induction d with
 | zero=>intro v j w dep _ h;exact h.elim
 | succ d ih=>
   intro v j w dep hd h;obtain ⟨k,m,e,t,ns,is⟩:=j;obtain ⟨d',an,cn,ai,ci,hd',rfl,hk,hm,he,ht,hns,_,hn,_,hi,hit⟩:=h.open_;obtain rfl:d'=d:=by omega
   have HB:=Lib.hid (below1 w (.cells #[.int .i64 k,.int .i64 m,.int .i64 e,.string ⟨t.toArray⟩,.slice an ns.length cn,.slice ai is.length ci] 49));have HX:=Lib.hid (heap_alloc_new w (.cells #[.int .i64 k,.int .i64 m,.int .i64 e,.string ⟨t.toArray⟩,.slice an ns.length cn,.slice ai is.length ci] 49));have IH:=Lib.hid ih;have HI:=Lib.hid hit;have HNS:=Lib.hid hns;have HK:=Lib.hid hk;have HMM:=Lib.hid (And.intro hm he);have HT:=Lib.hid ht;clear ih hit h hns hk hm he ht hd';have HJ:=Lib.hid (show rightJ dep (.mk k m e t ns is)=_ from by rw [rightJ]);rw [HJ.out];obtain ⟨nn,HNN⟩:∃n,Hid (ns.length=n):=⟨_,rfl⟩;obtain ⟨ni,HNI⟩:∃n,Hid (is.length=n):=⟨_,rfl⟩;rw [HNN.out] at HB HX HNS hn⊢;rw [HNI.out] at HB HX hi⊢;obtain ⟨RB,HRB⟩:∃b,Hid ((!(decide (dep<=16) && bareB k m e t nn ni))=b):=⟨_,rfl⟩;obtain ⟨RR,HRR⟩:∃b,Hid ((decide (dep<=16) && (bareB k m e t nn ni && (formB k m e t ns ni && rightL (dep+1) is)))=b):=⟨_,rfl⟩;rw [HRR.out]
   go_enter Tryz.func91,Tryz.ntmps91
   go_upto_region 1 with fail
   generalize hw1:w.alloc (.cells #[.int .i64 k,.int .i64 m,.int .i64 e,.string ⟨t.toArray⟩,.slice an nn cn,.slice ai ni ci] 49)=w1 at *;clear hw1;obtain ⟨x0,x1,x2,x3,x4,x5⟩:=six_of HX.out;have hbl:=Own.block_lt HX.out
   go_cut [4,59] from 10 to 59 (fun s4 s wx=>s4= .bool false/\s= .bool RB/\w1=wx)
   case first=>
    clear HI HNS IH HJ HRR HK HMM HT;refine wp_region_bare ?_;simp (maxSteps:=100000000) [List.map_cons,List.map_nil,bare]
    by_cases hdep:dep<=16
    ·have t1:decide ((16:Int) < (dep:Int))=false:=by simp;omega
     by_cases h4:k=4
     ·subst h4
      by_cases htx:t= []
      ·subst htx
       by_cases hn0:nn=0
       ·subst hn0
        by_cases hi0:ni=0
        ·subst hi0
         go_wp2_with fail
         go_meet
         exact ⟨rfl,by rw [<-HRB.out];unfold bareB;simp [hdep],rfl⟩
        ·have hi1:(0:Int) < (ni:Int):=by omega
         go_wp2_with fail
         go_meet
         exact ⟨rfl,by rw [<-HRB.out];unfold bareB;simp [hdep,hi0,Nat.pos_of_ne_zero hi0],rfl⟩
       ·have hn1:(0:Int) < (nn:Int):=by omega
        go_wp2_with fail
        go_meet
        exact ⟨rfl,by rw [<-HRB.out];unfold bareB;simp [hdep,hn0,Nat.pos_of_ne_zero hn0],rfl⟩
      ·have hte:t.isEmpty=false:=by simpa using htx
       go_wp2_with fail
       go_meet
       exact ⟨rfl,by rw [<-HRB.out];unfold bareB;simp [hdep,hte,htx],rfl⟩
     ·have e4:(k==4)=false:=by simpa using h4
      by_cases h5:k=5
      ·subst h5
       by_cases hm0:m=0
       ·subst hm0
        by_cases he0:e=0
        ·subst he0
         by_cases hn0:nn=0
         ·subst hn0
          by_cases hi0:ni=0
          ·subst hi0
           go_wp2_with fail
           go_meet
           exact ⟨rfl,by rw [<-HRB.out];unfold bareB;simp [hdep],rfl⟩
          ·have hi1:(0:Int) < (ni:Int):=by omega
           go_wp2_with fail
           go_meet
           exact ⟨rfl,by rw [<-HRB.out];unfold bareB;simp [hdep,hi0,Nat.pos_of_ne_zero hi0],rfl⟩
         ·have hn1:(0:Int) < (nn:Int):=by omega
          go_wp2_with fail
          go_meet
          exact ⟨rfl,by rw [<-HRB.out];unfold bareB;simp [hdep,hn0,Nat.pos_of_ne_zero hn0],rfl⟩
        ·have hnb:(e==0)=false:=by simpa using he0
         go_wp2_with fail
         go_meet
         exact ⟨rfl,by rw [<-HRB.out];unfold bareB;simp [hdep,he0],rfl⟩
       ·have hnb:(m==0)=false:=by simpa using hm0
        go_wp2_with fail
        go_meet
        exact ⟨rfl,by rw [<-HRB.out];unfold bareB;simp [hdep,hm0],rfl⟩
      ·have e5:(k==5)=false:=by simpa using h5
       by_cases h6:k=6
       ·subst h6
        by_cases hm0:m=0
        ·subst hm0
         by_cases he0:e=0
         ·subst he0
          by_cases htx:t= []
          ·subst htx
           by_cases hn0:nn=0
           ·subst hn0
            go_wp2_with fail
            go_meet
            exact ⟨rfl,by rw [<-HRB.out];unfold bareB;simp [hdep],rfl⟩
           ·have hn1:(0:Int) < (nn:Int):=by omega
            go_wp2_with fail
            go_meet
            exact ⟨rfl,by rw [<-HRB.out];unfold bareB;simp [hdep,hn0,Nat.pos_of_ne_zero hn0],rfl⟩
          ·have hte:t.isEmpty=false:=by simpa using htx
           go_wp2_with fail
           go_meet
           exact ⟨rfl,by rw [<-HRB.out];unfold bareB;simp [hdep,hte,htx],rfl⟩
         ·have hnb:(e==0)=false:=by simpa using he0
          go_wp2_with fail
          go_meet
          exact ⟨rfl,by rw [<-HRB.out];unfold bareB;simp [hdep,he0],rfl⟩
        ·have hnb:(m==0)=false:=by simpa using hm0
         go_wp2_with fail
         go_meet
         exact ⟨rfl,by rw [<-HRB.out];unfold bareB;simp [hdep,hm0],rfl⟩
       ·have e6:(k==6)=false:=by simpa using h6
        by_cases h7:k=7
        ·subst h7
         by_cases hm0:m=0
         ·subst hm0
          by_cases he0:e=0
          ·subst he0
           by_cases htx:t= []
           ·subst htx
            go_wp2_with fail
            go_meet
            exact ⟨rfl,by rw [<-HRB.out];unfold bareB;simp [hdep],rfl⟩
           ·have hte:t.isEmpty=false:=by simpa using htx
            go_wp2_with fail
            go_meet
            exact ⟨rfl,by rw [<-HRB.out];unfold bareB;simp [hdep,hte,htx],rfl⟩
          ·have hnb:(e==0)=false:=by simpa using he0
           go_wp2_with fail
           go_meet
           exact ⟨rfl,by rw [<-HRB.out];unfold bareB;simp [hdep,he0],rfl⟩
         ·have hnb:(m==0)=false:=by simpa using hm0
          go_wp2_with fail
          go_meet
          exact ⟨rfl,by rw [<-HRB.out];unfold bareB;simp [hdep,hm0],rfl⟩
        ·have e7:(k==7)=false:=by simpa using h7
         by_cases hm0:m=0
         ·subst hm0
          by_cases he0:e=0
          ·subst he0
           by_cases htx:t= []
           ·subst htx
            by_cases hn0:nn=0
            ·subst hn0
             by_cases hi0:ni=0
             ·subst hi0
              go_wp2_with fail
              go_meet
              exact ⟨rfl,by rw [<-HRB.out];unfold bareB;simp [hdep,bne,e4,e5,e6,e7,h4,h5,h6,h7],rfl⟩
             ·have hi1:(0:Int) < (ni:Int):=by omega
              go_wp2_with fail
              go_meet
              exact ⟨rfl,by rw [<-HRB.out];unfold bareB;simp [hdep,hi0,Nat.pos_of_ne_zero hi0,bne,e4,e5,e6,e7,h4,h5,h6,h7],rfl⟩
            ·have hn1:(0:Int) < (nn:Int):=by omega
             go_wp2_with fail
             go_meet
             exact ⟨rfl,by rw [<-HRB.out];unfold bareB;simp [hdep,hn0,Nat.pos_of_ne_zero hn0,bne,e4,e5,e6,e7,h4,h5,h6,h7],rfl⟩
           ·have hte:t.isEmpty=false:=by simpa using htx
            go_wp2_with fail
            go_meet
            exact ⟨rfl,by rw [<-HRB.out];unfold bareB;simp [hdep,hte,htx,bne,e4,e5,e6,e7,h4,h5,h6,h7],rfl⟩
          ·have hnb:(e==0)=false:=by simpa using he0
           go_wp2_with fail
           go_meet
           exact ⟨rfl,by rw [<-HRB.out];unfold bareB;simp [hdep,he0,bne,e4,e5,e6,e7,h4,h5,h6,h7],rfl⟩
         ·have hnb:(m==0)=false:=by simpa using hm0
          go_wp2_with fail
          go_meet
          exact ⟨rfl,by rw [<-HRB.out];unfold bareB;simp [hdep,hm0,bne,e4,e5,e6,e7,h4,h5,h6,h7],rfl⟩
    ·have t1:(16:Int) < (dep:Int):=by omega
     go_wp2_with fail
     go_meet
     exact ⟨rfl,by rw [<-HRB.out];unfold bareB;simp [hdep],rfl⟩
   case rest=>
    obtain ⟨rfl,rfl,rfl⟩:=hcut
    cases RB with
    | true=>
      have HE:Hid (RR=false):=by
       show _=_;rw [<-HRR.out];have h:=HRB.out;simp only [Bool.not_eq_true',Bool.and_eq_false_iff] at h;rcases h with h | h <;> rw [h] <;> simp
      go_wp2_with fail
      go_ret
      exact ⟨Quo.ret_bool HE.out.symm,HB.out⟩
    | false=>
      have HRB2:=HRB.out;rw [Bool.not_eq_false',Bool.and_eq_true] at HRB2;have HBC:=Lib.hid (bareB_cases HRB2.2)
      have HRR2:Hid (RR=(formB k m e t ns ni && rightL (dep+1) is)):=by
       show _=_;rw [<-HRR.out,HRB2.1,HRB2.2];simp
      have HD:Hid (dep<=16):=Lib.hid (of_decide_eq_true HRB2.1);clear HRB HRR HRB2 HJ
      have noIt:ni=0->Hid (rightL (dep+1) is=true):=fun h=>by
       have:is= []:=List.length_eq_zero_iff.1 (HNI.out.trans h);show _=_;rw [this,rightL]
      by_cases k123:k=1∨k=2∨k=3
      ·have HE:Hid (RR=true):=by
        show _=_;rw [HRR2.out];unfold formB;rw [if_pos (by omega),(noIt (HBC.out.2.2.2 (by omega) (by omega))).out];rfl
       rcases k123 with rfl | rfl | rfl
       all_goals
        go_wp2_with fail
        go_ret
        exact ⟨Quo.ret_bool HE.out.symm,HB.out⟩
      ·by_cases h4:k=4
       ·subst h4
        have HE:Hid (RR=Dec.rightB m e):=by
         show _=_;rw [HRR2.out];unfold formB;rw [if_neg (by omega),if_pos rfl,(noIt (HBC.out.2.2.2 (by omega) (by omega))).out];simp
        have D1:=Lib.hid (fun w'=>Dec.rright_any m e w' HMM.out.1.1 HMM.out.1.2 HMM.out.2.1 HMM.out.2.2);rw [<-HE.out] at D1
        go_wp2_with (go_at_call 112;(with_reducible refine (D1.out _).mono ?_);rintro e2 w2 ⟨rfl,hb2⟩)
        go_ret
        exact ⟨rfl,HB.out.trans (hb2.mono HB.out.size)⟩
       ·by_cases h5:k=5
        ·subst h5
         have HE:Hid (RR=Quo.wholeB t):=by
          show _=_;rw [HRR2.out];unfold formB;rw [if_neg (by omega),if_neg (by omega),if_pos rfl,(noIt (HBC.out.2.2.2 (by omega) (by omega))).out];simp
         have D1:=Lib.hid (fun w'=>rwhole_of t w' HT.out);rw [<-HE.out] at D1
         go_wp2_with (go_at_call 125;(with_reducible refine (D1.out _).mono ?_);rintro e2 w2 ⟨rfl,rfl⟩)
         go_ret
         exact ⟨rfl,HB.out⟩
        ·by_cases h6:k=6
         ·subst h6
          have HR1:Hid (RR=rightL (dep+1) (is.drop 0)):=by
           show _=_;rw [HRR2.out];unfold formB;rw [if_pos (by omega)];simp
          clear x0 x1 x2 x3 x4 x5 HRR2 noIt;obtain ⟨x0,x1,x2,x3,x4,x5⟩:=six_of HX.out
          go_wp2_with fail
          go_loopw [8] (fun i wr=>∃q:Nat,q<=ni/\i= .int .i64 q/\Hid (Below w1.heap.size w1 wr)/\Hid (RR=rightL (dep+1) (is.drop q))) (fun i _=>ni - (intOf i).toNat)
          case atStart=>exact ⟨0,Nat.zero_le _,rfl,Below.refl _ _,HR1⟩
          case round=>
           obtain ⟨q,hq,rfl,HW,HRQ⟩:=hrel;obtain ⟨x0,x1,x2,x3,x4,x5⟩:=six_of ((HW.out.block _ hbl).trans HX.out);have hblw:w.heap.size < wr.heap.size:=Nat.lt_of_lt_of_le hbl HW.out.size
           by_cases hlt:q < ni
           ·obtain ⟨b,off,rfl,hS,hbi,hel⟩:=HI.out (by rw [HNI.out];omega);obtain ⟨u,hu1,hu2⟩:=hel q (by rw [HNI.out];exact hlt);obtain ⟨k',m',e',t',an',nn',cn',ai',ni',ci',rfl⟩:=jAt_form hu2;have hb:Below w.heap.size w wr:=HB.out.trans (HW.out.mono HB.out.size);obtain ⟨y0,y1,y2,y3,y4,y5⟩:=(hu1.keep (hb.block b hbi)).six;have hbiw:b < wr.heap.size:=Nat.lt_of_lt_of_le hbi hb.size;have HS1:=Lib.hid (rightL_step (dep+1) is q (by rw [HNI.out];exact hlt));have C1:=Lib.hid (IH.out _ _ wr (dep+1) (by have:=HD.out;omega) (hu2.below hb (Nat.le_refl _)));have hwd:(dep:Int)+1=((dep+1:Nat):Int):=(by omega);have i1:(q:Int) < (ni:Int):=(by omega);rw [<-hwd] at C1;clear hel hu1 hu2 hwd;generalize rightJ (dep+1) (is.getD q j0)=r at *
            cases r with
            | false=>
              go_wp2_with (go_at_call 91;(with_reducible refine (C1.out).mono ?_);rintro e3 w3 ⟨rfl,hb3⟩)
              go_ret
              exact ⟨Quo.ret_bool (by rw [HRQ.out,HS1.out];simp),hb.trans (hb3.mono hb.size)⟩
            | true=>
              go_wp2_with (go_at_call 91;(with_reducible refine (C1.out).mono ?_);rintro e3 w3 ⟨rfl,hb3⟩)
              go_roundw
              case rel=>exact ⟨q+1,by omega,by go_num,HW.out.trans (hb3.mono HW.out.size),by show _=_;rw [HRQ.out,HS1.out];simp⟩
              case measure=>simp [intOf];omega
           ·have HE:Hid (RR=true):=(by show _=_;rw [HRQ.out,List.drop_of_length_le (by rw [HNI.out];omega),rightL]);have i1:¬(q:Int) < (ni:Int):=by omega
            go_wp2_with fail
            go_ret
            exact ⟨Quo.ret_bool HE.out.symm,HB.out.trans (HW.out.mono HB.out.size)⟩
         ·by_cases h7:k=7
          ·subst h7
           by_cases hnn:nn=ni
           ·subst hnn;obtain ⟨NB,HNB⟩:∃b,Hid (namesB [] ns=b):=⟨_,rfl⟩
            have HR7:Hid (RR=(NB && rightL (dep+1) is)):=by
             show _=_;rw [HRR2.out,<-HNB.out];unfold formB;rw [if_neg (by omega),if_neg (by omega),if_neg (by omega),if_pos rfl,HNN.out];simp
            clear HRR2 noIt
            go_wp2_with fail
            go_loopw [5] (fun i wr=>∃q:Nat,q<=nn/\i= .int .i64 q/\Hid (Below w1.heap.size w1 wr)/\Hid (NB=namesB (ns.take q) (ns.drop q))) (fun i _=>nn - (intOf i).toNat)
            case atStart=>exact ⟨0,Nat.zero_le _,rfl,Below.refl _ _,HNB.out.symm⟩
            case round=>
             clear x0 x1 x2 x3 x4 x5;obtain ⟨q,hq,rfl,HW,HNQ⟩:=hrel;obtain ⟨x0,x1,x2,x3,x4,x5⟩:=six_of ((HW.out.block _ hbl).trans HX.out);have hblw:w.heap.size < wr.heap.size:=Nat.lt_of_lt_of_le hbl HW.out.size;have hb:Below w.heap.size w wr:=HB.out.trans (HW.out.mono HB.out.size);have HBB:=Lib.hid hb
             by_cases hlt:q < nn
             ·have hst:=HNS.out.below hb (Nat.le_refl _);have HTK:=Lib.hid (strs_take hst q hq);obtain ⟨_,_,ev,hnc,_,htx,hcl⟩:=id hst;simp only [Value.slice.injEq] at ev;obtain ⟨rfl,-,rfl⟩:=ev;obtain ⟨bn,on,rfl,_,hbn,hxn⟩:=hcl (by rw [HNN.out];omega);have y0:=hxn q (by rw [HNN.out];exact hlt);unfold strW at y0;have HTX:Hid (txtB (ns.getD q [])):=htx _ (getD_mem' (by rw [HNN.out];exact hlt));have HST:=Lib.hid (namesB_step ns q (by rw [HNN.out];exact hlt));have i1:(q:Int) < (nn:Int):=(by omega);have i2:(q:Int)<=(cn:Int):=(by rw [HNN.out] at hnc;omega);have rx0:=cell_regrown x0;have rx4:=cell_regrown x4;have rx5:=cell_regrown x5;have ry0:=cell_regrown y0;have W1:=Lib.hid (fun w'=>rwhole_of (ns.getD q []) w' HTX.out);have C1:=Lib.hid (fun (dd:Nat) (os:Array Obj)=>Calls.regrown_of (w:=wr) (d:=dd) (os:=os) (has_any S _ (ns.take q) (ns.getD q []) _ (HTK.out.below (below_regrown wr dd os) (Nat.le_refl _))));clear hst htx hcl hxn hnc;generalize ns.getD q []=x at *;generalize (ns.take q).contains x=cb at *;generalize Quo.wholeB x=wb at *
              go_upto_region 20 with (go_at_call 125;(with_reducible refine (W1.out _).mono ?_);rintro e2 w2 ⟨rfl,rfl⟩)
              clear x0 x1 x2 x3 x4 x5 y0;refine wp_region_quiet_below mixedQ (by kernel_rfl) ?_
              repeat (quiet_step (with_reducible exact C1.out _ _))
              refine wpQuiet_nil ?_;intro _ hw';obtain ⟨⟨dq,osq⟩,hw''⟩:=hw';subst hw'';have HWN:=Lib.hid (HW.out.trans ((below_regrown wr dq osq).mono HW.out.size))
              cases wb with
              | false=>
                have HE:Hid (RR=false):=by show _=_;rw [HR7.out,HNQ.out,HST.out];simp
                go_wp2_with fail
                go_ret
                exact ⟨Quo.ret_bool HE.out.symm,HB.out.trans (HWN.out.mono HB.out.size)⟩
              | true=>
                cases cb with
                | true=>
                  have HE:Hid (RR=false):=by show _=_;rw [HR7.out,HNQ.out,HST.out];simp
                  go_wp2_with fail
                  go_ret
                  exact ⟨Quo.ret_bool HE.out.symm,HB.out.trans (HWN.out.mono HB.out.size)⟩
                | false=>
                  go_wp2_with fail
                  go_roundw
                  case rel=>exact ⟨q+1,by omega,by go_num,HWN,by show _=_;rw [HNQ.out,HST.out];simp⟩
                  case measure=>simp [intOf];omega
             ·have HE:Hid (NB=true):=(by show _=_;rw [HNQ.out,List.drop_of_length_le (by rw [HNN.out];omega),namesB]);have HR1:Hid (RR=rightL (dep+1) (is.drop 0)):=(by show _=_;rw [HR7.out,HE.out];simp);have i1:¬(q:Int) < (nn:Int):=by omega
              go_wp2_with fail
              have HW0:=HW
              go_loopw [8] (fun i wr=>∃q:Nat,q<=nn/\i= .int .i64 q/\Hid (Below w1.heap.size w1 wr)/\Hid (RR=rightL (dep+1) (is.drop q))) (fun i _=>nn - (intOf i).toNat)
              case atStart=>exact ⟨0,Nat.zero_le _,rfl,HW0.out,HR1⟩
              case round=>
               obtain ⟨q,hq,rfl,HW,HRQ⟩:=hrel;obtain ⟨x0,x1,x2,x3,x4,x5⟩:=six_of ((HW.out.block _ hbl).trans HX.out);have hblw:w.heap.size < wr.heap.size:=Nat.lt_of_lt_of_le hbl HW.out.size
               by_cases hlt:q < nn
               ·obtain ⟨b,off,rfl,hS,hbi,hel⟩:=HI.out (by rw [HNI.out];omega);obtain ⟨u,hu1,hu2⟩:=hel q (by rw [HNI.out];exact hlt);obtain ⟨k',m',e',t',an',nn',cn',ai',ni',ci',rfl⟩:=jAt_form hu2;have hb:Below w.heap.size w wr:=HB.out.trans (HW.out.mono HB.out.size);obtain ⟨y0,y1,y2,y3,y4,y5⟩:=(hu1.keep (hb.block b hbi)).six;have hbiw:b < wr.heap.size:=Nat.lt_of_lt_of_le hbi hb.size;have HS1:=Lib.hid (rightL_step (dep+1) is q (by rw [HNI.out];exact hlt));have C1:=Lib.hid (IH.out _ _ wr (dep+1) (by have:=HD.out;omega) (hu2.below hb (Nat.le_refl _)));have hwd:(dep:Int)+1=((dep+1:Nat):Int):=(by omega);have i1:(q:Int) < (nn:Int):=(by omega);rw [<-hwd] at C1;clear hel hu1 hu2 hwd;generalize rightJ (dep+1) (is.getD q j0)=r at *
                cases r with
                | false=>
                  go_wp2_with (go_at_call 91;(with_reducible refine (C1.out).mono ?_);rintro e3 w3 ⟨rfl,hb3⟩)
                  go_ret
                  exact ⟨Quo.ret_bool (by rw [HRQ.out,HS1.out];simp),hb.trans (hb3.mono hb.size)⟩
                | true=>
                  go_wp2_with (go_at_call 91;(with_reducible refine (C1.out).mono ?_);rintro e3 w3 ⟨rfl,hb3⟩)
                  go_roundw
                  case rel=>exact ⟨q+1,by omega,by go_num,HW.out.trans (hb3.mono HW.out.size),by show _=_;rw [HRQ.out,HS1.out];simp⟩
                  case measure=>simp [intOf];omega
               ·have HE:Hid (RR=true):=(by show _=_;rw [HRQ.out,List.drop_of_length_le (by rw [HNI.out];omega),rightL]);have i1:¬(q:Int) < (nn:Int):=by omega
                go_wp2_with fail
                go_ret
                exact ⟨Quo.ret_bool HE.out.symm,HB.out.trans (HW.out.mono HB.out.size)⟩
           ·have HE:Hid (RR=false):=by
             show _=_;rw [HRR2.out];unfold formB;rw [if_neg (by omega),if_neg (by omega),if_neg (by omega),if_pos rfl,HNN.out,show (nn==ni)=false by simpa using hnn];simp
            have hnb:((nn:Int) !=(ni:Int))=true:=by simp;omega
            go_wp2_with fail
            go_ret
            exact ⟨Quo.ret_bool HE.out.symm,HB.out⟩
          ·have HE:Hid (RR=false):=by
            show _=_;rw [HRR2.out];unfold formB;rw [if_neg (by omega),if_neg h4,if_neg h5,if_neg h7];simp
           have g1:(k==1)=false:=(by simp;omega);have g2:(k==2)=false:=(by simp;omega);have g3:(k==3)=false:=(by simp;omega);have g4:(k==4)=false:=(by simpa using h4);have g5:(k==5)=false:=(by simpa using h5);have g6:(k==6)=false:=(by simpa using h6);have g7:(k==7)=false:=by simpa using h7
           go_wp2_with fail
           go_ret
           exact ⟨Quo.ret_bool HE.out.symm,HB.out⟩
theorem rright_of (S:Nat->Prop) (v:Value) (j:J) (w:World) (h:JA S w v j):Calls Tryz.prog 59 #[v] w (Ret (.bool (rightJ 1 j)) w):=by
 obtain ⟨d,h⟩:=h;obtain ⟨k,m,e,t,an,nn,cn,ai,ni,ci,rfl⟩:=jAt_form h;have C1:=Lib.hid (fun o=>rrightAt_any S d _ j (w.alloc o) 1 (by omega) (h.below (below1 w o) (Nat.le_refl _)));rw [show ((1:Nat):Int)=1 from rfl] at C1;have HB:=Lib.hid (fun o=>below1 w o);clear h
 go_enter Tryz.func59,Tryz.ntmps59
 go_wp2_with (go_at_call 91;(with_reducible refine (C1.out _).mono ?_);rintro e1 w1 ⟨rfl,hb1⟩)
 go_ret
 exact ⟨rfl,(HB.out _).trans (hb1.mono (by simp))⟩
end Go.Proofs.YtclghelocglnlaaGreatDoor.Js
namespace Go.Proofs.YtclghelocglnlaaGreatDoor.Js
open Go.RowKit Lex Go.Sort
mutual
def tbJ:J->Prop
 | .mk _ _ _ t ns is=>t.length<=10000000/\(∀n∈ns,n.length<=10000000)/\tbL is
def tbL:List J->Prop
 | []=>True
 | x::r=>tbJ x/\tbL r
end
theorem tbL_get:∀{is:List J},tbL is->∀k,k < is.length->tbJ (is.getD k j0)
 | [],_,k,hk=>absurd hk (by simp)
 | x::r,h,0,_=>by rw [tbL] at h;exact h.1
 | x::r,h,k+1,hk=>by rw [tbL] at h;exact tbL_get h.2 k (by simpa using hk)
theorem printL_get (o f:Bool) (ns:List (List UInt8)) (is:List J) (k:Nat) (h:k < is.length):(printJ (is.getD k j0)).length<=(printL o f ns is).length:=by
 induction k generalizing o f ns is with
 | zero=>
   match is,h with
   | x::r,_=>rw [printL];simp only [List.length_append,List.getD_cons_zero];omega
 | succ k ih=>
   match is,h with
   | x::r,h=>
     rw [printL];have:=ih o false ns.tail r (by simpa using h);simp only [List.length_append,List.getD_cons_succ]
     omega
theorem rquote_whole (t:List UInt8) (w:World) (ht:t.length<=10000000) (hw:Quo.wholeB t=true):Calls Tryz.prog 93 #[.string ⟨t.toArray⟩] w (Ret (.tuple #[.string ⟨(Quo.quoteL t).toArray⟩,.bool true]) w):=by
 have:=Quo.rquote_any ⟨t.toArray⟩ w (by rw [bs_size];exact ht);rw [show (⟨t.toArray⟩:ByteArray).data.toList=t from rfl] at this;unfold Quo.quoV at this
 rwa [if_pos hw,hw] at this
theorem qr6' {r:Nat} (h:Quo.vr r):(Quo.qr r).length<=6:=by
 unfold Quo.qr;have h4:=(Quo.enc_len r).2
 repeat' split
 all_goals first | (simp;done) | (simp [Quo.esc4] ;done) | omega
theorem bodyQ_len' {rs:List Nat} (h:∀r∈rs,Quo.vr r):(Quo.bodyQ rs).length<=6 * rs.length:=by
 unfold Quo.bodyQ
 induction rs with
 | nil=>simp
 | cons r rs ih=>
   have h1:=qr6' (h r (by simp));have h2:=ih (fun r hr=>h r (by simp [hr]));simp only [List.flatMap_cons,List.length_append,List.length_cons]
   omega
theorem flat_len':∀rs:List Nat,rs.length<=(Quo.flat rs).length
 | []=>by simp
 | r::rs=>by
   have h1:=(Quo.enc_len r).1;have h2:=flat_len' rs;unfold Quo.flat at h2⊢;simp only [List.flatMap_cons,List.length_append,List.length_cons]
   omega
theorem quote_len6 {t:List UInt8} (h:Quo.wholeB t=true):(Quo.quoteL t).length<=6 * t.length+2:=by
 obtain ⟨rs,hr,rfl⟩:=Quo.whole_flat h;have h1:=bodyQ_len' hr;have h2:=flat_len' rs;unfold Quo.quoteL;rw [Quo.qBody_flat' hr];simp
 omega
def RPV (S:Nat->Prop) (d dep:Nat):Prop:=∀(v:Value) (j:J) (w:World),JAt S w d v j->rightJ dep j=true->tbJ j->(printJ j).length<=35184372088832->Calls Tryz.prog 60 #[v] w (Ret (.string ⟨(printJ j).toArray⟩) w)
theorem rprint_arr (S:Nat->Prop) (d dep:Nat) (ih:RPV S d dep) (w:World) (an ai:Option Addr) (cn ci:Nat) (is:List J) (hi:is.length<=1599289640354) (hit:ItemsAt S w d ai is) (hr:rightL dep is=true) (ht:tbL is) (hlen:(printL false true [] is).length+2<=35184372088832):
 Calls Tryz.prog 60 #[.agg #[.int .i64 6,.int .i64 0,.int .i64 0,.string ⟨#[]⟩,.slice an 0 cn,.slice ai is.length ci]] w (Ret (.string ⟨(91::(printL false true [] is++ [93])).toArray⟩) w):=by
 unfold ItemsAt at hit;have HI:=Lib.hid hit;have HG:=Lib.hid (rightL_get hr);have HTB:=Lib.hid (tbL_get ht);have HPL:=Lib.hid (fun k hk=>printL_get false true [] is k hk);have IH:=Lib.hid ih;have HB:=Lib.hid (below1 w (.cells #[.int .i64 6,.int .i64 0,.int .i64 0,.string ⟨#[]⟩,.slice an 0 cn,.slice ai is.length ci] 49));have HX:=Lib.hid (heap_alloc_new w (.cells #[.int .i64 6,.int .i64 0,.int .i64 0,.string ⟨#[]⟩,.slice an 0 cn,.slice ai is.length ci] 49));clear ih hit hr ht;obtain ⟨P,HP⟩:∃P,Hid (printL false true [] is=P):=⟨_,rfl⟩;rw [HP.out] at hlen HPL⊢;obtain ⟨n,HN⟩:∃n,Hid (is.length=n):=⟨_,rfl⟩;rw [HN.out] at hi HB HX⊢;have HP0:Hid (([]:List UInt8)++printL false (decide ((0:Nat)=0)) ([].drop 0) (is.drop 0)=P):=by show _=_;rw [<-HP.out];rfl
 go_enter Tryz.func60,Tryz.ntmps60
 go_wp2_with fail
 generalize hw1:w.alloc (.cells #[.int .i64 6,.int .i64 0,.int .i64 0,.string ⟨#[]⟩,.slice an 0 cn,.slice ai n ci] 49)=w1 at *;clear hw1
 go_loopw [5,6] (fun s5 i wr=>∃(q:Nat) (acc:List UInt8),q<=n/\i= .int .i64 q/\s5= .string ⟨acc.toArray⟩/\Hid (acc++printL false (decide (q=0)) ([].drop q) (is.drop q)=P)/\Hid (Below w1.heap.size w1 wr)) (fun _ i _=>n - (intOf i).toNat)
 case atStart=>exact ⟨0,[],Nat.zero_le _,rfl,rfl,HP0,Below.refl _ _⟩
 case round=>
  clear HP0;obtain ⟨q,acc,hq,rfl,rfl,HAP,HV⟩:=hrel;have HW:=Lib.hid (HB.out.trans (HV.out.mono HB.out.size));have hX:=(HV.out.block _ (Own.block_lt HX.out)).trans HX.out;obtain ⟨x0,x1,x2,x3,x4,x5⟩:=six_of hX;have hbl:=Own.block_lt hX;have hacc:acc.length<=35184372088832:=by have:=congrArg List.length HAP.out;simp at this;omega
  clear hX
  by_cases hlt:q < n
  ·obtain ⟨b,off,rfl,hS,hbi,hel⟩:=HI.out (by rw [HN.out];omega);obtain ⟨u,hu1,hu2⟩:=hel q (by rw [HN.out];exact hlt);obtain ⟨k',m',e',t',an',nn',cn',ai',ni',ci',rfl⟩:=jAt_form hu2;obtain ⟨y0,y1,y2,y3,y4,y5⟩:=(hu1.keep (HW.out.block b hbi)).six;have hbiw:b < wr.heap.size:=Nat.lt_of_lt_of_le hbi HW.out.size;have hxl:=HPL.out q (by rw [HN.out];exact hlt);have C1:=Lib.hid (fun w' (hb:Below w.heap.size w w')=>IH.out _ _ w' (hu2.below hb (Nat.le_refl _)) (HG.out q (by rw [HN.out];exact hlt)) (HTB.out q (by rw [HN.out];exact hlt)) (by omega));have HS1:=Lib.hid (printL_step false (decide (q=0)) [] is q (by rw [HN.out];exact hlt));have i1:(q:Int) < (n:Int):=by omega
   have hxl2:(printJ (is.getD q j0)).length<=35184372088832:=by omega
   clear hel hu1 hu2 hxl;generalize printJ (is.getD q j0)=X at *
   by_cases hq0:q=0
   ·subst hq0;simp only [Nat.zero_mul,Nat.add_zero] at y0 y1 y2 y3 y4 y5
    go_wp2_with (go_at_call 60;(with_reducible refine (C1.out _ HW.out).mono ?_);rintro e3 w3 ⟨rfl,hb3⟩;have HV3:=Lib.hid (HV.out.trans (hb3.mono HV.out.size)))
    go_roundw
    case rel=>
     refine ⟨0+1,acc++X,by omega,by go_num,?_,?_,HV3⟩
     ·rw [bs_app]
     ·show _=_;rw [<-HAP.out,HS1.out];simp
    case measure=>simp [intOf];omega
   ·have i2:(0:Int) < (q:Int):=by omega
    go_wp2_with (go_at_call 60;(with_reducible refine (C1.out _ HW.out).mono ?_);rintro e3 w3 ⟨rfl,hb3⟩;have HV3:=Lib.hid (HV.out.trans (hb3.mono HV.out.size)))
    go_roundw
    case rel=>
     refine ⟨q+1,acc++ [44]++X,by omega,by go_num,?_,?_,HV3⟩
     ·rw [show (⟨#[44]⟩:ByteArray)=⟨[44].toArray⟩ from rfl,bs_app,bs_app]
     ·show _=_;rw [<-HAP.out,HS1.out];simp [hq0]
    case measure=>simp [intOf];omega
  ·have hqn:q=n:=by omega
   have i1:¬(q:Int) < (n:Int):=by omega
   have HE:Hid (acc=P):=by show _=_;rw [<-HAP.out,List.drop_of_length_le (l:=is) (by rw [HN.out];omega),printL,List.append_nil]
   go_wp2_with fail
   go_ret
   refine ⟨?_,HW.out⟩;rw [HE.out];exact congrArg (fun x=>Ending.returned (Value.string x)) (by rw [show (⟨#[91]⟩:ByteArray)=⟨[91].toArray⟩ from rfl,show (⟨#[93]⟩:ByteArray)=⟨[93].toArray⟩ from rfl,bs_app,bs_app];simp)
theorem rprint_obj (S:Nat->Prop) (d dep:Nat) (ih:RPV S d dep) (w:World) (an ai:Option Addr) (cn ci:Nat) (ns:List (List UInt8)) (is:List J) (hns:StrsAt S w (.slice an is.length cn) ns) (hnl:ns.length=is.length) (hnw:namesB [] ns=true) (hnt:∀n∈ns,n.length<=10000000) (hi:is.length<=1599289640354) (hit:ItemsAt S w d ai is) (hr:rightL dep is=true) (ht:tbL is) (hlen:(printL true true ns is).length+2<=35184372088832):
 Calls Tryz.prog 60 #[.agg #[.int .i64 7,.int .i64 0,.int .i64 0,.string ⟨#[]⟩,.slice an is.length cn,.slice ai is.length ci]] w (Ret (.string ⟨(123::(printL true true ns is++ [125])).toArray⟩) w):=by
 unfold ItemsAt at hit;have HI:=Lib.hid hit;have HG:=Lib.hid (rightL_get hr);have HTB:=Lib.hid (tbL_get ht);have HPL:=Lib.hid (fun k hk=>printL_get true true ns is k hk);have IH:=Lib.hid ih;obtain ⟨_,_,ev,-,-,-,hcell⟩:=hns;simp only [Value.slice.injEq] at ev;obtain ⟨rfl,-,rfl⟩:=ev;have HCN:=Lib.hid hcell;have HT:Hid (∀k,k < ns.length->(ns.getD k []).length<=10000000/\Quo.wholeB (ns.getD k [])=true):=fun k hk=>⟨hnt _ (getD_mem' hk),names_whole hnw _ (getD_mem' hk)⟩
 have HNL:=Lib.hid hnl;clear hcell hnw hnt hnl;have HB:=Lib.hid (below1 w (.cells #[.int .i64 7,.int .i64 0,.int .i64 0,.string ⟨#[]⟩,.slice an is.length cn,.slice ai is.length ci] 49));have HX:=Lib.hid (heap_alloc_new w (.cells #[.int .i64 7,.int .i64 0,.int .i64 0,.string ⟨#[]⟩,.slice an is.length cn,.slice ai is.length ci] 49));clear ih hit hr ht;obtain ⟨P,HP⟩:∃P,Hid (printL true true ns is=P):=⟨_,rfl⟩;rw [HP.out] at hlen HPL⊢;obtain ⟨n,HN⟩:∃n,Hid (is.length=n):=⟨_,rfl⟩;rw [HN.out] at hi HB HX⊢;have HP0:Hid (([]:List UInt8)++printL true (decide ((0:Nat)=0)) (ns.drop 0) (is.drop 0)=P):=by show _=_;rw [<-HP.out];rfl
 go_enter Tryz.func60,Tryz.ntmps60
 go_wp2_with fail
 generalize hw1:w.alloc (.cells #[.int .i64 7,.int .i64 0,.int .i64 0,.string ⟨#[]⟩,.slice an n cn,.slice ai n ci] 49)=w1 at *;clear hw1
 go_loopw [5,6] (fun s5 i wr=>∃(q:Nat) (acc:List UInt8),q<=n/\i= .int .i64 q/\s5= .string ⟨acc.toArray⟩/\Hid (acc++printL true (decide (q=0)) (ns.drop q) (is.drop q)=P)/\Hid (Below w1.heap.size w1 wr)) (fun _ i _=>n - (intOf i).toNat)
 case atStart=>exact ⟨0,[],Nat.zero_le _,rfl,rfl,HP0,Below.refl _ _⟩
 case round=>
  clear HP0;obtain ⟨q,acc,hq,rfl,rfl,HAP,HV⟩:=hrel;have HW:=Lib.hid (HB.out.trans (HV.out.mono HB.out.size));have hX:=(HV.out.block _ (Own.block_lt HX.out)).trans HX.out;obtain ⟨x0,x1,x2,x3,x4,x5⟩:=six_of hX;have hbl:=Own.block_lt hX;have hacc:acc.length<=35184372088832:=by have:=congrArg List.length HAP.out;simp at this;omega
  have hX0:=Lib.hid hX;clear hX
  by_cases hlt:q < n
  ·obtain ⟨b,off,rfl,hS,hbi,hel⟩:=HI.out (by rw [HN.out];omega);obtain ⟨u,hu1,hu2⟩:=hel q (by rw [HN.out];exact hlt);obtain ⟨k',m',e',t',an',nn',cn',ai',ni',ci',rfl⟩:=jAt_form hu2;obtain ⟨y0,y1,y2,y3,y4,y5⟩:=(hu1.keep (HW.out.block b hbi)).six;have hbiw:b < wr.heap.size:=Nat.lt_of_lt_of_le hbi HW.out.size;have hxl:=HPL.out q (by rw [HN.out];exact hlt);have C1:=Lib.hid (fun w' (hb:Below w.heap.size w w')=>IH.out _ _ w' (hu2.below hb (Nat.le_refl _)) (HG.out q (by rw [HN.out];exact hlt)) (HTB.out q (by rw [HN.out];exact hlt)) (by omega));have HS1:=Lib.hid (printL_step true (decide (q=0)) ns is q (by rw [HN.out];exact hlt));have i1:(q:Int) < (n:Int):=by omega
   have hxl2:(printJ (is.getD q j0)).length<=35184372088832:=by omega
   clear hel hu1 hu2 hxl;generalize printJ (is.getD q j0)=X at *;obtain ⟨bn,on,rfl,_,hbn,hxn⟩:=HCN.out (by rw [HNL.out,HN.out];omega);have v0:=(World.cell?_of_block (w:=w) (a:=⟨bn,on+q,none⟩) (HW.out.block bn hbn)).trans (hxn q (by rw [HNL.out,HN.out];exact hlt));have hbnw:bn < wr.heap.size:=Nat.lt_of_lt_of_le hbn HW.out.size;unfold strW at v0;have HTX:=Lib.hid (HT.out q (by rw [HNL.out,HN.out];exact hlt));have Q1:=Lib.hid (fun w'=>rquote_whole (ns.getD q []) w' HTX.out.1 HTX.out.2)
   have hql:(Quo.quoteL (ns.getD q [])).length<=100000000:=by
    have:=quote_len6 (HTX.out.2);have:=HTX.out.1
    omega
   clear hxn;generalize ns.getD q []=nm at *;generalize Quo.quoteL nm=qn at *
   by_cases hq0:q=0
   ·subst hq0;simp only [Nat.zero_mul,Nat.add_zero] at y0 y1 y2 y3 y4 y5 v0
    go_wp2_with (first
     | (go_at_call 93;(with_reducible refine (Q1.out _).mono ?_);rintro e2 w2 ⟨rfl,hb2⟩;have HV2:=Lib.hid (HV.out.trans (hb2.mono HV.out.size));have HW2:=Lib.hid (HW.out.trans (hb2.mono HW.out.size));obtain ⟨x0,x1,x2,x3,x4,x5⟩:=six_of ((hb2.block _ hbl).trans hX0.out);have z0:=(hb2.cell (p:=⟨b,_,none⟩) hbiw).trans y0;have z1:=(hb2.cell (p:=⟨b,_,none⟩) hbiw).trans y1;have z2:=(hb2.cell (p:=⟨b,_,none⟩) hbiw).trans y2;have z3:=(hb2.cell (p:=⟨b,_,none⟩) hbiw).trans y3;have z4:=(hb2.cell (p:=⟨b,_,none⟩) hbiw).trans y4;have z5:=(hb2.cell (p:=⟨b,_,none⟩) hbiw).trans y5;have hl2:w.heap.size < w2.heap.size:=Nat.lt_of_lt_of_le hbl hb2.size;have hl3:b < w2.heap.size:=Nat.lt_of_lt_of_le hbiw hb2.size)
     | (go_at_call 60;(with_reducible refine (C1.out _ HW2.out).mono ?_);rintro e3 w3 ⟨rfl,hb3⟩;have HV3:=Lib.hid (HV2.out.trans (hb3.mono HV2.out.size))))
    go_roundw
    case rel=>
     refine ⟨0+1,acc++qn++ [58]++X,by omega,by go_num,?_,?_,HV3⟩
     ·rw [show (⟨#[58]⟩:ByteArray)=⟨[58].toArray⟩ from rfl,bs_app,bs_app,bs_app]
     ·show _=_;rw [<-HAP.out,HS1.out];simp
    case measure=>simp [intOf];omega
   ·have i2:(0:Int) < (q:Int):=by omega
    go_wp2_with (first
     | (go_at_call 93;(with_reducible refine (Q1.out _).mono ?_);rintro e2 w2 ⟨rfl,hb2⟩;have HV2:=Lib.hid (HV.out.trans (hb2.mono HV.out.size));have HW2:=Lib.hid (HW.out.trans (hb2.mono HW.out.size));obtain ⟨x0,x1,x2,x3,x4,x5⟩:=six_of ((hb2.block _ hbl).trans hX0.out);have z0:=(hb2.cell (p:=⟨b,_,none⟩) hbiw).trans y0;have z1:=(hb2.cell (p:=⟨b,_,none⟩) hbiw).trans y1;have z2:=(hb2.cell (p:=⟨b,_,none⟩) hbiw).trans y2;have z3:=(hb2.cell (p:=⟨b,_,none⟩) hbiw).trans y3;have z4:=(hb2.cell (p:=⟨b,_,none⟩) hbiw).trans y4;have z5:=(hb2.cell (p:=⟨b,_,none⟩) hbiw).trans y5;have hl2:w.heap.size < w2.heap.size:=Nat.lt_of_lt_of_le hbl hb2.size;have hl3:b < w2.heap.size:=Nat.lt_of_lt_of_le hbiw hb2.size)
     | (go_at_call 60;(with_reducible refine (C1.out _ HW2.out).mono ?_);rintro e3 w3 ⟨rfl,hb3⟩;have HV3:=Lib.hid (HV2.out.trans (hb3.mono HV2.out.size))))
    go_roundw
    case rel=>
     refine ⟨q+1,acc++ [44]++qn++ [58]++X,by omega,by go_num,?_,?_,HV3⟩
     ·rw [show (⟨#[44]⟩:ByteArray)=⟨[44].toArray⟩ from rfl,show (⟨#[58]⟩:ByteArray)=⟨[58].toArray⟩ from rfl,bs_app,bs_app,bs_app,bs_app]
     ·show _=_;rw [<-HAP.out,HS1.out];simp [hq0]
    case measure=>simp [intOf];omega
  ·have hqn:q=n:=by omega
   have i1:¬(q:Int) < (n:Int):=by omega
   have HE:Hid (acc=P):=by show _=_;rw [<-HAP.out,List.drop_of_length_le (l:=is) (by rw [HN.out];omega),printL,List.append_nil]
   go_wp2_with fail
   go_ret
   refine ⟨?_,HW.out⟩;rw [HE.out];exact congrArg (fun x=>Ending.returned (Value.string x)) (by rw [show (⟨#[123]⟩:ByteArray)=⟨[123].toArray⟩ from rfl,show (⟨#[125]⟩:ByteArray)=⟨[125].toArray⟩ from rfl,bs_app,bs_app];simp)
theorem rprintJ_any (S:Nat->Prop):∀d dep,RPV S d dep:=by
 intro d
 induction d with
 | zero=>intro dep v j w h;exact h.elim
 | succ d ih=>
   intro dep v j w h hr ht hlen;obtain ⟨hdep,hj⟩:=rightJ_forms hr;have HB:=Lib.hid (fun o=>below1 w o);rcases hj with rfl | rfl | rfl | ⟨m,e,rfl,hmr⟩ | ⟨t,rfl,htw⟩ | ⟨is,rfl,hir⟩ | ⟨ns,is,rfl,hnl,hnb,hir⟩
   ·obtain ⟨d',an,cn,ai,ci,_,rfl,_⟩:=h.open_;rw [show printJ (.mk 1 0 0 [] [] [])=nullL by rw [printJ,if_pos rfl]];clear ih h hr
    go_enter Tryz.func60,Tryz.ntmps60
    go_wp2_with fail
    go_ret
    exact ⟨rfl,HB.out _⟩
   ·obtain ⟨d',an,cn,ai,ci,_,rfl,_⟩:=h.open_;rw [show printJ (.mk 2 0 0 [] [] [])=falseL by rw [printJ,if_neg (by decide),if_pos rfl]];clear ih h hr
    go_enter Tryz.func60,Tryz.ntmps60
    go_wp2_with fail
    go_ret
    exact ⟨rfl,HB.out _⟩
   ·obtain ⟨d',an,cn,ai,ci,_,rfl,_⟩:=h.open_;rw [show printJ (.mk 3 0 0 [] [] [])=trueL by rw [printJ,if_neg (by decide),if_neg (by decide),if_pos rfl]];clear ih h hr
    go_enter Tryz.func60,Tryz.ntmps60
    go_wp2_with fail
    go_ret
    exact ⟨rfl,HB.out _⟩
   ·obtain ⟨d',an,cn,ai,ci,_,rfl,_,hm,he,_⟩:=h.open_;rw [show printJ (.mk 4 m e [] [] [])=Dec.printS m e by rw [printJ,if_neg (by decide),if_neg (by decide),if_neg (by decide),if_pos rfl]];have D:=Lib.hid (fun w'=>Dec.rprint_any m e w' hm.1 hm.2 he.1 he.2);clear ih h hr hlen hm he;generalize Dec.printS m e=q at *
    go_enter Tryz.func60,Tryz.ntmps60
    go_wp2_with (go_at_call 92;(with_reducible refine (D.out _).mono ?_);rintro e1 w1 ⟨rfl,hb1⟩)
    go_ret
    exact ⟨rfl,(HB.out _).trans (hb1.mono (HB.out _).size)⟩
   ·obtain ⟨d',an,cn,ai,ci,_,rfl,_,_,_,htx,_⟩:=h.open_;rw [show printJ (.mk 5 0 0 t [] [])=Quo.quoteL t by rw [printJ,if_neg (by decide),if_neg (by decide),if_neg (by decide),if_neg (by decide),if_pos rfl]];rw [tbJ] at ht;have D:=Lib.hid (fun w'=>rquote_whole t w' ht.1 htw);clear ih h hr hlen htx htw ht;generalize Quo.quoteL t=q at *
    go_enter Tryz.func60,Tryz.ntmps60
    go_wp2_with (go_at_call 93;(with_reducible refine (D.out _).mono ?_);rintro e1 w1 ⟨rfl,hb1⟩)
    go_ret
    exact ⟨rfl,(HB.out _).trans (hb1.mono (HB.out _).size)⟩
   ·obtain ⟨d',an,cn,ai,ci,hd',rfl,_,_,_,_,_,_,_,_,hi,hit⟩:=h.open_;obtain rfl:d'=d:=by omega
    rw [show printJ (.mk 6 0 0 [] [] is)=91::(printL false true [] is++ [93]) by rw [printJ,if_neg (by decide),if_neg (by decide),if_neg (by decide),if_neg (by decide),if_neg (by decide),if_pos rfl]] at hlen⊢;rw [tbJ] at ht;exact rprint_arr S d' (dep+1) (ih (dep+1)) w an ai cn ci is hi hit hir ht.2.2 (by simp at hlen;omega)
   ·obtain ⟨d',an,cn,ai,ci,hd',rfl,_,_,_,_,hns,_,_,_,hi,hit⟩:=h.open_;obtain rfl:d'=d:=by omega
    rw [show printJ (.mk 7 0 0 [] ns is)=123::(printL true true ns is++ [125]) by rw [printJ,if_neg (by decide),if_neg (by decide),if_neg (by decide),if_neg (by decide),if_neg (by decide),if_neg (by decide),if_pos rfl]] at hlen⊢;rw [tbJ] at ht;rw [hnl] at hns⊢;exact rprint_obj S d' (dep+1) (ih (dep+1)) w an ai cn ci ns is hns hnl hnb ht.2.1 hi hit hir ht.2.2 (by simp at hlen;omega)
theorem rprint_of (S:Nat->Prop) (v:Value) (j:J) (w:World) (h:JA S w v j) (ht:tbJ j) (hlen:rightJ 1 j=true->(printJ j).length<=35184372088832):Calls Tryz.prog 27 #[v] w (Ret (.string ⟨(printS j).toArray⟩) w):=by
 obtain ⟨d,h⟩:=h;obtain ⟨k,m,e,t,an,nn,cn,ai,ni,ci,rfl⟩:=jAt_form h;have C1:=Lib.hid (fun o=>rright_of S _ j (w.alloc o) ⟨d,h.below (below1 w o) (Nat.le_refl _)⟩);have HB:=Lib.hid (below1 w (.cells #[.int .i64 k,.int .i64 m,.int .i64 e,.string t,.slice an nn cn,.slice ai ni ci] 49));have HX:=Lib.hid (heap_alloc_new w (.cells #[.int .i64 k,.int .i64 m,.int .i64 e,.string t,.slice an nn cn,.slice ai ni ci] 49));unfold printS
 cases hr:rightJ 1 j with
 | false=>
   rw [hr] at C1;rw [if_neg (by decide)];clear h hr
   go_enter Tryz.func27,Tryz.ntmps27
   go_wp2_with (go_at_call 59;(with_reducible refine (C1.out _).mono ?_);rintro e1 w1 ⟨rfl,hb1⟩)
   go_ret
   exact ⟨rfl,HB.out.trans (hb1.mono HB.out.size)⟩
 | true=>
   rw [hr] at C1;rw [if_pos rfl];have C2:=Lib.hid (fun w' (hb:Below w.heap.size w w')=>rprintJ_any S d 1 _ j w' (h.below hb (Nat.le_refl _)) hr ht (hlen hr));clear h hr;generalize printJ j=P at *
   go_enter Tryz.func27,Tryz.ntmps27
   go_wp2_with (first
    | (go_at_call 59;(with_reducible refine (C1.out _).mono ?_);rintro e1 w1 ⟨rfl,hb1⟩;have HW1:=Lib.hid (HB.out.trans (hb1.mono HB.out.size));obtain ⟨x0,x1,x2,x3,x4,x5⟩:=six_of ((hb1.block _ (Own.block_lt HX.out)).trans HX.out);have hl1:w.heap.size < w1.heap.size:=Nat.lt_of_lt_of_le (Own.block_lt HX.out) hb1.size)
    | (go_at_call 60;(with_reducible refine (C2.out _ HW1.out).mono ?_);rintro e2 w2 ⟨rfl,hb2⟩))
   go_ret
   exact ⟨rfl,HW1.out.trans (hb2.mono HW1.out.size)⟩
end Go.Proofs.YtclghelocglnlaaGreatDoor.Js
