import Derived.Test.YtclghelocglnlaaGreatDoorMove
import Derived.Deep.Light
set_option maxHeartbeats 0
set_option maxRecDepth 100000
set_option linter.all false
namespace Go.Proofs.YtclghelocglnlaaGreatDoor.Js
open Go.RowKit Lex
theorem cast_zero (n:Nat):((n:Int)==0)=(n==0):=by rw [Bool.eq_iff_iff];simp
theorem bare_of (k m e:Int) (t:List UInt8) (an ai:Option Addr) (nn cn ni ci:Nat) (w:World) (hn:nn<=8796093021952) (hi:ni<=1599289640354):
 Calls Tryz.prog 113 #[.agg #[.int .i64 k,.int .i64 m,.int .i64 e,.string ⟨t.toArray⟩,.slice an nn cn,.slice ai ni ci]] w (Ret (.bool (bareB k m e t nn ni)) w):=by
 have hb:∀o,Below w.heap.size w (w.alloc o):=fun o=>(Below.refl _ _).alloc (Nat.le_refl _) _
 by_cases h4:k=4
 ·subst h4
  go_enter Tryz.func113,Tryz.ntmps113
  go_wp2
  all_goals go_ret
  all_goals exact ⟨Quo.ret_bool (by go_light;simp_all [bareB,cast_zero] <;> omega),hb _⟩
 ·have e4:(k==4)=false:=by simpa using h4
  go_enter Tryz.func113,Tryz.ntmps113
  go_wp2
  all_goals go_ret
  all_goals exact ⟨Quo.ret_bool (by go_light;simp_all [bareB,cast_zero] <;> (first | omega | simp [Bool.or_assoc])),hb _⟩
theorem whole_of (t:List UInt8) (w:World) (h:txtB t):Calls Tryz.prog 149 #[.string ⟨t.toArray⟩] w (Ret (.bool (Quo.wholeB t)) w):=by
 have:=Quo.whole_any ⟨t.toArray⟩ w (by rw [bs_size];unfold txtB at h;omega)
 rwa [show (⟨t.toArray⟩:ByteArray).data.toList=t from rfl] at this
theorem dright_of (m e:Int) (w:World):Calls Tryz.prog 116 #[.agg #[.int .i64 m,.int .i64 e]] w (Ret (.bool (Dec.rightB m e)) w):=by
 exact Dec.right_any m e w
theorem namesB_step (ns:List (List UInt8)) (k:Nat) (h:k < ns.length):namesB (ns.take k) (ns.drop k)=(Quo.wholeB (ns.getD k []) && (!((ns.take k).contains (ns.getD k [])) && namesB (ns.take (k+1)) (ns.drop (k+1)))):=by
 rw [List.drop_eq_getElem_cons h,namesB,List.getD_eq_getElem?_getD,List.getElem?_eq_getElem h,Option.getD_some,List.take_append_getElem h]
theorem names_any (S:Nat->Prop) (v:Value) (ns:List (List UInt8)) (w:World) (h:StrsAt S w v ns):Calls Tryz.prog 150 #[v] w (Ret (.bool (namesB [] ns)) w):=by
 obtain ⟨ao,cap,rfl,hcap,hlen,htx,hcell⟩:=h;have hmm:= @run_makeMap Tryz.prog;have HC:=Lib.hid hcell;have HT:Hid (∀n∈ns,txtB n):=htx;clear hcell htx;obtain ⟨R,HR⟩:∃R,Hid (namesB [] ns=R):=⟨_,rfl⟩;rw [HR.out];generalize hn:ns.length=n at *;have HN:=Lib.hid hn;clear hn
 go_enter Tryz.func150,Tryz.ntmps150
 go_wp2
 go_loopw [9] (fun i wr=>∃k:Nat,k<=n/\i= .int .i64 k/\Hid (SetIs wr w.heap.size (ns.take k))/\Below w.heap.size w wr/\Hid (R=namesB (ns.take k) (ns.drop k))) (fun i _=>n - (intOf i).toNat)
 case atStart=>exact ⟨0,Nat.zero_le _,rfl,set_new w,(Below.refl _ _).alloc (Nat.le_refl _) _,HR.out.symm⟩
 case round=>
  obtain ⟨k,hk,rfl,hset,hb,HK⟩:=hrel
  by_cases hlt:k < n
  ·obtain ⟨b,off,rfl,hS,hbl,hcs⟩:=HC.out (by omega);have c0:=(hb.cell (p:=⟨b,off+k,none⟩) hbl).trans (hcs k hlt);have hst:=namesB_step ns k (by rw [HN.out];exact hlt);have htx:txtB (ns.getD k []):=HT.out _ (by rw [List.getD_eq_getElem?_getD,List.getElem?_eq_getElem (by rw [HN.out];exact hlt)];exact List.getElem_mem _);have htk:(ns.take k).length=k:=by rw [List.length_take,HN.out];omega
   have htake:ns.take k++ [ns.getD k []]=ns.take (k+1):=by
    rw [List.getD_eq_getElem?_getD,List.getElem?_eq_getElem (by rw [HN.out];exact hlt)];exact List.take_append_getElem _
   generalize ns.getD k []=N at *;have HX:=Lib.hid htx;have HS1:=Lib.hid hst;have HTK:=Lib.hid htake;have HTL:=Lib.hid htk;clear htx hst htake htk hcs HC;unfold strW at c0;have W1:=Lib.hid (fun w=>whole_of N w HX.out);have hsz:=hb.size
   cases hw:Quo.wholeB N with
   | false=>
     rw [hw] at W1
     go_wp2_with (go_at_call 149;(with_reducible refine (W1.out _).mono ?_);rintro e1 w1 ⟨rfl,hb1⟩)
     go_ret
     exact ⟨Quo.ret_bool (by rw [HK.out,HS1.out,hw];rfl),hb.trans (hb1.mono hsz)⟩
   | true=>
     rw [hw] at W1
     cases hc:(ns.take k).contains N with
     | true=>
       go_wp2_with (first | (go_at_call 149;(with_reducible refine (W1.out _).mono ?_);rintro e1 w1 ⟨rfl,hb1⟩) | (go_at_call 164;(with_reducible refine (add_any w.heap.size (ns.take k) N _ (hset.out.keep (hb1.block _ (hset.out.lt))) HX.out (by rw [HTL.out];omega)).mono ?_);rw [hc];rintro e2 w2 ⟨rfl,hset2,hm2⟩))
       go_ret
       exact ⟨Quo.ret_bool (by rw [HK.out,HS1.out,hw,hc];rfl),(hb.trans (hb1.mono hsz)).trans ((hm2.mono (Nat.le_trans hsz hb1.size)).below (Nat.le_refl _))⟩
     | false=>
       go_wp2_with (first | (go_at_call 149;(with_reducible refine (W1.out _).mono ?_);rintro e1 w1 ⟨rfl,hb1⟩) | (go_at_call 164;(with_reducible refine (add_any w.heap.size (ns.take k) N _ (hset.out.keep (hb1.block _ (hset.out.lt))) HX.out (by rw [HTL.out];omega)).mono ?_);rw [hc];rintro e2 w2 ⟨rfl,hset2,hm2⟩))
       have HS2:Hid (SetIs w2 w.heap.size (ns.take (k+1))):=by show SetIs _ _ _;rw [<-HTK.out];simpa using hset2
       go_roundw
       case rel=>exact ⟨k+1,by omega,by go_num,HS2,(hb.trans (hb1.mono hsz)).trans ((hm2.mono (Nat.le_trans hsz hb1.size)).below (Nat.le_refl _)),by show _=_;rw [HK.out,HS1.out,hw,hc];rfl⟩
       case measure=>simp [intOf];omega
  ·have hkn:k=n:=by omega
   have HE:Hid (R=true):=by show _=_;rw [HK.out,List.drop_of_length_le (by rw [HN.out];omega)];rfl
   go_wp2_with fail
   go_ret
   exact ⟨Quo.ret_bool HE.out.symm,hb⟩
theorem form_of (S:Nat->Prop) (k m e:Int) (t:List UInt8) (an ai:Option Addr) (ns:List (List UInt8)) (cn ni ci:Nat) (w:World) (ht:txtB t) (hns:StrsAt S w (.slice an ns.length cn) ns) (hn:ns.length<=8796093021952) (hi:ni<=1599289640354):
 Calls Tryz.prog 114 #[.agg #[.int .i64 k,.int .i64 m,.int .i64 e,.string ⟨t.toArray⟩,.slice an ns.length cn,.slice ai ni ci]] w (Ret (.bool (formB k m e t ns ni)) w):=by
 have hb:∀o,Below w.heap.size w (w.alloc o):=fun o=>(Below.refl _ _).alloc (Nat.le_refl _) _
 have HB:=Lib.hid hb;clear hb;have hb1:∀o w1,Below (w.alloc o).heap.size (w.alloc o) w1->Below w.heap.size w w1:=fun o w1 h=>(HB.out o).trans (h.mono (by simp))
 have HB1:=Lib.hid hb1;clear hb1;have W1:=Lib.hid (fun w=>whole_of t w ht);have D1:=Lib.hid (fun w=>dright_of m e w);have N1:=Lib.hid (fun o=>names_any S _ ns (w.alloc o) (hns.below (HB.out o) (Nat.le_refl _)));clear ht hns
 by_cases h1:k=1∨k=2∨k=3∨k=6
 ·have hf:formB k m e t ns ni=true:=by unfold formB;rw [if_pos h1]
  rw [hf];rcases h1 with rfl | rfl | rfl | rfl
  all_goals
   go_enter Tryz.func114,Tryz.ntmps114
   go_wp2_with fail
   go_ret
   exact ⟨rfl,HB.out _⟩
 ·by_cases h4:k=4
  ·subst h4;have hf:formB 4 m e t ns ni=Dec.rightB m e:=by unfold formB;rw [if_neg h1,if_pos rfl]
   rw [hf];generalize Dec.rightB m e=r at *
   go_enter Tryz.func114,Tryz.ntmps114
   go_wp2_with (go_at_call 116;(with_reducible refine (D1.out _).mono ?_);rintro e1 w1 ⟨rfl,hb1⟩)
   go_ret
   exact ⟨rfl,HB1.out _ _ hb1⟩
  ·by_cases h5:k=5
   ·subst h5;have hf:formB 5 m e t ns ni=Quo.wholeB t:=(by unfold formB;rw [if_neg h1,if_neg h4,if_pos rfl]);rw [hf];generalize Quo.wholeB t=r at *
    go_enter Tryz.func114,Tryz.ntmps114
    go_wp2_with (go_at_call 149;(with_reducible refine (W1.out _).mono ?_);rintro e1 w1 ⟨rfl,hb1⟩)
    go_ret
    exact ⟨rfl,HB1.out _ _ hb1⟩
   ·by_cases h7:k=7
    ·subst h7;have hf:formB 7 m e t ns ni=(ns.length==ni && namesB [] ns):=(by unfold formB;rw [if_neg h1,if_neg h4,if_neg h5,if_pos rfl]);rw [hf];generalize namesB [] ns=r at *;generalize ns.length=nn at *
     by_cases hl:nn=ni
     ·subst hl
      go_enter Tryz.func114,Tryz.ntmps114
      go_wp2_with (go_at_call 150;(with_reducible refine (N1.out _).mono ?_);rintro e1 w1 ⟨rfl,hb1⟩)
      go_ret
      exact ⟨Quo.ret_bool (by simp),HB1.out _ _ hb1⟩
     ·have hl2:((nn:Int)==(ni:Int))=false:=(by simp;omega);have hl3:(nn==ni)=false:=by simp;exact hl
      go_enter Tryz.func114,Tryz.ntmps114
      go_wp2_with fail
      go_ret
      exact ⟨Quo.ret_bool (by simp [hl3]),HB.out _⟩
    ·have hf:formB k m e t ns ni=false:=(by unfold formB;rw [if_neg h1,if_neg h4,if_neg h5,if_neg h7]);rw [hf];have e1:(k==1)=false:=(by simp;omega);have e2:(k==2)=false:=(by simp;omega);have e3:(k==3)=false:=(by simp;omega);have e6:(k==6)=false:=(by simp;omega);have e4:(k==4)=false:=(by simpa using h4);have e5:(k==5)=false:=(by simpa using h5);have e7:(k==7)=false:=(by simpa using h7);clear h1 h4 h5 h7
     go_enter Tryz.func114,Tryz.ntmps114
     go_wp2_with fail
     go_ret
     exact ⟨rfl,HB.out _⟩
end Go.Proofs.YtclghelocglnlaaGreatDoor.Js
