import Derived.RegionTactic
import Derived.IntWalk
import Derived.BigRegion
import Derived.Laws.IdiomStrings
import Derived.Laws.BitsLemmas
import Derived.Lib.BufferRead
import Derived.Laws.DeepStrings4
import Derived.Test.YtclghelocglnlaaGreatDoorQuoB
import Derived.Deep.Draws
set_option maxHeartbeats 0
set_option maxRecDepth 100000
set_option linter.all false
namespace Go.Proofs.YtclghelocglnlaaGreatDoor.Quo
open Go.RowKit
end Go.Proofs.YtclghelocglnlaaGreatDoor.Quo
namespace Go.Proofs.YtclghelocglnlaaGreatDoor.Quo
open Go.RowKit
end Go.Proofs.YtclghelocglnlaaGreatDoor.Quo
namespace Go.Proofs.YtclghelocglnlaaGreatDoor.Quo
open Go.RowKit
end Go.Proofs.YtclghelocglnlaaGreatDoor.Quo
namespace Go.Proofs.YtclghelocglnlaaGreatDoor.Quo
open Go.RowKit
theorem below_drewN {B:Nat} {a w:World} (h:Below B a w) (n:Nat):Below B a (w.drewN n):=h.trans ⟨rfl,rfl,rfl,Nat.le_refl _,fun _ _=>rfl⟩
end Go.Proofs.YtclghelocglnlaaGreatDoor.Quo
namespace Go.Proofs.YtclghelocglnlaaGreatDoor.Quo
open Go.RowKit
structure Digits (D:ByteArray):Prop where
 size:D.size=16
 dig:∀i (h:i < D.size),digL D[i]=some i
def unitR (r:Nat):List UInt8×Nat×Bool:=if 55296<=r/\r<=57343 then ([],0,false) else (enc r,8,true)
theorem run_dig (D:ByteArray) (i:Nat) (z:Int) (h:i < D.size) (hz:z=(i:Int)) (c:UInt8) (hc:D[i]=c) (u:World):(Instr.index 9 (.string D) (.int .i64 z)).run Tryz.prog u= .ok (.int .u8 (c.toNat:Int)) u:=by
 subst hz;exact run_byte D i h c.toNat (by rw [hc]) u
end Go.Proofs.YtclghelocglnlaaGreatDoor.Quo
namespace Go.Proofs.YtclghelocglnlaaGreatDoor.Quo
open Go.Lib
def oneL (l:List UInt8):Nat:=if badB l=true then 0 else (decodeL l).2
def contV:Nat->List UInt8->Option Nat
 | v,[]=>some v
 | v,c::r=>if c.toNat / 64=2 then contV (v * 64+c.toNat % 64) r else none
def lastT (n low:Nat) (o:Option Nat):Nat:=match o with
 | none=>0
 | some v=>if v < low∨1114111 < v∨(55296<=v/\v<=57343) then 0 else n
theorem oneL_N (l:List UInt8):oneL l=if decodeN l.length (l.getD 0 0).toNat (l.getD 1 0).toNat (l.getD 2 0).toNat (l.getD 3 0).toNat=(65533,1) then 0 else (decodeN l.length (l.getD 0 0).toNat (l.getD 1 0).toNat (l.getD 2 0).toNat (l.getD 3 0).toNat).2:=by
 unfold oneL badB;rw [decodeL_N];simp
theorem one_A {l:List UInt8} (h:(l.getD 0 0).toNat < 128):oneL l=1:=by
 rw [oneL_N];have e:decodeN l.length (l.getD 0 0).toNat (l.getD 1 0).toNat (l.getD 2 0).toNat (l.getD 3 0).toNat=((l.getD 0 0).toNat,1):=by unfold decodeN;rw [if_pos h]
 rw [e,if_neg (fun h2=>by have h3:(l.getD 0 0).toNat=65533:=congrArg Prod.fst h2;omega)]
theorem dec_none {l:List UInt8} (h:decodeN l.length (l.getD 0 0).toNat (l.getD 1 0).toNat (l.getD 2 0).toNat (l.getD 3 0).toNat=(65533,1)):oneL l=0:=by rw [oneL_N,if_pos h]
theorem one_E {l:List UInt8} (h:128<=(l.getD 0 0).toNat/\(l.getD 0 0).toNat < 194∨245<=(l.getD 0 0).toNat):oneL l=0:=by
 apply dec_none
 have k0:=(l.getD 0 0).toNat_lt;have k1:=(l.getD 1 0).toNat_lt;generalize (l.getD 0 0).toNat=b0 at *;generalize (l.getD 1 0).toNat=b1 at *;generalize (l.getD 2 0).toNat=b2 at *;generalize (l.getD 3 0).toNat=b3 at *;unfold decodeN
 repeat' split
 all_goals first | rfl | (exfalso;omega)
theorem one_short {l:List UInt8} (n:Nat) (hl:l.length < n) (h:194<=(l.getD 0 0).toNat/\(l.getD 0 0).toNat<=223/\n=2∨224<=(l.getD 0 0).toNat/\(l.getD 0 0).toNat<=239/\n=3∨240<=(l.getD 0 0).toNat/\(l.getD 0 0).toNat<=244/\n=4):oneL l=0:=by
 apply dec_none
 generalize (l.getD 0 0).toNat=b0 at *;generalize (l.getD 1 0).toNat=b1 at *;generalize (l.getD 2 0).toNat=b2 at *;generalize (l.getD 3 0).toNat=b3 at *;unfold decodeN
 repeat' split
 all_goals first | rfl | (exfalso;omega)
theorem split2 {l:List UInt8} (h:2<=l.length):(l.drop 1).take 1= [l.getD 1 0]:=by
 match l,h with
 | a::b::r,_=>simp
theorem split3 {l:List UInt8} (h:3<=l.length):(l.drop 1).take 2= [l.getD 1 0,l.getD 2 0]:=by
 match l,h with
 | a::b::c::r,_=>simp
theorem split4 {l:List UInt8} (h:4<=l.length):(l.drop 1).take 3= [l.getD 1 0,l.getD 2 0,l.getD 3 0]:=by
 match l,h with
 | a::b::c::d::r,_=>simp
theorem one_2 {l:List UInt8} (hl:2<=l.length) (h0:194<=(l.getD 0 0).toNat) (h1:(l.getD 0 0).toNat<=223):oneL l=lastT 2 128 (contV ((l.getD 0 0).toNat % 32) ((l.drop 1).take 1)):=by
 rw [split2 hl,oneL_N];simp only [contV];have k1:=(l.getD 1 0).toNat_lt;generalize (l.getD 0 0).toNat=b0 at *;generalize (l.getD 1 0).toNat=b1 at *;generalize (l.getD 2 0).toNat=b2 at *;generalize (l.getD 3 0).toNat=b3 at *
 by_cases c1:b1 / 64=2
 ·have e:decodeN l.length b0 b1 b2 b3=(b0 % 32 * 64+b1 % 64,2):=by
   unfold decodeN;rw [if_neg (by omega),if_pos (by omega),if_pos (by omega)]
  rw [e,if_neg (by simp),if_pos c1];unfold lastT;simp only;rw [if_neg (by omega)]
 ·have e:decodeN l.length b0 b1 b2 b3=(65533,1):=by
   unfold decodeN;rw [if_neg (by omega),if_neg (by omega),if_neg (by omega),if_neg (by omega)]
  rw [e,if_pos rfl,if_neg c1]
  rfl
theorem one_3 {l:List UInt8} (hl:3<=l.length) (h0:224<=(l.getD 0 0).toNat) (h1:(l.getD 0 0).toNat<=239):oneL l=lastT 3 2048 (contV ((l.getD 0 0).toNat % 16) ((l.drop 1).take 2)):=by
 rw [split3 hl,oneL_N];simp only [contV];have k1:=(l.getD 1 0).toNat_lt;have k2:=(l.getD 2 0).toNat_lt;generalize (l.getD 0 0).toNat=b0 at *;generalize (l.getD 1 0).toNat=b1 at *;generalize (l.getD 2 0).toNat=b2 at *;generalize (l.getD 3 0).toNat=b3 at *
 by_cases c1:b1 / 64=2/\b2 / 64=2
 ·obtain ⟨c1,c2⟩:=c1;rw [if_pos c1,if_pos c2];unfold lastT;simp only
  by_cases hv:(b0 % 16 * 64+b1 % 64) * 64+b2 % 64 < 2048∨1114111 < (b0 % 16 * 64+b1 % 64) * 64+b2 % 64∨(55296<=(b0 % 16 * 64+b1 % 64) * 64+b2 % 64/\(b0 % 16 * 64+b1 % 64) * 64+b2 % 64<=57343)
  ·have e:decodeN l.length b0 b1 b2 b3=(65533,1):=by
    unfold decodeN;rw [if_neg (by omega),if_neg (by omega),if_pos (by omega),if_neg (by omega)]
   rw [e,if_pos rfl,if_pos hv]
  ·have e:decodeN l.length b0 b1 b2 b3=(b0 % 16 * 4096+b1 % 64 * 64+b2 % 64,3):=by
    unfold decodeN;rw [if_neg (by omega),if_neg (by omega),if_pos (by omega),if_pos (by omega)]
   rw [e,if_neg (by simp),if_neg hv]
 ·have e:decodeN l.length b0 b1 b2 b3=(65533,1):=by
   unfold decodeN;rw [if_neg (by omega),if_neg (by omega),if_neg (by omega),if_neg (by omega)]
  rw [e,if_pos rfl]
  by_cases d1:b1 / 64=2
  ·rw [if_pos d1,if_neg (by omega)];rfl
  ·rw [if_neg d1];rfl
theorem one_4 {l:List UInt8} (hl:4<=l.length) (h0:240<=(l.getD 0 0).toNat) (h1:(l.getD 0 0).toNat<=244):oneL l=lastT 4 65536 (contV ((l.getD 0 0).toNat % 8) ((l.drop 1).take 3)):=by
 rw [split4 hl,oneL_N];simp only [contV];have k1:=(l.getD 1 0).toNat_lt;have k2:=(l.getD 2 0).toNat_lt;have k3:=(l.getD 3 0).toNat_lt;generalize (l.getD 0 0).toNat=b0 at *;generalize (l.getD 1 0).toNat=b1 at *;generalize (l.getD 2 0).toNat=b2 at *;generalize (l.getD 3 0).toNat=b3 at *
 by_cases c1:b1 / 64=2/\b2 / 64=2/\b3 / 64=2
 ·obtain ⟨c1,c2,c3⟩:=c1;rw [if_pos c1,if_pos c2,if_pos c3];unfold lastT;simp only
  by_cases hv:((b0 % 8 * 64+b1 % 64) * 64+b2 % 64) * 64+b3 % 64 < 65536∨1114111 < ((b0 % 8 * 64+b1 % 64) * 64+b2 % 64) * 64+b3 % 64∨(55296<=((b0 % 8 * 64+b1 % 64) * 64+b2 % 64) * 64+b3 % 64/\((b0 % 8 * 64+b1 % 64) * 64+b2 % 64) * 64+b3 % 64<=57343)
  ·have e:decodeN l.length b0 b1 b2 b3=(65533,1):=by
    unfold decodeN;rw [if_neg (by omega),if_neg (by omega),if_neg (by omega),if_pos (by omega),if_neg (by omega)]
   rw [e,if_pos rfl,if_pos hv]
  ·have e:decodeN l.length b0 b1 b2 b3=(b0 % 8 * 262144+b1 % 64 * 4096+b2 % 64 * 64+b3 % 64,4):=by
    unfold decodeN;rw [if_neg (by omega),if_neg (by omega),if_neg (by omega),if_pos (by omega),if_pos (by omega)]
   rw [e,if_neg (by simp),if_neg hv]
 ·have e:decodeN l.length b0 b1 b2 b3=(65533,1):=by
   unfold decodeN;rw [if_neg (by omega),if_neg (by omega),if_neg (by omega),if_neg (by omega)]
  rw [e,if_pos rfl]
  by_cases d1:b1 / 64=2
  ·rw [if_pos d1]
   by_cases d2:b2 / 64=2
   ·rw [if_pos d2,if_neg (by omega)];rfl
   ·rw [if_neg d2];rfl
  ·rw [if_neg d1];rfl
theorem contV_step {m:List UInt8} {k v:Nat} (hk:k < m.length):contV v (m.drop k)=if (m.getD k 0).toNat / 64=2 then contV (v * 64+(m.getD k 0).toNat % 64) (m.drop (k+1)) else none:=by
 rw [List.drop_eq_getElem_cons hk,List.getD_eq_getElem?_getD,List.getElem?_eq_getElem hk]
 rfl
theorem oneL_zero {l:List UInt8} (hne:l≠ []):oneL l=0↔badB l=true:=by
 unfold oneL;have:=width_pos (l:=l)
 cases badB l <;> simp
 omega
theorem oneL_pos {l:List UInt8} (h:badB l=false):oneL l=(decodeL l).2:=by unfold oneL;rw [h];simp
end Go.Proofs.YtclghelocglnlaaGreatDoor.Quo
namespace Go.Proofs.YtclghelocglnlaaGreatDoor.Quo
open Go.RowKit
theorem lastT_some (n low v:Nat):lastT n low (some v)=if v < low∨1114111 < v∨(55296<=v/\v<=57343) then 0 else n:=rfl
theorem cont_test:∀b:Nat,b < 256->(bits .and .u8 (b:Int) 192 !=128)= !decide (b / 64=2):=by decide+kernel
theorem or64 (x y:Nat) (hx:x < 8388608) (hy:y < 64):bits .or .i64 ((x:Int) * 64) (y:Int)=(x:Int) * 64+y:=
 bits_join .i64 40 (by decide) (fun n a b=>by rw [IntKind.wrap_i64];omega) 6 _ _ (by omega) (by omega) (by omega) (by omega) (by omega) (by omega)
theorem or_val (x b:Nat) (hx:x < 8388608):Value.int .i64 (bits .or .i64 ((x:Int) * 64) ((b:Int) % 64))= .int .i64 ((x * 64+b % 64:Nat):Int):=by
 rw [show ((b:Int) % 64)=((b % 64:Nat):Int) by omega,or64 x (b % 64) hx (by omega)]
 congr 1
theorem rone_2 (s:ByteArray) (i:Nat) (w:World) (hs:s.size<=140737488355328) (hi:i < s.size) (c:Nat) (hc:Hid (s[i].toNat=c)) (h0:194<=c) (h1:c<=223):
 Calls Tryz.prog 158 #[.string s,.int .i64 i] w (fun e w'=>e= .returned (.int .i64 (oneL (s.data.toList.drop i)))/\w=w'):=by
 have hx:∀u:World,(Instr.index 9 (.string s) (.int .i64 (i:Int))).run Tryz.prog u= .ok (.int .u8 c) u:=fun u=>run_byte s i hi c hc.out u
 have hg:(s.data.toList.drop i).getD 0 0=s[i]:=by rw [Lib.getD_dropU,byte_getD s i hi];rfl
 have hll:(s.data.toList.drop i).length=s.size - i:=by rw [List.length_drop,sz]
 by_cases hl:s.size < i+2
 ·have HE:Hid (oneL (s.data.toList.drop i)=0):=one_short 2 (by omega) (by rw [hg,hc.out];omega);rw [HE.out];clear hg hll
  go_enter Tryz.func158,Tryz.ntmps158
  go_wp2_with fail
  all_goals first | (exfalso;omega) | skip
  all_goals go_ret
  all_goals exact ⟨rfl,rfl⟩
 ·have HE:=Lib.hid (one_2 (l:=s.data.toList.drop i) (by omega) (by rw [hg,hc.out];exact h0) (by rw [hg,hc.out];exact h1));rw [hg,hc.out] at HE
  have HM:Hid (∀k,k < 1->(((s.data.toList.drop i).drop 1).take 1).getD k 0=s.data.toList.getD (i+(k+1)) 0):=fun k hk=>by
   simp [List.getD_eq_getElem?_getD,List.getElem?_take,List.getElem?_drop,hk]
   congr 2
   omega
  have hml:(((s.data.toList.drop i).drop 1).take 1).length=1:=by rw [List.length_take,List.length_drop];omega
  have HML:=Lib.hid hml;generalize ((s.data.toList.drop i).drop 1).take 1=M at *;rw [HE.out];clear hg hll hml HE hc
  go_enter Tryz.func158,Tryz.ntmps158
  go_wp2_with fail
  go_loop [8,9] (fun vv kv=>∃k x:Nat,1<=k/\k<=2/\kv= .int .i64 k/\vv= .int .i64 x/\x < 32 * 64 ^ (k - 1)/\Hid (contV (c % 32) M=contV x (M.drop (k - 1)))) (fun _ kv=>2 - (intOf kv).toNat)
  case atStart=>exact ⟨1,c % 32,by omega,by omega,rfl,by go_num,by simp;omega,rfl⟩
  case round=>
   obtain ⟨k,x,hk1,hk2,rfl,rfl,hx1,hacc⟩:=hrel
   have hx8:x < 8388608:=by
    have:64 ^ (k - 1)<=64 ^ 3:=Nat.pow_le_pow_right (by omega) (by omega)
    omega
   by_cases hlt:k < 2
   ·obtain ⟨b,hbe⟩:∃b,s[i+k].toNat=b:=⟨_,rfl⟩;have hb256:b < 256:=by rw [<-hbe];exact s[i+k].toNat_lt
    have hx2:∀u:World,(Instr.index 9 (.string s) (.int .i64 ((i:Int)+(k:Int)))).run Tryz.prog u= .ok (.int .u8 b) u:=fun u=>by
     have:=run_byte s (i+k) (by omega) b hbe u
     rwa [Int.natCast_add] at this
    have HS:=Lib.hid (contV_step (m:=M) (k:=k - 1) (v:=x) (by rw [HML.out];omega));rw [HM.out (k - 1) (by omega),show i+(k - 1+1)=i+k by omega,<-byte_getD s (i+k) (by omega),hbe,show k - 1+1=k by omega] at HS;have htest:=cont_test b hb256;have HX1:=Lib.hid hx1;clear hbe hx1
    by_cases hb2:b / 64=2
    ·have HA:=Lib.hid (hacc.out.trans HS.out);rw [if_pos hb2] at HA;rw [decide_eq_true hb2] at htest;have htest':(bits .and .u8 (b:Int) 192 !=128)=false:=htest;have HO:=Lib.hid (or64 x (b % 64) hx8 (by omega));clear htest HS hacc
     go_wp2_with fail
     go_round
     case rel=>exact ⟨k+1,x * 64+b % 64,by omega,by omega,by go_num,by rw [or_val x b hx8],by have:=HX1.out;rw [show k+1 - 1=k - 1+1 by omega,Nat.pow_succ];omega,HA.out⟩
     case measure=>simp [intOf];omega
    ·have HA:=Lib.hid (hacc.out.trans HS.out);rw [if_neg hb2] at HA;rw [decide_eq_false hb2] at htest;have htest':(bits .and .u8 (b:Int) 192 !=128)=true:=htest;clear htest HS hacc
     go_wp2_with fail
     go_ret
     exact ⟨by rw [HA.out];rfl,rfl⟩
   ·have HA:Hid (contV (c % 32) M=some x):=by
     show _=_;rw [hacc.out,List.drop_of_length_le (by rw [HML.out];omega)]
     rfl
    obtain rfl:k=2:=by omega
    clear hx1 hacc HM HML
    go_wp2_with fail
    all_goals go_ret
    all_goals refine ⟨ret_int ?_,rfl⟩
    all_goals rw [HA.out,lastT_some]
    all_goals first
     | (rw [if_pos (by omega)];rfl)
     | (rw [if_neg (by omega)];rfl)
theorem rone_3 (s:ByteArray) (i:Nat) (w:World) (hs:s.size<=140737488355328) (hi:i < s.size) (c:Nat) (hc:Hid (s[i].toNat=c)) (h0:224<=c) (h1:c<=239):
 Calls Tryz.prog 158 #[.string s,.int .i64 i] w (fun e w'=>e= .returned (.int .i64 (oneL (s.data.toList.drop i)))/\w=w'):=by
 have hx:∀u:World,(Instr.index 9 (.string s) (.int .i64 (i:Int))).run Tryz.prog u= .ok (.int .u8 c) u:=fun u=>run_byte s i hi c hc.out u
 have hg:(s.data.toList.drop i).getD 0 0=s[i]:=by rw [Lib.getD_dropU,byte_getD s i hi];rfl
 have hll:(s.data.toList.drop i).length=s.size - i:=by rw [List.length_drop,sz]
 by_cases hl:s.size < i+3
 ·have HE:Hid (oneL (s.data.toList.drop i)=0):=one_short 3 (by omega) (by rw [hg,hc.out];omega);rw [HE.out];clear hg hll;have t1:decide ((c:Int)<=223)=false:=decide_eq_false (by omega)
  go_enter Tryz.func158,Tryz.ntmps158
  go_wp2_with fail
  all_goals first | (exfalso;omega) | skip
  all_goals go_ret
  all_goals exact ⟨rfl,rfl⟩
 ·have HE:=Lib.hid (one_3 (l:=s.data.toList.drop i) (by omega) (by rw [hg,hc.out];exact h0) (by rw [hg,hc.out];exact h1));rw [hg,hc.out] at HE
  have HM:Hid (∀k,k < 2->(((s.data.toList.drop i).drop 1).take 2).getD k 0=s.data.toList.getD (i+(k+1)) 0):=fun k hk=>by
   simp [List.getD_eq_getElem?_getD,List.getElem?_take,List.getElem?_drop,hk]
   congr 2
   omega
  have hml:(((s.data.toList.drop i).drop 1).take 2).length=2:=by rw [List.length_take,List.length_drop];omega
  have HML:=Lib.hid hml;generalize ((s.data.toList.drop i).drop 1).take 2=M at *;rw [HE.out];clear hg hll hml HE hc;have t1:decide ((c:Int)<=223)=false:=decide_eq_false (by omega)
  go_enter Tryz.func158,Tryz.ntmps158
  go_wp2_with fail
  go_loop [8,9] (fun vv kv=>∃k x:Nat,1<=k/\k<=3/\kv= .int .i64 k/\vv= .int .i64 x/\x < 16 * 64 ^ (k - 1)/\Hid (contV (c % 16) M=contV x (M.drop (k - 1)))) (fun _ kv=>3 - (intOf kv).toNat)
  case atStart=>exact ⟨1,c % 16,by omega,by omega,rfl,by go_num,by simp;omega,rfl⟩
  case round=>
   obtain ⟨k,x,hk1,hk2,rfl,rfl,hx1,hacc⟩:=hrel
   have hx8:x < 8388608:=by
    have:64 ^ (k - 1)<=64 ^ 3:=Nat.pow_le_pow_right (by omega) (by omega)
    omega
   by_cases hlt:k < 3
   ·obtain ⟨b,hbe⟩:∃b,s[i+k].toNat=b:=⟨_,rfl⟩;have hb256:b < 256:=by rw [<-hbe];exact s[i+k].toNat_lt
    have hx2:∀u:World,(Instr.index 9 (.string s) (.int .i64 ((i:Int)+(k:Int)))).run Tryz.prog u= .ok (.int .u8 b) u:=fun u=>by
     have:=run_byte s (i+k) (by omega) b hbe u
     rwa [Int.natCast_add] at this
    have HS:=Lib.hid (contV_step (m:=M) (k:=k - 1) (v:=x) (by rw [HML.out];omega));rw [HM.out (k - 1) (by omega),show i+(k - 1+1)=i+k by omega,<-byte_getD s (i+k) (by omega),hbe,show k - 1+1=k by omega] at HS;have htest:=cont_test b hb256;have HX1:=Lib.hid hx1;clear hbe hx1
    by_cases hb2:b / 64=2
    ·have HA:=Lib.hid (hacc.out.trans HS.out);rw [if_pos hb2] at HA;rw [decide_eq_true hb2] at htest;have htest':(bits .and .u8 (b:Int) 192 !=128)=false:=htest;have HO:=Lib.hid (or64 x (b % 64) hx8 (by omega));clear htest HS hacc
     go_wp2_with fail
     go_round
     case rel=>exact ⟨k+1,x * 64+b % 64,by omega,by omega,by go_num,by rw [or_val x b hx8],by have:=HX1.out;rw [show k+1 - 1=k - 1+1 by omega,Nat.pow_succ];omega,HA.out⟩
     case measure=>simp [intOf];omega
    ·have HA:=Lib.hid (hacc.out.trans HS.out);rw [if_neg hb2] at HA;rw [decide_eq_false hb2] at htest;have htest':(bits .and .u8 (b:Int) 192 !=128)=true:=htest;clear htest HS hacc
     go_wp2_with fail
     go_ret
     exact ⟨by rw [HA.out];rfl,rfl⟩
   ·have HA:Hid (contV (c % 16) M=some x):=by
     show _=_;rw [hacc.out,List.drop_of_length_le (by rw [HML.out];omega)]
     rfl
    obtain rfl:k=3:=by omega
    clear hx1 hacc HM HML
    go_wp2_with fail
    all_goals go_ret
    all_goals refine ⟨ret_int ?_,rfl⟩
    all_goals rw [HA.out,lastT_some]
    all_goals first
     | (rw [if_pos (by omega)];rfl)
     | (rw [if_neg (by omega)];rfl)
theorem rone_4 (s:ByteArray) (i:Nat) (w:World) (hs:s.size<=140737488355328) (hi:i < s.size) (c:Nat) (hc:Hid (s[i].toNat=c)) (h0:240<=c) (h1:c<=244):
 Calls Tryz.prog 158 #[.string s,.int .i64 i] w (fun e w'=>e= .returned (.int .i64 (oneL (s.data.toList.drop i)))/\w=w'):=by
 have hx:∀u:World,(Instr.index 9 (.string s) (.int .i64 (i:Int))).run Tryz.prog u= .ok (.int .u8 c) u:=fun u=>run_byte s i hi c hc.out u
 have hg:(s.data.toList.drop i).getD 0 0=s[i]:=by rw [Lib.getD_dropU,byte_getD s i hi];rfl
 have hll:(s.data.toList.drop i).length=s.size - i:=by rw [List.length_drop,sz]
 by_cases hl:s.size < i+4
 ·have HE:Hid (oneL (s.data.toList.drop i)=0):=one_short 4 (by omega) (by rw [hg,hc.out];omega);rw [HE.out];clear hg hll;have t1:decide ((c:Int)<=223)=false:=decide_eq_false (by omega);have t2:decide ((c:Int)<=239)=false:=decide_eq_false (by omega)
  go_enter Tryz.func158,Tryz.ntmps158
  go_wp2_with fail
  all_goals first | (exfalso;omega) | skip
  all_goals go_ret
  all_goals exact ⟨rfl,rfl⟩
 ·have HE:=Lib.hid (one_4 (l:=s.data.toList.drop i) (by omega) (by rw [hg,hc.out];exact h0) (by rw [hg,hc.out];exact h1));rw [hg,hc.out] at HE
  have HM:Hid (∀k,k < 3->(((s.data.toList.drop i).drop 1).take 3).getD k 0=s.data.toList.getD (i+(k+1)) 0):=fun k hk=>by
   simp [List.getD_eq_getElem?_getD,List.getElem?_take,List.getElem?_drop,hk]
   congr 2
   omega
  have hml:(((s.data.toList.drop i).drop 1).take 3).length=3:=by rw [List.length_take,List.length_drop];omega
  have HML:=Lib.hid hml;generalize ((s.data.toList.drop i).drop 1).take 3=M at *;rw [HE.out];clear hg hll hml HE hc;have t1:decide ((c:Int)<=223)=false:=decide_eq_false (by omega);have t2:decide ((c:Int)<=239)=false:=decide_eq_false (by omega)
  go_enter Tryz.func158,Tryz.ntmps158
  go_wp2_with fail
  go_loop [8,9] (fun vv kv=>∃k x:Nat,1<=k/\k<=4/\kv= .int .i64 k/\vv= .int .i64 x/\x < 8 * 64 ^ (k - 1)/\Hid (contV (c % 8) M=contV x (M.drop (k - 1)))) (fun _ kv=>4 - (intOf kv).toNat)
  case atStart=>exact ⟨1,c % 8,by omega,by omega,rfl,by go_num,by simp;omega,rfl⟩
  case round=>
   obtain ⟨k,x,hk1,hk2,rfl,rfl,hx1,hacc⟩:=hrel
   have hx8:x < 8388608:=by
    have:64 ^ (k - 1)<=64 ^ 3:=Nat.pow_le_pow_right (by omega) (by omega)
    omega
   by_cases hlt:k < 4
   ·obtain ⟨b,hbe⟩:∃b,s[i+k].toNat=b:=⟨_,rfl⟩;have hb256:b < 256:=by rw [<-hbe];exact s[i+k].toNat_lt
    have hx2:∀u:World,(Instr.index 9 (.string s) (.int .i64 ((i:Int)+(k:Int)))).run Tryz.prog u= .ok (.int .u8 b) u:=fun u=>by
     have:=run_byte s (i+k) (by omega) b hbe u
     rwa [Int.natCast_add] at this
    have HS:=Lib.hid (contV_step (m:=M) (k:=k - 1) (v:=x) (by rw [HML.out];omega));rw [HM.out (k - 1) (by omega),show i+(k - 1+1)=i+k by omega,<-byte_getD s (i+k) (by omega),hbe,show k - 1+1=k by omega] at HS;have htest:=cont_test b hb256;have HX1:=Lib.hid hx1;clear hbe hx1
    by_cases hb2:b / 64=2
    ·have HA:=Lib.hid (hacc.out.trans HS.out);rw [if_pos hb2] at HA;rw [decide_eq_true hb2] at htest;have htest':(bits .and .u8 (b:Int) 192 !=128)=false:=htest;have HO:=Lib.hid (or64 x (b % 64) hx8 (by omega));clear htest HS hacc
     go_wp2_with fail
     go_round
     case rel=>exact ⟨k+1,x * 64+b % 64,by omega,by omega,by go_num,by rw [or_val x b hx8],by have:=HX1.out;rw [show k+1 - 1=k - 1+1 by omega,Nat.pow_succ];omega,HA.out⟩
     case measure=>simp [intOf];omega
    ·have HA:=Lib.hid (hacc.out.trans HS.out);rw [if_neg hb2] at HA;rw [decide_eq_false hb2] at htest;have htest':(bits .and .u8 (b:Int) 192 !=128)=true:=htest;clear htest HS hacc
     go_wp2_with fail
     go_ret
     exact ⟨by rw [HA.out];rfl,rfl⟩
   ·have HA:Hid (contV (c % 8) M=some x):=by
     show _=_;rw [hacc.out,List.drop_of_length_le (by rw [HML.out];omega)]
     rfl
    obtain rfl:k=4:=by omega
    clear hx1 hacc HM HML
    go_wp2_with fail
    all_goals go_ret
    all_goals refine ⟨ret_int ?_,rfl⟩
    all_goals rw [HA.out,lastT_some]
    all_goals first
     | (rw [if_pos (by omega)];rfl)
     | (rw [if_neg (by omega)];rfl)
theorem rone_any (s:ByteArray) (i:Nat) (w:World) (hs:s.size<=140737488355328) (hi:i < s.size):
 Calls Tryz.prog 158 #[.string s,.int .i64 i] w (fun e w'=>e= .returned (.int .i64 (oneL (s.data.toList.drop i)))/\w=w'):=by
 obtain ⟨c,hc⟩:∃c,s[i].toNat=c:=⟨_,rfl⟩;have hc256:c < 256:=by rw [<-hc];exact s[i].toNat_lt
 by_cases h2:194<=c/\c<=223
 ·exact rone_2 s i w hs hi c hc h2.1 h2.2
 by_cases h3:224<=c/\c<=239
 ·exact rone_3 s i w hs hi c hc h3.1 h3.2
 by_cases h4:240<=c/\c<=244
 ·exact rone_4 s i w hs hi c hc h4.1 h4.2
 have hx:∀u:World,(Instr.index 9 (.string s) (.int .i64 (i:Int))).run Tryz.prog u= .ok (.int .u8 c) u:=fun u=>run_byte s i hi c hc u
 have hg:(s.data.toList.drop i).getD 0 0=s[i]:=by rw [Lib.getD_dropU,byte_getD s i hi];rfl
 by_cases ha:c < 128
 ·rw [one_A (l:=s.data.toList.drop i) (by rw [hg,hc];exact ha)];clear hg hc h2 h3 h4
  go_enter Tryz.func158,Tryz.ntmps158
  go_wp2_with fail
  go_ret
  exact ⟨rfl,rfl⟩
 ·rw [one_E (l:=s.data.toList.drop i) (by rw [hg,hc];omega)];clear hg hc
  go_enter Tryz.func158,Tryz.ntmps158
  go_wp2_with fail
  all_goals first | (exfalso;omega) | skip
  all_goals go_ret
  all_goals exact ⟨rfl,rfl⟩
theorem rwhole_any (s:ByteArray) (w:World) (hs:s.size<=140737488355328):
 Calls Tryz.prog 125 #[.string s] w (fun e w'=>e= .returned (.bool (wholeB s.data.toList))/\w=w'):=by
 go_enter Tryz.func125,Tryz.ntmps125
 go_wp2_with fail
 go_loop [3] (fun iv=>∃k:Nat,k<=s.size/\iv= .int .i64 k/\Hid (wholeB s.data.toList=wholeB (s.data.toList.drop k))) (fun iv=>s.size - (intOf iv).toNat)
 case atStart=>exact ⟨0,by omega,rfl,by show _=_;rw [List.drop_zero]⟩
 case round=>
  obtain ⟨k,hk,rfl,hacc⟩:=hrel
  by_cases hlt:k < s.size
  ·have RO:=Lib.hid (fun u=>rone_any s k u hs hlt);have hne:=drop_ne hlt
   cases hb:badB (s.data.toList.drop k) with
   | true=>
     have HA:=Lib.hid (hacc.out.trans (wholeB_bad hne hb));rw [(oneL_zero hne).2 hb] at RO;clear hacc hb hne
     go_wp2_with (go_at_call 158;(with_reducible refine (RO.out _).mono ?_);rintro e w' ⟨rfl,rfl⟩)
     go_ret
     exact ⟨ret_bool (by rw [HA.out]),rfl⟩
   | false=>
     obtain ⟨_,_,_,g4,g5⟩:=good_front hne hb;have HA:=Lib.hid (hacc.out.trans (wholeB_good hne hb));rw [List.drop_drop] at HA;rw [oneL_pos hb] at RO;rw [List.length_drop,sz] at g5;generalize (Lib.decodeL (s.data.toList.drop k)).2=n at *;have hz:((n:Int)==0)=false:=(by simp;omega);clear hacc hb hne
     go_wp2_with (go_at_call 158;(with_reducible refine (RO.out _).mono ?_);rintro e w' ⟨rfl,rfl⟩)
     go_round
     case rel=>exact ⟨k+n,by omega,by go_num,HA.out⟩
     case measure=>simp [intOf];omega
  ·have HA:Hid (wholeB s.data.toList=true):=by show _=_;rw [hacc.out,drop_end hlt,wholeB_nil]
   clear hacc
   go_wp2_with fail
   go_ret
   exact ⟨ret_bool (by rw [HA.out]),rfl⟩
end Go.Proofs.YtclghelocglnlaaGreatDoor.Quo
namespace Go.Proofs.YtclghelocglnlaaGreatDoor.Quo
open Go.RowKit
theorem rhex_any (n:Nat) (w:World) (hn:n<=1000000):
 Calls Tryz.prog 127 #[.int .i64 n] w (fun e w'=>e= .returned (.int .u8 (hexd (n % 16)).toNat)/\w=w'):=by
 have h:n % 16 < (⟨#[48,49,50,51,52,53,54,55,56,57,97,98,99,100,101,102]⟩:ByteArray).size:=by show _ < 16;omega
 have he:(⟨#[48,49,50,51,52,53,54,55,56,57,97,98,99,100,101,102]⟩:ByteArray)[n % 16]=hexd (n % 16):=by
  unfold hexd;rw [List.getD_eq_getElem?_getD,List.getElem?_eq_getElem (by exact h)];rfl
 have hx:=run_dig _ (n % 16) ((n:Int) % 16) h (by omega) _ he;generalize hexd (n % 16)=c at *;clear he h
 go_enter Tryz.func127,Tryz.ntmps127
 go_wp2_with fail
 go_ret
 exact ⟨rfl,rfl⟩
def fourV (o:Option Nat):Int:=match o with | none=> -1 | some n=>n
def fourL (l:List UInt8):Option Nat:=if l.length < 4 then none else digs 0 (l.take 4)
theorem rfour_any (s:ByteArray) (i:Nat) (w:World) (hs:s.size<=140737488355328) (hi:i<=s.size):
 Calls Tryz.prog 180 #[.string s,.int .i64 i] w (fun e w'=>e= .returned (.int .i64 (fourV (fourL (s.data.toList.drop i))))/\w=w'):=by
 by_cases hl:s.size < i+4
 ·have HE:Hid (fourL (s.data.toList.drop i)=none):=by
   show _=_;unfold fourL;rw [if_pos (by rw [List.length_drop,sz];omega)]
  rw [HE.out];unfold fourV
  go_enter Tryz.func180,Tryz.ntmps180
  go_wp2_with fail
  go_ret
  exact ⟨rfl,rfl⟩
 ·have HE:Hid (fourL (s.data.toList.drop i)=digs 0 ((s.data.toList.drop i).take 4)):=by
   show _=_;unfold fourL;rw [if_neg (by rw [List.length_drop,sz];omega)]
  have HM:Hid (∀k,k < 4->((s.data.toList.drop i).take 4).getD k 0=s.data.toList.getD (i+k) 0):=fun k hk=>by
   simp [List.getD_eq_getElem?_getD,List.getElem?_take,List.getElem?_drop,hk]
  have hml:((s.data.toList.drop i).take 4).length=4:=by rw [List.length_take,List.length_drop,sz];omega
  have HML:=Lib.hid hml;generalize (s.data.toList.drop i).take 4=M at *;rw [HE.out];clear hml HE
  go_enter Tryz.func180,Tryz.ntmps180
  go_wp2_with fail
  go_loop [5,6] (fun vv kv=>∃k n:Nat,k<=4/\kv= .int .i64 ((i:Int)+k)/\vv= .int .i64 n/\n < 16 ^ k/\Hid (digs 0 M=digs n (M.drop k))) (fun _ kv=>i+4 - (intOf kv).toNat)
  case atStart=>exact ⟨0,0,by omega,by go_num,rfl,by simp,by show _=_;rw [List.drop_zero]⟩
  case round=>
   obtain ⟨k,n,hk,rfl,rfl,hn,hacc⟩:=hrel
   have hn2:n < 65537:=by
    have:16 ^ k<=16 ^ 4:=Nat.pow_le_pow_right (by omega) (by omega)
    omega
   by_cases hlt:k < 4
   ·obtain ⟨c,hce⟩:∃c,s[i+k].toNat=c:=⟨_,rfl⟩;have hc256:c < 256:=by rw [<-hce];exact s[i+k].toNat_lt
    have hx:∀u:World,(Instr.index 9 (.string s) (.int .i64 ((i:Int)+(k:Int)))).run Tryz.prog u= .ok (.int .u8 c) u:=fun u=>by
     have:=run_byte s (i+k) (by omega) c hce u
     rwa [Int.natCast_add] at this
    have HD:=Lib.hid (digs_step (l:=M) (k:=k) (n:=n) (by rw [HML.out];omega));rw [HM.out k hlt,<-byte_getD s (i+k) (by omega)] at HD
    have HG:Hid (digL s[i+k]=if 48<=c/\c<=57 then some (c - 48) else if 97<=c/\c<=102 then some (c - 87) else if 65<=c/\c<=70 then some (c - 55) else none):=by
     show _=_;unfold digL;rw [hce]
    rw [HG.out] at HD;have HA:=Lib.hid (hacc.out.trans HD.out);have HN:=Lib.hid hn;clear hce HD HG hacc hn
    by_cases h1:48<=c/\c<=57
    ·rw [if_pos h1] at HA;obtain ⟨p1,p2⟩:=h1
     go_wp2_with fail
     go_round
     case rel=>exact ⟨k+1,n * 16+(c - 48),by omega,by go_num,by congr 1;omega,by have:=HN.out;rw [Nat.pow_succ];omega,HA.out⟩
     case measure=>simp [intOf];omega
    ·rw [if_neg h1] at HA
     by_cases h2:97<=c/\c<=102
     ·rw [if_pos h2] at HA;obtain ⟨p1,p2⟩:=h2;clear h1;have b1:decide ((c:Int)<=57)=false:=decide_eq_false (by omega)
      go_wp2_with fail
      go_round
      case rel=>exact ⟨k+1,n * 16+(c - 87),by omega,by go_num,by congr 1;omega,by have:=HN.out;rw [Nat.pow_succ];omega,HA.out⟩
      case measure=>simp [intOf];omega
     ·rw [if_neg h2] at HA
      by_cases h3:65<=c/\c<=70
      ·rw [if_pos h3] at HA;obtain ⟨p1,p2⟩:=h3;clear h1 h2;have b1:decide ((c:Int)<=57)=false:=decide_eq_false (by omega);have b2:decide (97<=(c:Int))=false:=decide_eq_false (by omega)
       go_wp2_with fail
       go_round
       case rel=>exact ⟨k+1,n * 16+(c - 55),by omega,by go_num,by congr 1;omega,by have:=HN.out;rw [Nat.pow_succ];omega,HA.out⟩
       case measure=>simp [intOf];omega
      ·rw [if_neg h3] at HA
       go_wp2_with fail
       all_goals first | (exfalso;omega) | skip
       all_goals go_ret
       all_goals exact ⟨ret_int (by rw [HA.out];rfl),rfl⟩
   ·obtain rfl:k=4:=by omega
    have HA:Hid (digs 0 M=some n):=by
     show _=_;rw [hacc.out,List.drop_of_length_le (by rw [HML.out];omega)]
     rfl
    clear hacc hn
    go_wp2_with fail
    go_ret
    exact ⟨ret_int (by rw [HA.out];rfl),rfl⟩
end Go.Proofs.YtclghelocglnlaaGreatDoor.Quo
namespace Go.Proofs.YtclghelocglnlaaGreatDoor.Quo
open Go.RowKit
def Laid (l:List UInt8) (w:World) (e:Ending) (w':World):Prop:=
 e= .returned (.slice (some ⟨w.heap.size,0,none⟩) l.length l.length)/\w'=w.alloc (.cells (Lib.byteCells l).toArray 5)
theorem cells_enc (v:Nat):Lib.byteCells (enc v)=(Lib.encodeRuneZ (v:Int)).map fun x=>Value.int .u8 x:=by
 unfold enc;rw [Lib.byteCells_encodeRune]
 rfl
theorem or192 (y:Int) (h0:0<=y) (h1:y < 32):bits .or .i64 192 y=192+y:=
 bits_join .i64 40 (by decide) (fun n a b=>by rw [IntKind.wrap_i64];omega) 5 _ _ (by omega) (by omega) (by omega) (by omega) (by omega) (by omega)
theorem or128 (y:Int) (h0:0<=y) (h1:y < 64):bits .or .i64 128 y=128+y:=
 bits_join .i64 40 (by decide) (fun n a b=>by rw [IntKind.wrap_i64];omega) 6 _ _ (by omega) (by omega) (by omega) (by omega) (by omega) (by omega)
theorem or224 (y:Int) (h0:0<=y) (h1:y < 16):bits .or .i64 224 y=224+y:=
 bits_join .i64 40 (by decide) (fun n a b=>by rw [IntKind.wrap_i64];omega) 4 _ _ (by omega) (by omega) (by omega) (by omega) (by omega) (by omega)
theorem or240 (y:Int) (h0:0<=y) (h1:y < 8):bits .or .i64 240 y=240+y:=
 bits_join .i64 40 (by decide) (fun n a b=>by rw [IntKind.wrap_i64];omega) 3 _ _ (by omega) (by omega) (by omega) (by omega) (by omega) (by omega)
theorem and63 (x:Int) (h0:0<=x) (h1:x < 4194304):bits .and .i64 x 63=x % 64:=
 bits_mask .i64 22 (by decide) (fun n a b=>by rw [IntKind.wrap_i64];omega) 6 (by decide) x h0 h1
theorem last6 (x:Int) (h0:0<=x) (h1:x < 4194304):bits .or .i64 128 (bits .and .i64 x 63) % 256=128+x % 64:=by
 rw [and63 x h0 h1,or128 _ (by omega) (by omega)];omega
theorem rlaid_1 (v:Nat) (w:World) (h1:v < 128):Calls Tryz.prog 181 #[.int .i64 v] w (Laid (enc v) w):=by
 have HC:=Lib.hid (cells_enc v);rw [Lib.encodeRuneZ_one (by omega) (by omega)] at HC;have HL:Hid ((enc v).length=1):=by show _=_;rw [enc_one h1];rfl
 have t1:decide ((v:Int) < 128)=true:=decide_eq_true (by omega)
 go_enter Tryz.func181,Tryz.ntmps181
 go_wp2_with fail
 go_ret
 refine ⟨by rw [HL.out];rfl,?_⟩;rw [HC.out];simp
theorem rlaid_2 (v:Nat) (w:World) (h0:128<=v) (h1:v < 2048):Calls Tryz.prog 181 #[.int .i64 v] w (Laid (enc v) w):=by
 have HC:=Lib.hid (cells_enc v);rw [Lib.encodeRuneZ_two (by omega) (by omega)] at HC;have HL:Hid ((enc v).length=2):=by show (enc v).length=2;unfold enc Lib.encodeRune;rw [Lib.encodeRuneZ_two (by omega) (by omega)];rfl
 have t1:decide ((v:Int) < 128)=false:=decide_eq_false (by omega);have t2:decide ((v:Int) < 2048)=true:=decide_eq_true (by omega);have e1:=Lib.hid (or192 ((v:Int) / 64) (by omega) (by omega));have e2:=Lib.hid (last6 (v:Int) (by omega) (by omega));have e3:Hid ((192+(v:Int) / 64) % 256=192+(v:Int) / 64):=by show _=_;omega
 clear h0 h1
 go_enter Tryz.func181,Tryz.ntmps181
 go_wp2_with fail
 go_ret
 refine ⟨by rw [HL.out];rfl,?_⟩;rw [HC.out,e1.out,e2.out,e3.out]
 rfl
theorem rlaid_3 (v:Nat) (w:World) (h0:2048<=v) (h1:v < 65536) (hv:vr v):Calls Tryz.prog 181 #[.int .i64 v] w (Laid (enc v) w):=by
 have HC:=Lib.hid (cells_enc v);unfold vr at hv;rw [Lib.encodeRuneZ_three (by omega)] at HC;have HL:Hid ((enc v).length=3):=by show (enc v).length=3;unfold enc Lib.encodeRune;rw [Lib.encodeRuneZ_three (by omega)];rfl
 have t1:decide ((v:Int) < 128)=false:=decide_eq_false (by omega);have t2:decide ((v:Int) < 2048)=false:=decide_eq_false (by omega);have t3:decide ((v:Int) < 65536)=true:=decide_eq_true (by omega);have e1:=Lib.hid (or224 ((v:Int) / 4096) (by omega) (by omega));have e2:=Lib.hid (last6 (v:Int) (by omega) (by omega));have e3:=Lib.hid (last6 ((v:Int) / 64) (by omega) (by omega));have e4:Hid ((224+(v:Int) / 4096) % 256=224+(v:Int) / 4096):=by show _=_;omega
 clear h0 h1 hv
 go_enter Tryz.func181,Tryz.ntmps181
 go_wp2_with fail
 go_ret
 refine ⟨by rw [HL.out];rfl,?_⟩;rw [HC.out,e1.out,e2.out,e3.out,e4.out]
 rfl
theorem rlaid_4 (v:Nat) (w:World) (h0:65536<=v) (h1:v<=1114111):Calls Tryz.prog 181 #[.int .i64 v] w (Laid (enc v) w):=by
 have HC:=Lib.hid (cells_enc v);rw [Lib.encodeRuneZ_four (by omega) (by omega)] at HC;have HL:Hid ((enc v).length=4):=by show (enc v).length=4;unfold enc Lib.encodeRune;rw [Lib.encodeRuneZ_four (by omega) (by omega)];rfl
 have t1:decide ((v:Int) < 128)=false:=decide_eq_false (by omega);have t2:decide ((v:Int) < 2048)=false:=decide_eq_false (by omega);have t3:decide ((v:Int) < 65536)=false:=decide_eq_false (by omega);have e1:=Lib.hid (or240 ((v:Int) / 262144) (by omega) (by omega));have e2:=Lib.hid (last6 (v:Int) (by omega) (by omega));have e3:=Lib.hid (last6 ((v:Int) / 64) (by omega) (by omega));have e5:=Lib.hid (last6 ((v:Int) / 4096) (by omega) (by omega));have e4:Hid ((240+(v:Int) / 262144) % 256=240+(v:Int) / 262144):=by show _=_;omega
 clear h0 h1
 go_enter Tryz.func181,Tryz.ntmps181
 go_wp2_with fail
 go_ret
 refine ⟨by rw [HL.out];rfl,?_⟩;rw [HC.out,e1.out,e2.out,e3.out,e4.out,e5.out]
 rfl
theorem rlaid_any (v:Nat) (w:World) (hv:vr v):Calls Tryz.prog 181 #[.int .i64 v] w (Laid (enc v) w):=by
 by_cases h1:v < 128
 ·exact rlaid_1 v w h1
 by_cases h2:v < 2048
 ·exact rlaid_2 v w (by omega) h2
 by_cases h3:v < 65536
 ·exact rlaid_3 v w (by omega) h3 hv
 ·exact rlaid_4 v w (by omega) (by unfold vr at hv;omega)
end Go.Proofs.YtclghelocglnlaaGreatDoor.Quo
namespace Go.Proofs.YtclghelocglnlaaGreatDoor.Quo
open Go.RowKit
theorem unit_by_four (m:List UInt8):unitL m=if m.length < 2∨m.getD 0 0≠92∨m.getD 1 0≠117 then none else fourL (m.drop 2):=by
 unfold unitL fourL
 match m with
 | []=>simp
 | [a]=>simp
 | a::b::r=>
   by_cases h:a=92/\b=117
   ·obtain ⟨rfl,rfl⟩:=h;have hp:Lib.hasPrefix (92::117::r) [92,117]=true:=(by simp [Lib.hasPrefix,List.isPrefixOf]);rw [hp];simp only [List.length_cons,List.getD_cons_zero,List.getD_cons_succ,List.drop_succ_cons,List.drop_zero]
    by_cases hl:r.length < 4
    ·rw [if_pos (.inl (by omega)),if_neg (by simp),if_pos hl]
    ·rw [if_neg (by simp;omega),if_neg (by simp),if_neg hl]
   ·have hp:Lib.hasPrefix (a::b::r) [92,117]=false:=by
     simp only [Lib.hasPrefix,List.isPrefixOf,Bool.and_true];have:¬(92=a/\117=b):=fun k=>h ⟨k.1.symm,k.2.symm⟩
     simpa using this
    rw [if_pos (.inr hp),if_pos];simp only [List.getD_cons_zero,List.getD_cons_succ]
    by_cases ha:a=92
    ·right;right;exact fun hb=>h ⟨ha,hb⟩
    ·right;left;exact ha
def EscRet (q:Nat×Nat) (w:World) (e:Ending) (w':World):Prop:=
 (q.2=0/\e= .returned (.tuple #[.slice none 0 0,.int .i64 0])/\w'=w)∨
 (q.2≠0/\e= .returned (.tuple #[.slice (some ⟨w.heap.size,0,none⟩) (enc q.1).length (enc q.1).length,.int .i64 ((q.2:Int) - 1)])/\w'=w.alloc (.cells (Lib.byteCells (enc q.1)).toArray 5))
theorem esc_no {w:World} {e:Ending} {w':World} (h:e= .returned (.tuple #[.slice none 0 0,.int .i64 0])/\w'=w):EscRet (0,0) w e w':= .inl ⟨rfl,h⟩
theorem two_sl {a b:Value} {m n:Int} (h1:a=b) (h2:m=n):Ending.returned (.tuple #[a,.int .i64 m])= .returned (.tuple #[b,.int .i64 n]):=by rw [h1,h2]
theorem resc_34 (s:ByteArray) (p:Nat) (w:World) (hs:s.size<=140737488355328) (h2:p+1 < s.size) (hc:s[p+1]=34):
 Calls Tryz.prog 166 #[.string s,.int .i64 ((p:Int)+1)] w (EscRet (34,2) w):=by
 have hx:∀u:World,(Instr.index 9 (.string s) (.int .i64 ((p:Int)+1))).run Tryz.prog u= .ok (.int .u8 34) u:=fun u=>by
  have:=run_byte s (p+1) h2 34 (by rw [hc];rfl) u
  rwa [Int.natCast_add] at this
 have HE:Hid (enc 34= [34]):=by show _=_;decide+kernel
 clear hc
 go_enter Tryz.func166,Tryz.ntmps166
 go_wp2_with fail
 go_ret2
 refine .inr ⟨by simp,two_sl (by rw [HE.out];rfl) (by decide),?_⟩;rw [HE.out]
 rfl
theorem resc_92 (s:ByteArray) (p:Nat) (w:World) (hs:s.size<=140737488355328) (h2:p+1 < s.size) (hc:s[p+1]=92):
 Calls Tryz.prog 166 #[.string s,.int .i64 ((p:Int)+1)] w (EscRet (92,2) w):=by
 have hx:∀u:World,(Instr.index 9 (.string s) (.int .i64 ((p:Int)+1))).run Tryz.prog u= .ok (.int .u8 92) u:=fun u=>by
  have:=run_byte s (p+1) h2 92 (by rw [hc];rfl) u
  rwa [Int.natCast_add] at this
 have HE:Hid (enc 92= [92]):=by show _=_;decide+kernel
 clear hc
 go_enter Tryz.func166,Tryz.ntmps166
 go_wp2_with fail
 go_ret2
 refine .inr ⟨by simp,two_sl (by rw [HE.out];rfl) (by decide),?_⟩;rw [HE.out]
 rfl
theorem resc_47 (s:ByteArray) (p:Nat) (w:World) (hs:s.size<=140737488355328) (h2:p+1 < s.size) (hc:s[p+1]=47):
 Calls Tryz.prog 166 #[.string s,.int .i64 ((p:Int)+1)] w (EscRet (47,2) w):=by
 have hx:∀u:World,(Instr.index 9 (.string s) (.int .i64 ((p:Int)+1))).run Tryz.prog u= .ok (.int .u8 47) u:=fun u=>by
  have:=run_byte s (p+1) h2 47 (by rw [hc];rfl) u
  rwa [Int.natCast_add] at this
 have HE:Hid (enc 47= [47]):=by show _=_;decide+kernel
 clear hc
 go_enter Tryz.func166,Tryz.ntmps166
 go_wp2_with fail
 go_ret2
 refine .inr ⟨by simp,two_sl (by rw [HE.out];rfl) (by decide),?_⟩;rw [HE.out]
 rfl
theorem resc_98 (s:ByteArray) (p:Nat) (w:World) (hs:s.size<=140737488355328) (h2:p+1 < s.size) (hc:s[p+1]=98):
 Calls Tryz.prog 166 #[.string s,.int .i64 ((p:Int)+1)] w (EscRet (8,2) w):=by
 have hx:∀u:World,(Instr.index 9 (.string s) (.int .i64 ((p:Int)+1))).run Tryz.prog u= .ok (.int .u8 98) u:=fun u=>by
  have:=run_byte s (p+1) h2 98 (by rw [hc];rfl) u
  rwa [Int.natCast_add] at this
 have HE:Hid (enc 8= [8]):=by show _=_;decide+kernel
 clear hc
 go_enter Tryz.func166,Tryz.ntmps166
 go_wp2_with fail
 go_ret2
 refine .inr ⟨by simp,two_sl (by rw [HE.out];rfl) (by decide),?_⟩;rw [HE.out]
 rfl
theorem resc_116 (s:ByteArray) (p:Nat) (w:World) (hs:s.size<=140737488355328) (h2:p+1 < s.size) (hc:s[p+1]=116):
 Calls Tryz.prog 166 #[.string s,.int .i64 ((p:Int)+1)] w (EscRet (9,2) w):=by
 have hx:∀u:World,(Instr.index 9 (.string s) (.int .i64 ((p:Int)+1))).run Tryz.prog u= .ok (.int .u8 116) u:=fun u=>by
  have:=run_byte s (p+1) h2 116 (by rw [hc];rfl) u
  rwa [Int.natCast_add] at this
 have HE:Hid (enc 9= [9]):=by show _=_;decide+kernel
 clear hc
 go_enter Tryz.func166,Tryz.ntmps166
 go_wp2_with fail
 go_ret2
 refine .inr ⟨by simp,two_sl (by rw [HE.out];rfl) (by decide),?_⟩;rw [HE.out]
 rfl
theorem resc_110 (s:ByteArray) (p:Nat) (w:World) (hs:s.size<=140737488355328) (h2:p+1 < s.size) (hc:s[p+1]=110):
 Calls Tryz.prog 166 #[.string s,.int .i64 ((p:Int)+1)] w (EscRet (10,2) w):=by
 have hx:∀u:World,(Instr.index 9 (.string s) (.int .i64 ((p:Int)+1))).run Tryz.prog u= .ok (.int .u8 110) u:=fun u=>by
  have:=run_byte s (p+1) h2 110 (by rw [hc];rfl) u
  rwa [Int.natCast_add] at this
 have HE:Hid (enc 10= [10]):=by show _=_;decide+kernel
 clear hc
 go_enter Tryz.func166,Tryz.ntmps166
 go_wp2_with fail
 go_ret2
 refine .inr ⟨by simp,two_sl (by rw [HE.out];rfl) (by decide),?_⟩;rw [HE.out]
 rfl
theorem resc_102 (s:ByteArray) (p:Nat) (w:World) (hs:s.size<=140737488355328) (h2:p+1 < s.size) (hc:s[p+1]=102):
 Calls Tryz.prog 166 #[.string s,.int .i64 ((p:Int)+1)] w (EscRet (12,2) w):=by
 have hx:∀u:World,(Instr.index 9 (.string s) (.int .i64 ((p:Int)+1))).run Tryz.prog u= .ok (.int .u8 102) u:=fun u=>by
  have:=run_byte s (p+1) h2 102 (by rw [hc];rfl) u
  rwa [Int.natCast_add] at this
 have HE:Hid (enc 12= [12]):=by show _=_;decide+kernel
 clear hc
 go_enter Tryz.func166,Tryz.ntmps166
 go_wp2_with fail
 go_ret2
 refine .inr ⟨by simp,two_sl (by rw [HE.out];rfl) (by decide),?_⟩;rw [HE.out]
 rfl
theorem resc_114 (s:ByteArray) (p:Nat) (w:World) (hs:s.size<=140737488355328) (h2:p+1 < s.size) (hc:s[p+1]=114):
 Calls Tryz.prog 166 #[.string s,.int .i64 ((p:Int)+1)] w (EscRet (13,2) w):=by
 have hx:∀u:World,(Instr.index 9 (.string s) (.int .i64 ((p:Int)+1))).run Tryz.prog u= .ok (.int .u8 114) u:=fun u=>by
  have:=run_byte s (p+1) h2 114 (by rw [hc];rfl) u
  rwa [Int.natCast_add] at this
 have HE:Hid (enc 13= [13]):=by show _=_;decide+kernel
 clear hc
 go_enter Tryz.func166,Tryz.ntmps166
 go_wp2_with fail
 go_ret2
 refine .inr ⟨by simp,two_sl (by rw [HE.out];rfl) (by decide),?_⟩;rw [HE.out]
 rfl
theorem resc_end (s:ByteArray) (p:Nat) (w:World) (hs:s.size<=140737488355328) (h2:¬p+1 < s.size):
 Calls Tryz.prog 166 #[.string s,.int .i64 ((p:Int)+1)] w (EscRet (0,0) w):=by
 go_enter Tryz.func166,Tryz.ntmps166
 go_wp2_with fail
 go_ret2
 exact esc_no ⟨rfl,rfl⟩
theorem resc_none (s:ByteArray) (p:Nat) (w:World) (hs:s.size<=140737488355328) (h2:p+1 < s.size) (c:Nat) (hc:Hid (s[p+1].toNat=c)) (k1:((c:Int)==34)=false) (k2:((c:Int)==92)=false) (k3:((c:Int)==47)=false) (k4:((c:Int)==117)=false)
 (k5:((c:Int)==98)=false) (k6:((c:Int)==116)=false) (k7:((c:Int)==110)=false) (k8:((c:Int)==102)=false) (k9:((c:Int)==114)=false):
 Calls Tryz.prog 166 #[.string s,.int .i64 ((p:Int)+1)] w (EscRet (0,0) w):=by
 have hx:∀u:World,(Instr.index 9 (.string s) (.int .i64 ((p:Int)+1))).run Tryz.prog u= .ok (.int .u8 c) u:=fun u=>by
  have:=run_byte s (p+1) h2 c hc.out u
  rwa [Int.natCast_add] at this
 go_enter Tryz.func166,Tryz.ntmps166
 go_wp2_with fail
 go_ret2
 exact esc_no ⟨rfl,rfl⟩
end Go.Proofs.YtclghelocglnlaaGreatDoor.Quo
namespace Go.Proofs.YtclghelocglnlaaGreatDoor.Quo
open Go.RowKit
theorem fourL_lt {l:List UInt8} {f:Nat} (h:fourL l=some f):f < 65536/\4<=l.length:=by
 unfold fourL at h
 split at h
 ·cases h
 ·rename_i hl;have:=(digs_lt _ _ _ h).1;have h4:(l.take 4).length=4:=by rw [List.length_take];omega
  rw [h4] at this
  omega
theorem resc_u0 (s:ByteArray) (p:Nat) (w:World) (hs:s.size<=140737488355328) (h2:p+1 < s.size) (hc:s[p+1]=117) (o:Option Nat) (hF:fourL (s.data.toList.drop (p+2))=o) (ho:o=none∨∃f,o=some f/\isS f=true):
 Calls Tryz.prog 166 #[.string s,.int .i64 ((p:Int)+1)] w (EscRet (0,0) w):=by
 have hx:∀u:World,(Instr.index 9 (.string s) (.int .i64 ((p:Int)+1))).run Tryz.prog u= .ok (.int .u8 117) u:=fun u=>by
  have:=run_byte s (p+1) h2 117 (by rw [hc];rfl) u
  rwa [Int.natCast_add] at this
 have RF:=Lib.hid (fun u=>rfour_any s (p+2) u hs (by omega));rw [hF,show ((p+2:Nat):Int)=(p:Int)+1+1 by omega] at RF;clear hc hF;rcases ho with rfl | ⟨f,rfl,hf⟩
 ·unfold fourV at RF
  go_enter Tryz.func166,Tryz.ntmps166
  go_wp2_with (go_at_call 180;(with_reducible refine (RF.out _).mono ?_);rintro e w' ⟨rfl,rfl⟩)
  go_ret2
  exact esc_no ⟨rfl,rfl⟩
 ·rw [show fourV (some f)=(f:Int) from rfl] at RF;have hb:56320<=f/\f < 57344:=by simpa [isS] using hf
  have a1:decide (56320<=(f:Int))=true:=decide_eq_true (by omega);have a2:decide ((f:Int)<=57343)=true:=decide_eq_true (by omega);have a0:decide ((f:Int) < 0)=false:=decide_eq_false (by omega);clear hb hf
  go_enter Tryz.func166,Tryz.ntmps166
  go_wp2_with (go_at_call 180;(with_reducible refine (RF.out _).mono ?_);rintro e w' ⟨rfl,rfl⟩)
  go_ret2
  exact esc_no ⟨rfl,rfl⟩
theorem resc_u1 (s:ByteArray) (p:Nat) (w:World) (hs:s.size<=140737488355328) (h2:p+1 < s.size) (hc:s[p+1]=117) (f:Nat) (hF:fourL (s.data.toList.drop (p+2))=some f) (h1:isS f=false) (h3:isF f=false):
 Calls Tryz.prog 166 #[.string s,.int .i64 ((p:Int)+1)] w (EscRet (f,6) w):=by
 have hx:∀u:World,(Instr.index 9 (.string s) (.int .i64 ((p:Int)+1))).run Tryz.prog u= .ok (.int .u8 117) u:=fun u=>by
  have:=run_byte s (p+1) h2 117 (by rw [hc];rfl) u
  rwa [Int.natCast_add] at this
 have RF:=Lib.hid (fun u=>rfour_any s (p+2) u hs (by omega));have hlt:=(fourL_lt hF).1;rw [hF,show ((p+2:Nat):Int)=(p:Int)+1+1 by omega,show fourV (some f)=(f:Int) from rfl] at RF
 have hb:f < 55296∨57344<=f:=by
  simp [isS] at h1;simp [isF] at h3
  omega
 have RL:=Lib.hid (fun u=>rlaid_any f u (by unfold vr;omega));have hz0:0<=(f:Int):=by omega
 have hb':(f:Int) < 55296∨57344<=(f:Int):=by omega
 have HF2:Hid (∀z:Int,z=(f:Int)->Calls Tryz.prog 166 #[.string s,.int .i64 ((p:Int)+1)] w (EscRet (f,6) w)):=by
  intro z hz;rw [<-hz] at RF RL hz0 hb';clear hc hF h1 h3 hb hlt hz;rcases hb' with hb | hb
  ·have a3:decide (z < 55296)=true:=decide_eq_true hb;have a1:decide (56320<=z)=false:=decide_eq_false (by omega);clear hb
   go_enter Tryz.func166,Tryz.ntmps166
   go_wp2_with (first
    | (go_at_call 180;(with_reducible refine (RF.out _).mono ?_);rintro e w' ⟨rfl,rfl⟩)
    | (go_at_call 181;(with_reducible refine (RL.out _).mono ?_);rintro e w' ⟨rfl,rfl⟩))
   go_ret2
   exact .inr ⟨by simp,rfl,rfl⟩
  ·have a1:decide (56320<=z)=true:=decide_eq_true (by omega);have a2:decide (z<=57343)=false:=decide_eq_false (by omega);have a3:decide (z < 55296)=false:=decide_eq_false (by omega);have a4:decide (57343 < z)=true:=decide_eq_true (by omega);clear hb
   go_enter Tryz.func166,Tryz.ntmps166
   go_wp2_with (first
    | (go_at_call 180;(with_reducible refine (RF.out _).mono ?_);rintro e w' ⟨rfl,rfl⟩)
    | (go_at_call 181;(with_reducible refine (RL.out _).mono ?_);rintro e w' ⟨rfl,rfl⟩))
   go_ret2
   exact .inr ⟨by simp,rfl,rfl⟩
 exact HF2.out _ rfl
end Go.Proofs.YtclghelocglnlaaGreatDoor.Quo
namespace Go.Proofs.YtclghelocglnlaaGreatDoor.Quo
open Go.RowKit
def pairL (f:Nat) (o:Option Nat):Nat×Nat:=match o with
 | none=>(0,0)
 | some g=>if isS g then (65536+(f - 55296) * 1024+(g - 56320),12) else (0,0)
theorem resc_u2 (s:ByteArray) (p:Nat) (w:World) (hs:s.size<=140737488355328) (h2:p+1 < s.size) (hc:s[p+1]=117) (f:Nat) (hF:fourL (s.data.toList.drop (p+2))=some f) (h3:isF f=true):
 Calls Tryz.prog 166 #[.string s,.int .i64 ((p:Int)+1)] w (EscRet (pairL f (unitL (s.data.toList.drop (p+6)))) w):=by
 have hx:∀u:World,(Instr.index 9 (.string s) (.int .i64 ((p:Int)+1))).run Tryz.prog u= .ok (.int .u8 117) u:=fun u=>by
  have:=run_byte s (p+1) h2 117 (by rw [hc];rfl) u
  rwa [Int.natCast_add] at this
 have RF:=Lib.hid (fun u=>rfour_any s (p+2) u hs (by omega));rw [hF,show ((p+2:Nat):Int)=(p:Int)+1+1 by omega,show fourV (some f)=(f:Int) from rfl] at RF;have hb:55296<=f/\f < 56320:=by simpa [isF] using h3
 have hub:=Lib.hid (unit_by_four (s.data.toList.drop (p+6)));rw [List.length_drop,sz,List.drop_drop,Lib.getD_dropU,Lib.getD_dropU,show p+6+2=p+8 by omega,show p+6+0=p+6 by omega,show p+6+1=p+7 by omega] at hub;obtain ⟨z,hz⟩:∃z:Int,z=(f:Int):=⟨_,rfl⟩;have a0:decide (z < 0)=false:=decide_eq_false (by omega);have a1:decide (56320<=z)=false:=decide_eq_false (by omega);have a3:decide (z < 55296)=false:=decide_eq_false (by omega);have a4:decide (57343 < z)=false:=decide_eq_false (by omega);rw [<-hz] at RF
 by_cases hl:s.size < p+8
 ·rw [if_pos (.inl (by omega))] at hub;have HE:Hid (pairL f (unitL (s.data.toList.drop (p+6)))=(0,0)):=by show _=_;rw [hub.out];rfl
  rw [HE.out];have b1:decide ((s.size:Int) < (p:Int)+1+7)=true:=decide_eq_true (by omega);clear hub hc hF h3 hb hz
  go_enter Tryz.func166,Tryz.ntmps166
  go_wp2_with (go_at_call 180;(with_reducible refine (RF.out _).mono ?_);rintro e w' ⟨rfl,rfl⟩)
  go_ret2
  exact esc_no ⟨rfl,rfl⟩
 obtain ⟨c5,hc5⟩:∃c,s[p+6].toNat=c:=⟨_,rfl⟩;obtain ⟨c6,hc6⟩:∃c,s[p+7].toNat=c:=⟨_,rfl⟩
 have hx5:∀u:World,(Instr.index 9 (.string s) (.int .i64 ((p:Int)+1+5))).run Tryz.prog u= .ok (.int .u8 c5) u:=fun u=>by
  have:=run_byte s (p+6) (by omega) c5 hc5 u
  rwa [show ((p+6:Nat):Int)=(p:Int)+1+5 by omega] at this
 have hx6:∀u:World,(Instr.index 9 (.string s) (.int .i64 ((p:Int)+1+6))).run Tryz.prog u= .ok (.int .u8 c6) u:=fun u=>by
  have:=run_byte s (p+7) (by omega) c6 hc6 u
  rwa [show ((p+7:Nat):Int)=(p:Int)+1+6 by omega] at this
 rw [<-byte_getD s (p+6) (by omega),<-byte_getD s (p+7) (by omega)] at hub;have b1:decide ((s.size:Int) < (p:Int)+1+7)=false:=decide_eq_false (by omega)
 by_cases h5:c5=92/\c6=117
 ·obtain ⟨rfl,rfl⟩:=h5;have e5:s[p+6]=92:=UInt8.toNat_inj.1 (by rw [hc5];rfl);have e6:s[p+7]=117:=UInt8.toNat_inj.1 (by rw [hc6];rfl);rw [if_neg (by rw [e5,e6];simp;omega)] at hub;have RG:=Lib.hid (fun u=>rfour_any s (p+8) u hs (by omega));rw [show ((p+8:Nat):Int)=(p:Int)+1+7 by omega] at RG;rw [hub.out]
  cases hG:fourL (s.data.toList.drop (p+8)) with
  | none=>
    rw [hG,show fourV none= -1 from rfl] at RG;have HE:Hid (pairL f none=(0,0)):=rfl;rw [HE.out];clear hub hc hF h3 hb hz hc5 hc6 e5 e6 hG
    go_enter Tryz.func166,Tryz.ntmps166
    go_wp2_with (first
     | (go_at_call 180;(with_reducible refine (RF.out _).mono ?_);rintro e w' ⟨rfl,rfl⟩)
     | (go_at_call 180;(with_reducible refine (RG.out _).mono ?_);rintro e w' ⟨rfl,rfl⟩))
    go_ret2
    exact esc_no ⟨rfl,rfl⟩
  | some g=>
    rw [hG,show fourV (some g)=(g:Int) from rfl] at RG;obtain ⟨y,hy⟩:∃y:Int,y=(g:Int):=⟨_,rfl⟩;rw [<-hy] at RG
    cases hS:isS g with
    | false=>
      have HE:Hid (pairL f (some g)=(0,0)):=(by show (if isS g=true then _ else _)=_;rw [hS];simp);rw [HE.out];have hb2:y < 56320∨57343 < y:=(by simp [isS] at hS;omega);clear hub hc hF h3 hb hz hc5 hc6 e5 e6 hG hy hS;rcases hb2 with hb2 | hb2
      ·have d1:decide (y < 56320)=true:=decide_eq_true hb2;clear hb2
       go_enter Tryz.func166,Tryz.ntmps166
       go_wp2_with (first
        | (go_at_call 180;(with_reducible refine (RF.out _).mono ?_);rintro e w' ⟨rfl,rfl⟩)
        | (go_at_call 180;(with_reducible refine (RG.out _).mono ?_);rintro e w' ⟨rfl,rfl⟩))
       go_ret2
       exact esc_no ⟨rfl,rfl⟩
      ·have d1:decide (y < 56320)=false:=decide_eq_false (by omega);have d2:decide (57343 < y)=true:=decide_eq_true hb2;clear hb2
       go_enter Tryz.func166,Tryz.ntmps166
       go_wp2_with (first
        | (go_at_call 180;(with_reducible refine (RF.out _).mono ?_);rintro e w' ⟨rfl,rfl⟩)
        | (go_at_call 180;(with_reducible refine (RG.out _).mono ?_);rintro e w' ⟨rfl,rfl⟩))
       go_ret2
       exact esc_no ⟨rfl,rfl⟩
    | true=>
      have HE:Hid (pairL f (some g)=(65536+(f - 55296) * 1024+(g - 56320),12)):=(by show (if isS g=true then _ else _)=_;rw [hS];simp);have hg:56320<=g/\g < 57344:=(by simpa [isS] using hS);have RL:=Lib.hid (fun u=>rlaid_any (65536+(f - 55296) * 1024+(g - 56320)) u (by unfold vr;omega));rw [show ((65536+(f - 55296) * 1024+(g - 56320):Nat):Int)=65536+(z - 55296) * 1024+y - 56320 by omega] at RL;rw [HE.out];generalize 65536+(f - 55296) * 1024+(g - 56320)=r at *;have d1:decide (y < 56320)=false:=decide_eq_false (by omega);have d2:decide (57343 < y)=false:=decide_eq_false (by omega);have y0:56320<=y:=(by omega);have y1:y<=57343:=(by omega);have z0:55296<=z:=(by omega);have z1:z<=56319:=(by omega);clear hub hc hF h3 hb hz hc5 hc6 e5 e6 hG hy hS hg
      go_enter Tryz.func166,Tryz.ntmps166
      go_wp2_with (first
       | (go_at_call 180;(with_reducible refine (RF.out _).mono ?_);rintro e w' ⟨rfl,rfl⟩)
       | (go_at_call 180;(with_reducible refine (RG.out _).mono ?_);rintro e w' ⟨rfl,rfl⟩)
       | (go_at_call 181;(with_reducible refine (RL.out _).mono ?_);rintro e w' ⟨rfl,rfl⟩))
      go_ret2
      exact .inr ⟨by simp,rfl,rfl⟩
 ·rw [if_pos (by
   by_cases h:c5=92
   ·refine .inr (.inr fun e=>h5 ⟨h,?_⟩);rw [<-hc6,e];rfl
   ·refine .inr (.inl fun e=>h ?_);rw [<-hc5,e];rfl)] at hub
  have HE:Hid (pairL f (unitL (s.data.toList.drop (p+6)))=(0,0)):=by show _=_;rw [hub.out];rfl
  rw [HE.out]
  have hb5:((c5:Int) !=92)=true∨(((c5:Int) !=92)=false/\((c6:Int) !=117)=true):=by
   by_cases h:c5=92
   ·right
    refine ⟨by simp [h],?_⟩;have:c6≠117:=fun e=>h5 ⟨h,e⟩
    simp;omega
   ·left;simp;omega
  clear hub hc hF h3 hb hz hc5 hc6 h5;rcases hb5 with hb5 | ⟨hb5,hb6⟩
  all_goals
   go_enter Tryz.func166,Tryz.ntmps166
   go_wp2_with (go_at_call 180;(with_reducible refine (RF.out _).mono ?_);rintro e w' ⟨rfl,rfl⟩)
   go_ret2
   exact esc_no ⟨rfl,rfl⟩
theorem resc_any (s:ByteArray) (p:Nat) (w:World) (hs:s.size<=140737488355328) (hp:p < s.size) (h92:s[p]=92):
 Calls Tryz.prog 166 #[.string s,.int .i64 ((p:Int)+1)] w (EscRet (escL (s.data.toList.drop p)) w):=by
 have hll:(s.data.toList.drop p).length=s.size - p:=by rw [List.length_drop,sz]
 by_cases h2:p+1 < s.size
 ·have hg:(s.data.toList.drop p).getD 1 0=s[p+1]:=by rw [Lib.getD_dropU,byte_getD s (p+1) h2]
  have hg0:(s.data.toList.drop p).getD 0 0=92:=by rw [Lib.getD_dropU,Nat.add_zero,<-byte_getD s p hp];exact h92
  have hn:¬(s.data.toList.drop p).length < 2:=by omega
  rcases esc_class s[p+1] with (hc | hc | hc) | hc | hc | hc | hc | hc | hc | ⟨k1,k2,k3,k4,k5,k6,k7,k8,k9,k10,k11,k12⟩
  ·rw [show escL (s.data.toList.drop p)=(34,2) by unfold escL;rw [if_neg hn,hg,hc];simp];exact resc_34 s p w hs h2 hc
  ·rw [show escL (s.data.toList.drop p)=(92,2) by unfold escL;rw [if_neg hn,hg,hc];simp];exact resc_92 s p w hs h2 hc
  ·rw [show escL (s.data.toList.drop p)=(47,2) by unfold escL;rw [if_neg hn,hg,hc];simp];exact resc_47 s p w hs h2 hc
  ·have he:escL (s.data.toList.drop p)=numL (s.data.toList.drop p):=by unfold escL;rw [if_neg hn,hg,hc,if_neg (by decide),if_pos rfl]
   have hu:unitL (s.data.toList.drop p)=fourL (s.data.toList.drop (p+2)):=by
    rw [unit_by_four,if_neg (by rw [hg,hg0,hc];simp;omega),List.drop_drop]
   rw [he];unfold numL;rw [hu,List.drop_drop]
   cases hF:fourL (s.data.toList.drop (p+2)) with
   | none=>exact resc_u0 s p w hs h2 hc none hF (.inl rfl)
   | some f=>
     cases hS:isS f with
     | true=>simp only [hS,if_true];exact resc_u0 s p w hs h2 hc _ hF (.inr ⟨f,rfl,hS⟩)
     | false=>
       cases hI:isF f with
       | false=>simp only [hS,hI,Bool.false_eq_true,if_false];exact resc_u1 s p w hs h2 hc f hF hS hI
       | true=>
         have:=resc_u2 s p w hs h2 hc f hF hI;simp only [hS,hI,Bool.false_eq_true,if_false,if_true];exact this
  ·rw [show escL (s.data.toList.drop p)=(8,2) by unfold escL;rw [if_neg hn,hg,hc];simp];exact resc_98 s p w hs h2 hc
  ·rw [show escL (s.data.toList.drop p)=(9,2) by unfold escL;rw [if_neg hn,hg,hc];simp];exact resc_116 s p w hs h2 hc
  ·rw [show escL (s.data.toList.drop p)=(10,2) by unfold escL;rw [if_neg hn,hg,hc];simp];exact resc_110 s p w hs h2 hc
  ·rw [show escL (s.data.toList.drop p)=(12,2) by unfold escL;rw [if_neg hn,hg,hc];simp];exact resc_102 s p w hs h2 hc
  ·rw [show escL (s.data.toList.drop p)=(13,2) by unfold escL;rw [if_neg hn,hg,hc];simp];exact resc_114 s p w hs h2 hc
  ·rw [show escL (s.data.toList.drop p)=(0,0) by unfold escL;rw [if_neg hn,hg,if_neg k6,if_neg k7,if_neg k8,if_neg k9,if_neg k10,if_neg k11,if_neg k12]];exact resc_none s p w hs h2 _ rfl k1 k2 k3 k4 (u8_ne 98 (by decide) k8) (u8_ne 116 (by decide) k9) (u8_ne 110 (by decide) k10) (u8_ne 102 (by decide) k11) (u8_ne 114 (by decide) k12)
 ·rw [show escL (s.data.toList.drop p)=(0,0) by unfold escL;rw [if_pos (by omega)]];exact resc_end s p w hs h2
end Go.Proofs.YtclghelocglnlaaGreatDoor.Quo
namespace Go.Proofs.YtclghelocglnlaaGreatDoor.Quo
open Go.RowKit
def qb (c:UInt8):List UInt8:=
 if c=34 then [92,34] else if c=92 then [92,92] else if c=8 then [92,98] else if c=9 then [92,116] else if c=10 then [92,110] else if c=12 then [92,102] else if c=13 then [92,114]
 else if c.toNat < 32 then [92,117,48,48,hexd (c.toNat / 16),hexd (c.toNat % 16)] else [c]
theorem qb_high {c:UInt8} (h:93<=c.toNat):qb c= [c]:=by
 have ne:∀n:UInt8,n.toNat < 93->c≠n:=fun n hn e=>by subst e;omega
 unfold qb;rw [if_neg (ne 34 (by decide)),if_neg (ne 92 (by decide)),if_neg (ne 8 (by decide)),if_neg (ne 9 (by decide)),if_neg (ne 10 (by decide)),if_neg (ne 12 (by decide)),if_neg (ne 13 (by decide)),if_neg (by omega)]
theorem flatMap_self (l:List UInt8) (h:∀c∈l,93<=c.toNat):l.flatMap qb=l:=by
 induction l with
 | nil=>rfl
 | cons c r ih=>rw [List.flatMap_cons,qb_high (h c (by simp)),ih fun x hx=>h x (by simp [hx])];rfl
theorem enc_bytes_high {r:Nat} (h:128<=r):∀c∈enc r,128<=c.toNat:=by
 intro c hc;obtain ⟨j,hj,rfl⟩:=List.getElem_of_mem hc
 by_cases hj0:j=0
 ·subst hj0;unfold enc Lib.encodeRune Lib.encodeRuneZ at *
  repeat' split
  all_goals simp
  all_goals omega
 ·have:=enc_high (r:=r) j (by omega) hj;rw [List.getD_eq_getElem?_getD,List.getElem?_eq_getElem hj] at this
  simpa using this
theorem qb_enc {r:Nat} (h:vr r):(enc r).flatMap qb=qr r:=by
 by_cases h1:r < 128
 ·have:∀r:Nat,r < 128->(enc r).flatMap qb=qr r:=by decide+kernel
  exact this r h1
 ·rw [flatMap_self _ fun c hc=>by have:=enc_bytes_high (r:=r) (by omega) c hc;omega];unfold qr;rw [if_neg (by omega),if_neg (by omega),if_pos (by omega)]
theorem qb_body {l:List UInt8} (h:wholeB l=true):l.flatMap qb=qBody l:=by
 obtain ⟨rs,hrs,rfl⟩:=whole_flat h;rw [qBody_flat' hrs];unfold flat bodyQ;rw [List.flatMap_assoc]
 induction rs with
 | nil=>rfl
 | cons r rs ih=>
   rw [List.flatMap_cons,List.flatMap_cons,qb_enc (hrs r (by simp)),ih (fun x hx=>hrs x (by simp [hx])) (wholeB_flat' fun x hx=>hrs x (by simp [hx]))]
theorem qb_step {s:ByteArray} {k:Nat} (h:k < s.size):(s.data.toList.drop k).flatMap qb=qb s[k]++(s.data.toList.drop (k+1)).flatMap qb:=by
 have hk:k < s.data.toList.length:=by rw [sz];exact h
 rw [List.drop_eq_getElem_cons hk,List.flatMap_cons]
 rfl
theorem run_conv_own {w:World} {B:Nat} {v:Value} {l:List UInt8} (h:w.ownsRowF B 5 1 v l.length (Lib.byteCells l)):
 (convert 77 9 v).run Tryz.prog w= .ok (.string ⟨l.toArray⟩) w:=by
 rcases h.2 with ⟨rfl,h0⟩ | ⟨g,cap,cur,fz,rfl,_,hg,_,hn,_,hcs,htk⟩
 ·rw [List.length_eq_zero_iff.1 h0];exact Lib.run_convert_nil_bytes w 77 9 5 0 Tryz.underlying77 Tryz.underlying5 Tryz.underlying9
 ·refine run_convert_bytes_back (P:=Tryz.prog) w 77 9 5 ⟨g,0,none⟩ cap l Tryz.underlying77 Tryz.underlying5 Tryz.underlying9 (fun j hj=> ?_)
  have e:cur[j]?=some (.int .u8 (l[j].toNat:Int)):=by
   have h1:=congrArg (fun x=>x[j]?) htk;simp only [List.getElem?_take,Lib.byteCells,List.getElem?_map,List.getElem?_eq_getElem hj,Option.map_some] at h1;rw [if_pos (by omega)] at h1
   simpa using h1
  rw [show (⟨g,0,none⟩:Addr).add j=⟨g,j,none⟩ by simp [Addr.add];omega,Lib.cell_of_heap hg];exact e
theorem own_first (w:World) (c:UInt8):(w.alloc (.cells #[.int .u8 (c.toNat:Int)] 5)).ownsRowF w.heap.size 5 1 (.slice (some ⟨w.heap.size,0,none⟩) 1 1) 1 (Lib.byteCells [c]):=
 ⟨rfl,.inr ⟨w.heap.size,1,#[.int .u8 (c.toNat:Int)],(0,0),rfl,Nat.le_refl _,heap_alloc_new w _,by simp,by omega,by decide,rfl,rfl⟩⟩
theorem cells_more (acc m:List UInt8):Lib.byteCells acc++Lib.byteCells m=Lib.byteCells (acc++m):=(Lib.byteCells_append acc m).symm
theorem rquote_no (s:ByteArray) (w:World) (hs:s.size<=140737488355328) (h:wholeB s.data.toList=false):
 Calls Tryz.prog 93 #[.string s] w (Ret (quoV s.data.toList) w):=by
 have hw:=Lib.hid (fun w=>rwhole_any s w hs);unfold quoV;rw [h] at hw⊢;clear h
 go_enter Tryz.func93,Tryz.ntmps93
 go_wp2_with (go_at_call 125;(with_reducible refine (hw.out _).mono ?_);rintro e w1 ⟨rfl,rfl⟩)
 go_ret2
 exact ⟨rfl,Below.refl _ _⟩
theorem rquote_yes (s:ByteArray) (w:World) (hs:s.size<=10000000) (h:wholeB s.data.toList=true):
 Calls Tryz.prog 93 #[.string s] w (Ret (quoV s.data.toList) w):=by
 obtain ⟨i0,hi,hz0,hz1,hz2⟩:=info_parts infoByte;have hw:=Lib.hid (fun w=>rwhole_any s w (by omega));have HQ:=Lib.hid (qb_body h);unfold quoV;rw [h] at hw⊢;rw [if_pos rfl];clear h
 go_enter Tryz.func93,Tryz.ntmps93
 go_wp2_with (go_at_call 125;(with_reducible refine (hw.out _).mono ?_);rintro e w1 ⟨rfl,rfl⟩)
 have hF:=own_first w 34;have hB0:Below w.heap.size w (w.alloc (.cells #[.int .u8 34] 5)):=(Below.refl _ w).alloc (Nat.le_refl _) _
 go_loopw [5,6] (fun ov iv wr=>∃(k:Nat) (acc:List UInt8),k<=s.size/\iv= .int .i64 k/\wr.ownsRowF w.heap.size 5 1 ov acc.length (Lib.byteCells acc)/\Below w.heap.size w wr/\Hid (34::s.data.toList.flatMap qb=acc++(s.data.toList.drop k).flatMap qb)/\acc.length<=1+6 * k) (fun _ iv _=>s.size - (intOf iv).toNat)
 case atStart=>exact ⟨0,[34],by omega,rfl,hF,hB0,by show _=_;rw [List.drop_zero];rfl,by simp⟩
 case round=>
  obtain ⟨k,acc,hk,rfl,hown,hbw,hacc,hal⟩:=hrel;clear hF hB0
  by_cases hlt:k < s.size
  ·have HA:=Lib.hid (hacc.out.trans (by rw [qb_step hlt]));clear hacc;have hxb:∀c,s[k].toNat=c->∀u:World,(Instr.index 9 (.string s) (.int .i64 (k:Int))).run Tryz.prog u= .ok (.int .u8 c) u:=fun c hc u=>run_byte s k hlt c hc u
   have HX:=Lib.hid hxb;clear hxb;generalize s[k]=c at *
   by_cases h34:c=34
   ·subst h34;have hx:∀u:World,(Instr.index 9 (.string s) (.int .i64 (k:Int))).run Tryz.prog u= .ok (.int .u8 34) u:=HX.out 34 rfl;rw [show qb 34= [92,34] by decide+kernel] at HA
    go_wp2_with (at_builtin;refine wpList_append_ownF _ rfl _ _ 77 rfl w.heap.size 5 i0 (.int .u8 0) 1 1 Tryz.underlying77 hi hz0 hz1 hz2 rfl (by decide) _ _ _ rfl (hown.alloc _) ⟨wr.heap.size,0,none⟩ 2 2 (Lib.byteCells [92,34]) rfl rfl ?c1 ?c2 ?c3 ?c4 ?c5 ?_)
    case c1=>
     intro j u hj
     have hjl:j=0∨j=1:=by
      have:=(List.getElem?_eq_some_iff.1 hj).1;rw [Lib.byteCells_length] at this;simp at this
      omega
     rcases hjl with rfl | rfl
     all_goals (simp [Lib.byteCells] at hj;subst hj;simp [Addr.add])
    case c2=>
     intro u hu;obtain ⟨x,_,rfl⟩:=List.mem_map.1 hu
     rfl
    case c3=>unfold maxLen;omega
    case c4=>omega
    case c5=>have:=hbw.size;simp;omega
    intro v' w2 hown' hgrow _;rw [cells_more] at hown';have hbw2:Below w.heap.size w w2:=(hbw.alloc hbw.size _).grown hgrow (by have:=hbw.size;simp;omega) (fun k hk=>(hown.lt k hk).1)
    go_wp2_with fail
    go_roundw
    case rel=>exact ⟨k+1,acc++ [92,34],by omega,by go_num,by rw [List.length_append];exact hown',hbw2,by show _=_;rw [HA.out,List.append_assoc],by rw [List.length_append];simp;omega⟩
    case measure=>simp [intOf];omega
   by_cases h92:c=92
   ·subst h92;have hx:∀u:World,(Instr.index 9 (.string s) (.int .i64 (k:Int))).run Tryz.prog u= .ok (.int .u8 92) u:=HX.out 92 rfl;rw [show qb 92= [92,92] by decide+kernel] at HA
    go_wp2_with (at_builtin;refine wpList_append_ownF _ rfl _ _ 77 rfl w.heap.size 5 i0 (.int .u8 0) 1 1 Tryz.underlying77 hi hz0 hz1 hz2 rfl (by decide) _ _ _ rfl (hown.alloc _) ⟨wr.heap.size,0,none⟩ 2 2 (Lib.byteCells [92,92]) rfl rfl ?c1 ?c2 ?c3 ?c4 ?c5 ?_)
    case c1=>
     intro j u hj
     have hjl:j=0∨j=1:=by
      have:=(List.getElem?_eq_some_iff.1 hj).1;rw [Lib.byteCells_length] at this;simp at this
      omega
     rcases hjl with rfl | rfl
     all_goals (simp [Lib.byteCells] at hj;subst hj;simp [Addr.add])
    case c2=>
     intro u hu;obtain ⟨x,_,rfl⟩:=List.mem_map.1 hu
     rfl
    case c3=>unfold maxLen;omega
    case c4=>omega
    case c5=>have:=hbw.size;simp;omega
    intro v' w2 hown' hgrow _;rw [cells_more] at hown';have hbw2:Below w.heap.size w w2:=(hbw.alloc hbw.size _).grown hgrow (by have:=hbw.size;simp;omega) (fun k hk=>(hown.lt k hk).1)
    go_wp2_with fail
    go_roundw
    case rel=>exact ⟨k+1,acc++ [92,92],by omega,by go_num,by rw [List.length_append];exact hown',hbw2,by show _=_;rw [HA.out,List.append_assoc],by rw [List.length_append];simp;omega⟩
    case measure=>simp [intOf];omega
   by_cases h8:c=8
   ·subst h8;have hx:∀u:World,(Instr.index 9 (.string s) (.int .i64 (k:Int))).run Tryz.prog u= .ok (.int .u8 8) u:=HX.out 8 rfl;rw [show qb 8= [92,98] by decide+kernel] at HA
    go_wp2_with (at_builtin;refine wpList_append_ownF _ rfl _ _ 77 rfl w.heap.size 5 i0 (.int .u8 0) 1 1 Tryz.underlying77 hi hz0 hz1 hz2 rfl (by decide) _ _ _ rfl (hown.alloc _) ⟨wr.heap.size,0,none⟩ 2 2 (Lib.byteCells [92,98]) rfl rfl ?c1 ?c2 ?c3 ?c4 ?c5 ?_)
    case c1=>
     intro j u hj
     have hjl:j=0∨j=1:=by
      have:=(List.getElem?_eq_some_iff.1 hj).1;rw [Lib.byteCells_length] at this;simp at this
      omega
     rcases hjl with rfl | rfl
     all_goals (simp [Lib.byteCells] at hj;subst hj;simp [Addr.add])
    case c2=>
     intro u hu;obtain ⟨x,_,rfl⟩:=List.mem_map.1 hu
     rfl
    case c3=>unfold maxLen;omega
    case c4=>omega
    case c5=>have:=hbw.size;simp;omega
    intro v' w2 hown' hgrow _;rw [cells_more] at hown';have hbw2:Below w.heap.size w w2:=(hbw.alloc hbw.size _).grown hgrow (by have:=hbw.size;simp;omega) (fun k hk=>(hown.lt k hk).1)
    go_wp2_with fail
    go_roundw
    case rel=>exact ⟨k+1,acc++ [92,98],by omega,by go_num,by rw [List.length_append];exact hown',hbw2,by show _=_;rw [HA.out,List.append_assoc],by rw [List.length_append];simp;omega⟩
    case measure=>simp [intOf];omega
   by_cases h9:c=9
   ·subst h9;have hx:∀u:World,(Instr.index 9 (.string s) (.int .i64 (k:Int))).run Tryz.prog u= .ok (.int .u8 9) u:=HX.out 9 rfl;rw [show qb 9= [92,116] by decide+kernel] at HA
    go_wp2_with (at_builtin;refine wpList_append_ownF _ rfl _ _ 77 rfl w.heap.size 5 i0 (.int .u8 0) 1 1 Tryz.underlying77 hi hz0 hz1 hz2 rfl (by decide) _ _ _ rfl (hown.alloc _) ⟨wr.heap.size,0,none⟩ 2 2 (Lib.byteCells [92,116]) rfl rfl ?c1 ?c2 ?c3 ?c4 ?c5 ?_)
    case c1=>
     intro j u hj
     have hjl:j=0∨j=1:=by
      have:=(List.getElem?_eq_some_iff.1 hj).1;rw [Lib.byteCells_length] at this;simp at this
      omega
     rcases hjl with rfl | rfl
     all_goals (simp [Lib.byteCells] at hj;subst hj;simp [Addr.add])
    case c2=>
     intro u hu;obtain ⟨x,_,rfl⟩:=List.mem_map.1 hu
     rfl
    case c3=>unfold maxLen;omega
    case c4=>omega
    case c5=>have:=hbw.size;simp;omega
    intro v' w2 hown' hgrow _;rw [cells_more] at hown';have hbw2:Below w.heap.size w w2:=(hbw.alloc hbw.size _).grown hgrow (by have:=hbw.size;simp;omega) (fun k hk=>(hown.lt k hk).1)
    go_wp2_with fail
    go_roundw
    case rel=>exact ⟨k+1,acc++ [92,116],by omega,by go_num,by rw [List.length_append];exact hown',hbw2,by show _=_;rw [HA.out,List.append_assoc],by rw [List.length_append];simp;omega⟩
    case measure=>simp [intOf];omega
   by_cases h10:c=10
   ·subst h10;have hx:∀u:World,(Instr.index 9 (.string s) (.int .i64 (k:Int))).run Tryz.prog u= .ok (.int .u8 10) u:=HX.out 10 rfl;rw [show qb 10= [92,110] by decide+kernel] at HA
    go_wp2_with (at_builtin;refine wpList_append_ownF _ rfl _ _ 77 rfl w.heap.size 5 i0 (.int .u8 0) 1 1 Tryz.underlying77 hi hz0 hz1 hz2 rfl (by decide) _ _ _ rfl (hown.alloc _) ⟨wr.heap.size,0,none⟩ 2 2 (Lib.byteCells [92,110]) rfl rfl ?c1 ?c2 ?c3 ?c4 ?c5 ?_)
    case c1=>
     intro j u hj
     have hjl:j=0∨j=1:=by
      have:=(List.getElem?_eq_some_iff.1 hj).1;rw [Lib.byteCells_length] at this;simp at this
      omega
     rcases hjl with rfl | rfl
     all_goals (simp [Lib.byteCells] at hj;subst hj;simp [Addr.add])
    case c2=>
     intro u hu;obtain ⟨x,_,rfl⟩:=List.mem_map.1 hu
     rfl
    case c3=>unfold maxLen;omega
    case c4=>omega
    case c5=>have:=hbw.size;simp;omega
    intro v' w2 hown' hgrow _;rw [cells_more] at hown';have hbw2:Below w.heap.size w w2:=(hbw.alloc hbw.size _).grown hgrow (by have:=hbw.size;simp;omega) (fun k hk=>(hown.lt k hk).1)
    go_wp2_with fail
    go_roundw
    case rel=>exact ⟨k+1,acc++ [92,110],by omega,by go_num,by rw [List.length_append];exact hown',hbw2,by show _=_;rw [HA.out,List.append_assoc],by rw [List.length_append];simp;omega⟩
    case measure=>simp [intOf];omega
   by_cases h12:c=12
   ·subst h12;have hx:∀u:World,(Instr.index 9 (.string s) (.int .i64 (k:Int))).run Tryz.prog u= .ok (.int .u8 12) u:=HX.out 12 rfl;rw [show qb 12= [92,102] by decide+kernel] at HA
    go_wp2_with (at_builtin;refine wpList_append_ownF _ rfl _ _ 77 rfl w.heap.size 5 i0 (.int .u8 0) 1 1 Tryz.underlying77 hi hz0 hz1 hz2 rfl (by decide) _ _ _ rfl (hown.alloc _) ⟨wr.heap.size,0,none⟩ 2 2 (Lib.byteCells [92,102]) rfl rfl ?c1 ?c2 ?c3 ?c4 ?c5 ?_)
    case c1=>
     intro j u hj
     have hjl:j=0∨j=1:=by
      have:=(List.getElem?_eq_some_iff.1 hj).1;rw [Lib.byteCells_length] at this;simp at this
      omega
     rcases hjl with rfl | rfl
     all_goals (simp [Lib.byteCells] at hj;subst hj;simp [Addr.add])
    case c2=>
     intro u hu;obtain ⟨x,_,rfl⟩:=List.mem_map.1 hu
     rfl
    case c3=>unfold maxLen;omega
    case c4=>omega
    case c5=>have:=hbw.size;simp;omega
    intro v' w2 hown' hgrow _;rw [cells_more] at hown';have hbw2:Below w.heap.size w w2:=(hbw.alloc hbw.size _).grown hgrow (by have:=hbw.size;simp;omega) (fun k hk=>(hown.lt k hk).1)
    go_wp2_with fail
    go_roundw
    case rel=>exact ⟨k+1,acc++ [92,102],by omega,by go_num,by rw [List.length_append];exact hown',hbw2,by show _=_;rw [HA.out,List.append_assoc],by rw [List.length_append];simp;omega⟩
    case measure=>simp [intOf];omega
   by_cases h13:c=13
   ·subst h13;have hx:∀u:World,(Instr.index 9 (.string s) (.int .i64 (k:Int))).run Tryz.prog u= .ok (.int .u8 13) u:=HX.out 13 rfl;rw [show qb 13= [92,114] by decide+kernel] at HA
    go_wp2_with (at_builtin;refine wpList_append_ownF _ rfl _ _ 77 rfl w.heap.size 5 i0 (.int .u8 0) 1 1 Tryz.underlying77 hi hz0 hz1 hz2 rfl (by decide) _ _ _ rfl (hown.alloc _) ⟨wr.heap.size,0,none⟩ 2 2 (Lib.byteCells [92,114]) rfl rfl ?c1 ?c2 ?c3 ?c4 ?c5 ?_)
    case c1=>
     intro j u hj
     have hjl:j=0∨j=1:=by
      have:=(List.getElem?_eq_some_iff.1 hj).1;rw [Lib.byteCells_length] at this;simp at this
      omega
     rcases hjl with rfl | rfl
     all_goals (simp [Lib.byteCells] at hj;subst hj;simp [Addr.add])
    case c2=>
     intro u hu;obtain ⟨x,_,rfl⟩:=List.mem_map.1 hu
     rfl
    case c3=>unfold maxLen;omega
    case c4=>omega
    case c5=>have:=hbw.size;simp;omega
    intro v' w2 hown' hgrow _;rw [cells_more] at hown';have hbw2:Below w.heap.size w w2:=(hbw.alloc hbw.size _).grown hgrow (by have:=hbw.size;simp;omega) (fun k hk=>(hown.lt k hk).1)
    go_wp2_with fail
    go_roundw
    case rel=>exact ⟨k+1,acc++ [92,114],by omega,by go_num,by rw [List.length_append];exact hown',hbw2,by show _=_;rw [HA.out,List.append_assoc],by rw [List.length_append];simp;omega⟩
    case measure=>simp [intOf];omega
   have k34:((c.toNat:Int)==34)=false:=u8_ne 34 (by decide) h34;have k92:((c.toNat:Int)==92)=false:=u8_ne 92 (by decide) h92;have k8:((c.toNat:Int)==8)=false:=u8_ne 8 (by decide) h8;have k9:((c.toNat:Int)==9)=false:=u8_ne 9 (by decide) h9;have k10:((c.toNat:Int)==10)=false:=u8_ne 10 (by decide) h10;have k12:((c.toNat:Int)==12)=false:=u8_ne 12 (by decide) h12;have k13:((c.toNat:Int)==13)=false:=u8_ne 13 (by decide) h13;have hx:=HX.out c.toNat rfl;have hc256:=c.toNat_lt
   have hqb:qb c=if c.toNat < 32 then [92,117,48,48,hexd (c.toNat / 16),hexd (c.toNat % 16)] else [c]:=by
    unfold qb;rw [if_neg h34,if_neg h92,if_neg h8,if_neg h9,if_neg h10,if_neg h12,if_neg h13]
   rw [hqb] at HA;clear hqb h34 h92 h8 h9 h10 h12 h13 HX
   by_cases hlow:c.toNat < 32
   ·rw [if_pos hlow] at HA;have RH1:=Lib.hid (fun u=>rhex_any (c.toNat / 16) u (by omega));rw [show c.toNat / 16 % 16=c.toNat / 16 by omega,show ((c.toNat / 16:Nat):Int)=(c.toNat:Int) / 16 by omega] at RH1;have RH2:=Lib.hid (fun u=>rhex_any c.toNat u (by omega))
    go_wp2_with (first
                | (go_at_call 127;(with_reducible refine (RH1.out _).mono ?_);rintro e w1 ⟨rfl,rfl⟩)
                | (go_at_call 127;(with_reducible refine (RH2.out _).mono ?_);rintro e w1 ⟨rfl,rfl⟩)
                | (at_builtin;refine wpList_append_ownF _ rfl _ _ 77 rfl w.heap.size 5 i0 (.int .u8 0) 1 1 Tryz.underlying77 hi hz0 hz1 hz2 rfl (by decide) _ _ _ rfl (hown.alloc _) ⟨wr.heap.size,0,none⟩ 6 6 (Lib.byteCells [92,117,48,48,hexd (c.toNat / 16),hexd (c.toNat % 16)]) rfl rfl ?c1 ?c2 ?c3 ?c4 ?c5 ?_))
    case c1=>
     intro j u hj
     have hjl:j=0∨j=1∨j=2∨j=3∨j=4∨j=5:=by
      have:=(List.getElem?_eq_some_iff.1 hj).1;rw [Lib.byteCells_length] at this;simp at this
      omega
     rcases hjl with rfl | rfl | rfl | rfl | rfl | rfl
     all_goals (simp [Lib.byteCells] at hj;subst hj;simp [Addr.add])
    case c2=>
     intro u hu;obtain ⟨x,_,rfl⟩:=List.mem_map.1 hu
     rfl
    case c3=>unfold maxLen;omega
    case c4=>omega
    case c5=>have:=hbw.size;simp;omega
    intro v' w2 hown' hgrow _;rw [cells_more] at hown';have hbw2:Below w.heap.size w w2:=(hbw.alloc hbw.size _).grown hgrow (by have:=hbw.size;simp;omega) (fun k hk=>(hown.lt k hk).1)
    go_wp2_with fail
    go_roundw
    case rel=>exact ⟨k+1,acc++ [92,117,48,48,hexd (c.toNat / 16),hexd (c.toNat % 16)],by omega,by go_num,by rw [List.length_append];exact hown',hbw2,by show _=_;rw [HA.out,List.append_assoc],by rw [List.length_append];simp;omega⟩
    case measure=>simp [intOf];omega
   ·rw [if_neg hlow] at HA;have hd:decide ((c.toNat:Int) < 32)=false:=decide_eq_false (by omega)
    go_wp2_with (at_builtin;refine wpList_append_ownF _ rfl _ _ 77 rfl w.heap.size 5 i0 (.int .u8 0) 1 1 Tryz.underlying77 hi hz0 hz1 hz2 rfl (by decide) _ _ _ rfl (hown.alloc _) ⟨wr.heap.size,0,none⟩ 1 1 (Lib.byteCells [c]) rfl rfl ?c1 ?c2 ?c3 ?c4 ?c5 ?_)
    case c1=>
     intro j u hj
     have hjl:j=0:=by
      have:=(List.getElem?_eq_some_iff.1 hj).1;rw [Lib.byteCells_length] at this;simp at this
      omega
     rcases hjl with rfl
     all_goals (simp [Lib.byteCells] at hj;subst hj;simp [Addr.add])
    case c2=>
     intro u hu;obtain ⟨x,_,rfl⟩:=List.mem_map.1 hu
     rfl
    case c3=>unfold maxLen;omega
    case c4=>omega
    case c5=>have:=hbw.size;simp;omega
    intro v' w2 hown' hgrow _;rw [cells_more] at hown';have hbw2:Below w.heap.size w w2:=(hbw.alloc hbw.size _).grown hgrow (by have:=hbw.size;simp;omega) (fun k hk=>(hown.lt k hk).1)
    go_wp2_with fail
    go_roundw
    case rel=>exact ⟨k+1,acc++ [c],by omega,by go_num,by rw [List.length_append];exact hown',hbw2,by show _=_;rw [HA.out,List.append_assoc],by rw [List.length_append];simp;omega⟩
    case measure=>simp [intOf];omega
  ·have HA:Hid (acc=34::s.data.toList.flatMap qb):=by
    show _=_;rw [hacc.out,drop_end hlt];simp
   clear hacc
   go_wp2_with (at_builtin;refine wpList_append_ownF _ rfl _ _ 77 rfl w.heap.size 5 i0 (.int .u8 0) 1 1 Tryz.underlying77 hi hz0 hz1 hz2 rfl (by decide) _ _ _ rfl (hown.alloc _) ⟨wr.heap.size,0,none⟩ 1 1 (Lib.byteCells [34]) rfl rfl ?c1 ?c2 ?c3 ?c4 ?c5 ?_)
   case c1=>
    intro j u hj
    have hjl:j=0:=by
     have:=(List.getElem?_eq_some_iff.1 hj).1;rw [Lib.byteCells_length] at this;simp at this
     omega
    rcases hjl with rfl;simp [Lib.byteCells] at hj;subst hj;simp [Addr.add]
   case c2=>
    intro u hu;obtain ⟨x,_,rfl⟩:=List.mem_map.1 hu
    rfl
   case c3=>unfold maxLen;omega
   case c4=>omega
   case c5=>have:=hbw.size;simp;omega
   intro v' w2 hown' hgrow _;rw [cells_more] at hown';have hbw2:Below w.heap.size w w2:=(hbw.alloc hbw.size _).grown hgrow (by have:=hbw.size;simp;omega) (fun k hk=>(hown.lt k hk).1);have hcv:=run_conv_own (l:=acc++ [34]) (by rw [List.length_append];exact hown')
   go_wp2_with fail
   go_ret2
   refine ⟨?_,hbw2⟩;rw [HA.out,HQ.out]
   rfl
theorem rquote_any (s:ByteArray) (w:World) (hs:s.size<=10000000):Calls Tryz.prog 93 #[.string s] w (Ret (quoV s.data.toList) w):=by
 cases h:wholeB s.data.toList with
 | true=>exact rquote_yes s w hs h
 | false=>exact rquote_no s w (by omega) h
end Go.Proofs.YtclghelocglnlaaGreatDoor.Quo
namespace Go.Proofs.YtclghelocglnlaaGreatDoor.Quo
open Go.RowKit
theorem escL_ge2 {l:List UInt8} (h:(escL l).2≠0):2<=(escL l).2:=by
 have hn:(numL l).2≠0->2<=(numL l).2:=fun h=>by
  unfold numL at h⊢
  repeat' split at h
  all_goals simp_all
 unfold escL at h⊢
 repeat' split
 all_goals first | exact Nat.le_refl _ | skip
 all_goals simp_all
theorem take_cells (s:ByteArray) (k n:Nat):Lib.strCells (s.extract k (k+n))=Lib.byteCells ((s.data.toList.drop k).take n):=by
 have e:(s.extract k (k+n)).data.toList=(s.data.toList.drop k).take n:=by
  rw [ByteArray.data_extract,Array.toList_extract];simp only [List.extract]
  congr 1
  omega
 show Lib.byteCells (s.extract k (k+n)).data.toList=_;rw [e]
theorem extract_size (s:ByteArray) (k n:Nat) (h:k+n<=s.size):(s.extract k (k+n)).size=n:=by
 rw [ByteArray.size_extract];omega
theorem dec_byte {l:List UInt8} (h:(l.getD 0 0).toNat < 128):(Lib.decodeL l).1=(l.getD 0 0).toNat:=by rw [dec_first h]
theorem dec_other {l:List UInt8} (h:128<=(l.getD 0 0).toNat):128<=(Lib.decodeL l).1:=by
 by_cases hh:(Lib.decodeL l).1 < 128
 ·have:=(dec_head hh).1;omega
 ·omega
theorem runq_no (s:ByteArray) (w:World) (hs:s.size<=10000000) (h:s.size < 2∨Lib.hasPrefix s.data.toList [34]=false):
 Calls Tryz.prog 146 #[.string s] w (Ret (unqV (unqS s.data.toList)) w):=by
 have HE:Hid (unqS s.data.toList=([],0,false)):=by
  show _=_;rcases h with h | h
  ·have hl:s.data.toList.length < 2:=by rw [sz];exact h
   generalize s.data.toList=l at *
   match l,hl with
   | [],_=>rfl
   | [a],_=>
     unfold unqS
     split
     ·rw [List.drop_succ_cons,List.drop_zero,unqB_nil]
     ·rfl
  ·unfold unqS;rw [if_neg (by rw [h];simp)]
 rw [HE.out];unfold unqV
 by_cases h2:s.size < 2
 ·clear h
  go_enter Tryz.func146,Tryz.ntmps146
  go_wp2_with fail
  go_ret3
  exact ⟨rfl,Below.refl _ _⟩
 ·have hp:=h.resolve_left h2
  have hne:s[0].toNat≠34:=fun e=>by
   have hb:s.data.toList.getD 0 0=34:=by rw [<-byte_getD s 0 (by omega)];exact UInt8.toNat_inj.1 (by rw [e];rfl)
   have hl:0 < s.data.toList.length:=by rw [sz];omega
   generalize s.data.toList=l at *
   match l,hl with
   | a::r,_=>
     simp at hb;subst hb;simp [Lib.hasPrefix,List.isPrefixOf] at hp
  obtain ⟨c,hc⟩:∃c,s[0].toNat=c:=⟨_,rfl⟩;have hx:∀u:World,(Instr.index 9 (.string s) (.int .i64 0)).run Tryz.prog u= .ok (.int .u8 c) u:=fun u=>run_byte s 0 (by omega) c hc u
  rw [hc] at hne;have k1:((c:Int) !=34)=true:=by simp;omega
  clear h hp hc hne
  go_enter Tryz.func146,Tryz.ntmps146
  go_wp2_with fail
  go_ret3
  exact ⟨rfl,Below.refl _ _⟩
theorem runq_yes (s:ByteArray) (w:World) (hs:s.size<=10000000) (h2:2<=s.size) (h:Lib.hasPrefix s.data.toList [34]=true):
 Calls Tryz.prog 146 #[.string s] w (Ret (unqV (unqS s.data.toList)) w):=by
 obtain ⟨i0,hi,hz0,hz1,hz2⟩:=info_parts infoByte;have HS:=Lib.hid (unqS_comb h)
 have hx0:∀u:World,(Instr.index 9 (.string s) (.int .i64 0)).run Tryz.prog u= .ok (.int .u8 34) u:=fun u=>by
  refine run_byte s 0 (by omega) 34 ?_ u;rw [byte_getD s 0 (by omega)];obtain ⟨t,ht⟩:=List.isPrefixOf_iff_prefix.1 (show [34].isPrefixOf s.data.toList=true from h);rw [<-ht];rfl
 clear h;generalize unqS s.data.toList=R at *
 go_enter Tryz.func146,Tryz.ntmps146
 go_wp2_with fail
 go_loopw [5,6] (fun ov iv wr=>∃(k:Nat) (acc:List UInt8),1<=k/\k<=s.size/\iv= .int .i64 k/\wr.ownsRowF w.heap.size 5 1 ov acc.length (Lib.byteCells acc)/\Below w.heap.size w wr/\Hid (R=comb acc k (unqB (s.data.toList.drop k)))/\acc.length<=k) (fun _ iv _=>s.size - (intOf iv).toNat)
 case atStart=>exact ⟨1,[],by omega,by omega,rfl,⟨rfl,.inl ⟨rfl,rfl⟩⟩,Below.refl _ _,HS.out,by simp⟩
 case round=>
  obtain ⟨k,acc,hk1,hk,rfl,hown,hbw,hacc,hal⟩:=hrel;clear hx0 HS
  by_cases hlt:k < s.size
  ·obtain ⟨b,hbe⟩:∃b,s[k].toNat=b:=⟨_,rfl⟩;have hb256:b < 256:=by rw [<-hbe];exact s[k].toNat_lt
   have hx:∀u:World,(Instr.index 9 (.string s) (.int .i64 (k:Int))).run Tryz.prog u= .ok (.int .u8 b) u:=fun u=>run_byte s k hlt b hbe u
   have hne:=drop_ne hlt;have hg:((s.data.toList.drop k).getD 0 0).toNat=b:=by rw [Lib.getD_dropU,Nat.add_zero,<-byte_getD s k hlt];exact hbe
   by_cases h34:b=34
   ·subst h34
    have HE:Hid (R=(acc,k+1,true)):=by
     show _=_;rw [hacc.out,unqB_end hne (by rw [dec_byte (by omega),hg])];simp [comb]
    have hcv:=run_conv_own hown;clear hacc hne hg hbe
    go_wp2_with fail
    go_ret3
    exact ⟨by rw [HE.out];exact three rfl (by simp) rfl,hbw⟩
   have k34:((b:Int)==34)=false:=by simp;omega
   by_cases hlow:b < 32
   ·have HE:Hid (R=([],0,false)):=by
     show _=_;have hd:=dec_byte (l:=s.data.toList.drop k) (by omega);rw [hg] at hd;rw [hacc.out,unqB_low hne (by rw [hd];omega) (by rw [hd];omega) (.inl (by rw [hd];omega))]
     rfl
    clear hacc hne hg hbe
    go_wp2_with fail
    go_ret3
    exact ⟨by rw [HE.out];rfl,hbw⟩
   have klow:decide ((b:Int) < 32)=false:=decide_eq_false (by omega)
   by_cases h92:b=92
   ·subst h92;have e92:s[k]=92:=UInt8.toNat_inj.1 (by rw [hbe];rfl);have RE:=Lib.hid (fun u=>resc_any s k u (by omega) hlt e92);have hd:(Lib.decodeL (s.data.toList.drop k)).1=92:=by rw [dec_byte (by omega),hg]
    by_cases hz:(escL (s.data.toList.drop k)).2=0
    ·have HE:Hid (R=([],0,false)):=by
      show _=_;rw [hacc.out,unqB_esc0 hne hd hz]
      rfl
     have RN:Hid (∀u,Calls Tryz.prog 166 #[.string s,.int .i64 ((k:Int)+1)] u fun e w'=>e= .returned (.tuple #[.slice none 0 0,.int .i64 0])/\w'=u):=fun u=>(RE.out u).mono fun e w' he=>by
      rcases he with ⟨_,h1,h2⟩ | ⟨h1,_⟩
      ·exact ⟨h1,h2⟩
      ·exact absurd hz h1
     clear hacc hne hg hbe e92 RE hd hz
     go_wp2_with (go_at_call 166;(with_reducible refine (RN.out _).mono ?_);rintro e w' ⟨rfl,rfl⟩)
     go_ret3
     exact ⟨by rw [HE.out];rfl,hbw⟩
    ·obtain ⟨f1,f2,f3,f4⟩:=escL_facts (l:=s.data.toList.drop k) (by omega) hz;have f5:=escL_ge2 hz
     have HE:Hid (R=comb (acc++enc (escL (s.data.toList.drop k)).1) (k+(escL (s.data.toList.drop k)).2) (unqB (s.data.toList.drop (k+(escL (s.data.toList.drop k)).2)))):=by
      show _=_;rw [hacc.out,unqB_esc hne hd hz,comb_map,List.drop_drop]
     have RN:Hid (∀u:World,Calls Tryz.prog 166 #[.string s,.int .i64 ((k:Int)+1)] u fun e w'=>e= .returned (.tuple #[.slice (some ⟨u.heap.size,0,none⟩) (enc (escL (s.data.toList.drop k)).1).length (enc (escL (s.data.toList.drop k)).1).length,.int .i64 (((escL (s.data.toList.drop k)).2:Int) - 1)])/\w'=u.alloc (.cells (Lib.byteCells (enc (escL (s.data.toList.drop k)).1)).toArray 5)):=fun u=>(RE.out u).mono fun e w' he=>by
      rcases he with ⟨h1,_⟩ | ⟨_,h1,h2⟩
      ·exact absurd h1 hz
      ·exact ⟨h1,h2⟩
     have hlen:=(enc_len (escL (s.data.toList.drop k)).1).2;rw [List.length_drop,sz] at f2;generalize enc (escL (s.data.toList.drop k)).1=E at *;generalize (escL (s.data.toList.drop k)).2=n at *;have kz:(((n:Int) - 1)==0)=false:=(by simp;omega);clear hacc hne hg hbe e92 RE hd hz f1 f3
     go_wp2_with (first
      | (go_at_call 166;(with_reducible refine (RN.out _).mono ?_);rintro e w' ⟨rfl,rfl⟩)
      | (at_builtin;refine wpList_append_ownF _ rfl _ _ 77 rfl w.heap.size 5 i0 (.int .u8 0) 1 1 Tryz.underlying77 hi hz0 hz1 hz2 rfl (by decide) _ _ _ rfl (hown.alloc _) ⟨wr.heap.size,0,none⟩ E.length E.length (Lib.byteCells E) rfl ?c0 ?c1 ?c2 ?c3 ?c4 ?c5 ?_))
     case c0=>rw [Lib.byteCells_length];omega
     case c1=>
      intro j u hj;rw [show (⟨wr.heap.size,0,none⟩:Addr).add j=⟨wr.heap.size,j,none⟩ by simp [Addr.add];omega,Lib.cell_of_heap (heap_alloc_new wr _)]
      simpa using hj
     case c2=>
      intro u hu;obtain ⟨x,_,rfl⟩:=List.mem_map.1 hu
      rfl
     case c3=>unfold maxLen;omega
     case c4=>omega
     case c5=>have:=hbw.size;simp;omega
     intro v' w2 hown' hgrow _;rw [cells_more] at hown';have hbw2:Below w.heap.size w w2:=(hbw.alloc hbw.size _).grown hgrow (by have:=hbw.size;simp;omega) (fun k hk=>(hown.lt k hk).1)
     go_wp2_with fail
     go_roundw
     case rel=>exact ⟨k+n,acc++E,by omega,by omega,by go_num,by rw [List.length_append];exact hown',hbw2,HE.out,by rw [List.length_append];omega⟩
     case measure=>simp [intOf];omega
   have k92:((b:Int)==92)=false:=by simp;omega
   have RO:=Lib.hid (fun u=>rone_any s k u (by omega) hlt)
   have hr:(Lib.decodeL (s.data.toList.drop k)).1≠34/\(Lib.decodeL (s.data.toList.drop k)).1≠92/\32<=(Lib.decodeL (s.data.toList.drop k)).1:=by
    by_cases hb:b < 128
    ·rw [dec_byte (by omega),hg];omega
    ·have:=dec_other (l:=s.data.toList.drop k) (by omega)
     omega
   cases hbd:badB (s.data.toList.drop k) with
   | true=>
     have HE:Hid (R=([],0,false)):=by
      show _=_;rw [hacc.out,unqB_low hne hr.1 hr.2.1 (.inr hbd)]
      rfl
     rw [(oneL_zero hne).2 hbd] at RO;clear hacc hne hg hbe hr hbd
     go_wp2_with (go_at_call 158;(with_reducible refine (RO.out _).mono ?_);rintro e w' ⟨rfl,rfl⟩)
     go_ret3
     exact ⟨by rw [HE.out];rfl,hbw⟩
   | false=>
     obtain ⟨g1,g2,g3,g4,g5⟩:=good_front hne hbd
     have HT:Hid (enc (Lib.decodeL (s.data.toList.drop k)).1=(s.data.toList.drop k).take (Lib.decodeL (s.data.toList.drop k)).2):=by
      show _=_;have:=congrArg (List.take (Lib.decodeL (s.data.toList.drop k)).2) g3;rw [List.take_append_of_le_length (by omega),List.take_of_length_le (l:=enc _) (by omega)] at this;exact this.symm
     have HE:Hid (R=comb (acc++enc (Lib.decodeL (s.data.toList.drop k)).1) (k+(Lib.decodeL (s.data.toList.drop k)).2) (unqB (s.data.toList.drop (k+(Lib.decodeL (s.data.toList.drop k)).2)))):=by
      show _=_;rw [hacc.out,unqB_plain hne hr.1 hr.2.1 hr.2.2 hbd,comb_map,List.drop_drop]
     rw [oneL_pos hbd] at RO;rw [HT.out] at HE;rw [List.length_drop,sz] at g5;generalize (Lib.decodeL (s.data.toList.drop k)).2=n at *;have HC:=Lib.hid (take_cells s k n);have hsx:=extract_size s k n (by omega);have htl:((s.data.toList.drop k).take n).length=n:=(by rw [List.length_take,List.length_drop,sz];omega);have kz:((n:Int)==0)=false:=(by simp;omega);generalize (s.data.toList.drop k).take n=E at *;clear hacc hne hg hbe hr hbd g1 g2 g3 HT;have HSX:=Lib.hid hsx;have HTL:=Lib.hid htl;clear hsx htl
     go_wp2_with (first
      | (go_at_call 158;(with_reducible refine (RO.out _).mono ?_);rintro e w' ⟨rfl,rfl⟩)
      | (at_builtin;refine Lib.wpList_append_own_stringF _ rfl _ _ 77 9 rfl w.heap.size 5 i0 Tryz.underlying77 Tryz.underlying9 hi hz0 hz1 hz2 _ _ _ rfl hown (s.extract k (k+n)) rfl ?c3 ?c4 ?c5 ?_))
     case c3=>rw [HSX.out];unfold maxLen;omega
     case c4=>rw [HSX.out];omega
     case c5=>exact hbw.size
     intro v' w2 hown' hgrow _;have hm:min (k+n) s.size - k=n:=(by omega);rw [HC.out,cells_more,hm] at hown';clear hm;have hbw2:Below w.heap.size w w2:=hbw.grown hgrow hbw.size (fun k hk=>(hown.lt k hk).1)
     go_wp2_with fail
     go_roundw
     case rel=>exact ⟨k+n,acc++E,by omega,by omega,by go_num,by rw [List.length_append,HTL.out];exact hown',hbw2,HE.out,by have:=HTL.out;rw [List.length_append];omega⟩
     case measure=>simp [intOf];omega
  ·have HE:Hid (R=([],0,false)):=by
    show _=_;rw [hacc.out,drop_end hlt,unqB_nil];rfl
   clear hacc
   go_wp2_with fail
   go_ret3
   exact ⟨by rw [HE.out];rfl,hbw⟩
theorem runq_any (s:ByteArray) (w:World) (hs:s.size<=10000000):Calls Tryz.prog 146 #[.string s] w (Ret (unqV (unqS s.data.toList)) w):=by
 by_cases h2:s.size < 2
 ·exact runq_no s w hs (.inl h2)
 ·cases h:Lib.hasPrefix s.data.toList [34] with
  | false=>exact runq_no s w hs (.inr h)
  | true=>exact runq_yes s w hs (by omega) h
end Go.Proofs.YtclghelocglnlaaGreatDoor.Quo
