import Derived.Laws.BitsAllLaws
import Derived.Test.YtclghelocglnlaaGreatDoorChecked
import Derived.WalkKit
import Derived.BigCall
import Derived.Lib.Hide
import Derived.Below
import Derived.ProofKit
import Derived.Deep.QuietTactic
import Derived.RegionTactic
import Derived.Laws.DeepStrings4
import Derived.Lib.QuietBelow
set_option maxHeartbeats 0
set_option maxRecDepth 100000
set_option linter.all false
namespace Go.Proofs.YtclghelocglnlaaGreatDoor.Se
def stepS (h:Nat) (b:UInt8):Nat:=16777619 * (h ^^^ b.toNat) % 4294967296
def sumF (h:Nat) (l:List UInt8):Nat:=l.foldl stepS h
def sumS (l:List UInt8):Nat:=sumF 2166136261 l
theorem stepS_lt (h:Nat) (b:UInt8):stepS h b < 4294967296:=Nat.mod_lt _ (by decide)
theorem sumF_lt {h:Nat} (hh:h < 4294967296):∀l:List UInt8,sumF h l < 4294967296
 | []=>hh
 | b::l=>sumF_lt (stepS_lt h b) l
theorem first_lt:2166136261 < 4294967296:=by omega
theorem sumS_lt (l:List UInt8):sumS l < 4294967296:=by
 unfold sumS;exact sumF_lt first_lt l
theorem sumF_app (h:Nat) (a b:List UInt8):sumF h (a++b)=sumF (sumF h a) b:=List.foldl_append
theorem sumS_snoc (a:List UInt8) (b:UInt8):sumS (a++ [b])=stepS (sumS a) b:=by
 unfold sumS;generalize 2166136261=h;rw [sumF_app]
 rfl
def hexB (n:Nat):UInt8:= [48,49,50,51,52,53,54,55,56,57,97,98,99,100,101,102].getD n 0
def digL:Nat->Nat->List UInt8
 | 0,_=> []
 | k+1,n=>digL k (n / 16)++ [hexB (n % 16)]
theorem digL_len:∀(k n:Nat),(digL k n).length=k
 | 0,_=>rfl
 | k+1,n=>by rw [digL,List.length_append,digL_len k];rfl
theorem digL_more:∀(k n:Nat),digL (k+1) n=hexB (n / 16 ^ k % 16)::digL k n
 | 0,n=>by simp [digL]
 | k+1,n=>by
   rw [digL,digL_more k (n / 16),digL,Nat.div_div_eq_div_mul,show 16 * 16 ^ k=16 ^ (k+1) by rw [Nat.pow_succ,Nat.mul_comm]]
   rfl
def tailS (l:List UInt8):List UInt8:=35::digL 8 (sumS l)
def sealS (l:List UInt8):List UInt8:=l++tailS l
def openS (s:List UInt8):Option (List UInt8):=if 9<=s.length/\s.drop (s.length - 9)=tailS (s.take (s.length - 9)) then some (s.take (s.length - 9)) else none
theorem tailS_len (l:List UInt8):(tailS l).length=9:=by simp [tailS,digL_len]
theorem sealS_len (l:List UInt8):(sealS l).length=l.length+9:=by rw [sealS,List.length_append,tailS_len]
theorem openS_app {u t:List UInt8} (ht:t.length=9):openS (u++t)=if t=tailS u then some u else none:=by
 unfold openS;have e:(u++t).length - 9=u.length:=by rw [List.length_append];omega
 rw [e,List.drop_left,List.take_left]
 by_cases h:t=tailS u
 ·rw [if_pos h,if_pos ⟨by rw [List.length_append];omega,h⟩]
 ·rw [if_neg h,if_neg (fun k=>h k.2)]
theorem open_seal (l:List UInt8):openS (sealS l)=some l:=by
 rw [sealS,openS_app (tailS_len l),if_pos rfl]
theorem seal_open {s u:List UInt8} (h:openS s=some u):sealS u=s:=by
 unfold openS at h
 split at h
 ·next k=>
  injection h with h
  subst h;rw [sealS,<-k.2,List.take_append_drop]
 ·cases h
theorem open_short {s:List UInt8} (h:s.length < 9):openS s=none:=by
 unfold openS;rw [if_neg (fun k=>by omega)]
end Go.Proofs.YtclghelocglnlaaGreatDoor.Se
namespace Go.Proofs.YtclghelocglnlaaGreatDoor.Se
open Go.RowKit
def Ret (v:Value) (w:World) (e:Ending) (w':World):Prop:=e= .returned v/\Below w.heap.size w w'
theorem ret_int {k:IntKind} {a b:Int} (h:a=b):Ending.returned (.int k a)= .returned (.int k b):=by rw [h]
theorem ret_bool {a b:Bool} (h:a=b):Ending.returned (.bool a)= .returned (.bool b):=by rw [h]
theorem ret_str {a b:ByteArray} (h:a=b):Ending.returned (.string a)= .returned (.string b):=by rw [h]
theorem bs_append (a b:List UInt8):(⟨a.toArray⟩++⟨b.toArray⟩:ByteArray)=⟨(a++b).toArray⟩:=by
 apply ByteArray.ext;simp
theorem bs_size (F:List UInt8):(⟨F.toArray⟩:ByteArray).size=F.length:=List.size_toArray
theorem bs_self (s:ByteArray):s=⟨s.data.toList.toArray⟩:=by apply ByteArray.ext;simp
theorem sz (s:ByteArray):s.data.toList.length=s.size:=by rw [Array.length_toList];rfl
theorem bs_take (F:List UInt8) (p:Nat):(⟨F.toArray⟩:ByteArray).extract 0 p=⟨(F.take p).toArray⟩:=by
 apply ByteArray.ext;simp
theorem ext_drop (s:ByteArray) (p:Nat):(s.extract p s.size).data.toList=s.data.toList.drop p:=by
 rw [ByteArray.data_extract,Array.toList_extract];simp only [List.extract];exact List.take_of_length_le (by rw [List.length_drop,Array.length_toList];exact Nat.le_refl _)
theorem bs_drop (F:List UInt8) (p:Nat):(⟨F.toArray⟩:ByteArray).extract p F.length=⟨(F.drop p).toArray⟩:=by
 rw [bs_self (ByteArray.extract _ _ _)];have:=ext_drop ⟨F.toArray⟩ p;rw [bs_size] at this;rw [this]
theorem take_at {s:ByteArray} {k:Nat} (h:k < s.size):s.data.toList.take (k+1)=s.data.toList.take k++ [s[k]]:=by
 rw [List.take_add_one,List.getElem?_eq_getElem (by rw [sz];exact h)];rfl
def pickS (c n:Int):Int:=(if c < 0 then -(c+1) else c) % n
theorem pickS_nonneg {c n:Int} (h:0 < n):0<=pickS c n:=Int.emod_nonneg _ (by omega)
theorem pickS_lt {c n:Int} (h:0 < n):pickS c n < n:=Int.emod_lt_of_pos _ h
theorem xor_u32 (h:Nat) (b:UInt8) (hh:h < 4294967296):bits .xor .u32 (h:Int) (b.toNat:Int)=((h ^^^ b.toNat:Nat):Int):=
 u32_xor_nat h b.toNat hh (Nat.lt_trans b.toNat_lt (by decide))
theorem step_u32 (h:Nat) (b:UInt8) (hh:h < 4294967296):bits .xor .u32 (h:Int) ((b.toNat:Int) % 4294967296) * 16777619 % 4294967296=((stepS h b:Nat):Int):=by
 have:=b.toNat_lt;rw [show ((b.toNat:Int) % 4294967296)=(b.toNat:Int) by omega,xor_u32 h b hh];unfold stepS
 omega
theorem run_byte (s:ByteArray) (k:Nat) (h:k < s.size) (c:Nat) (hc:s[k].toNat=c) (u:World):(Instr.index 9 (.string s) (.int .i64 (k:Int))).run Tryz.prog u= .ok (.int .u8 c) u:=by
 rw [run_index_string _ _ _ _ _ Tryz.underlying9];have e1:((k:Int)).toNat=k:=Int.toNat_natCast k;simp [h,hc]
theorem sum_any (s:ByteArray) (w:World) (hs:s.size<=281474976710656):
 Calls Tryz.prog 65 #[.string s] w (fun e w'=>e= .returned (.int .u32 (sumS s.data.toList))/\w=w'):=by
 go_enter Tryz.func65,Tryz.ntmps65
 go_wp2
 go_loop [3,7] (fun h i=>∃k H:Nat,k<=s.size/\i= .int .i64 k/\h= .int .u32 H/\Hid (H=sumS (s.data.toList.take k))) (fun _ i=>s.size - (intOf i).toNat)
 case atStart=>exact ⟨0,2166136261,Nat.zero_le _,rfl,rfl,rfl⟩
 case round=>
  obtain ⟨k,H,hk,rfl,rfl,HK⟩:=hrel
  by_cases hlt:k < s.size
  ·have hx:∀u:World,(Instr.index 9 (.string s) (.int .i64 k)).run Tryz.prog u= .ok (.int .u8 s[k].toNat) u:=run_byte s k hlt s[k].toNat rfl;have HD:=Lib.hid (take_at hlt);generalize hc:s[k]=c at *;have HX:=Lib.hid (step_u32 H c (by rw [HK.out];exact sumS_lt _))
   go_wp2_with fail
   go_round
   case rel=>exact ⟨k+1,stepS H c,by omega,by go_num,by rw [HX.out],by show _=_;rw [HD.out,sumS_snoc,HK.out]⟩
   case measure=>simp [intOf];omega
  ·have HE:Hid (H=sumS s.data.toList):=by
    show _=_;rw [HK.out,List.take_of_length_le (by rw [sz];omega)]
   go_wp2_with fail
   go_ret
   exact ⟨ret_int (by rw [HE.out]),rfl⟩
theorem rsum_any (s:ByteArray) (w:World) (hs:s.size<=281474976710656):
 Calls Tryz.prog 58 #[.string s] w (fun e w'=>e= .returned (.int .u32 (sumS s.data.toList))/\w=w'):=by
 go_enter Tryz.func58,Tryz.ntmps58
 go_wp2
 go_loop [3,4] (fun h i=>∃k H:Nat,k<=s.size/\i= .int .i64 k/\h= .int .u32 H/\Hid (H=sumS (s.data.toList.take k))) (fun _ i=>s.size - (intOf i).toNat)
 case atStart=>exact ⟨0,2166136261,Nat.zero_le _,rfl,rfl,rfl⟩
 case round=>
  obtain ⟨k,H,hk,rfl,rfl,HK⟩:=hrel
  by_cases hlt:k < s.size
  ·have hx:∀u:World,(Instr.index 9 (.string s) (.int .i64 k)).run Tryz.prog u= .ok (.int .u8 s[k].toNat) u:=run_byte s k hlt s[k].toNat rfl;have HD:=Lib.hid (take_at hlt);generalize hc:s[k]=c at *;have HX:=Lib.hid (step_u32 H c (by rw [HK.out];exact sumS_lt _))
   go_wp2_with fail
   go_round
   case rel=>exact ⟨k+1,stepS H c,by omega,by go_num,by rw [HX.out],by show _=_;rw [HD.out,sumS_snoc,HK.out]⟩
   case measure=>simp [intOf];omega
  ·have HE:Hid (H=sumS s.data.toList):=by
    show _=_;rw [HK.out,List.take_of_length_le (by rw [sz];omega)]
   go_wp2_with fail
   go_ret
   exact ⟨ret_int (by rw [HE.out]),rfl⟩
end Go.Proofs.YtclghelocglnlaaGreatDoor.Se
namespace Go.Proofs.YtclghelocglnlaaGreatDoor.Se
open Go.RowKit
def hexV (n k:Nat):Value:= .int .u8 (hexB (n / 16 ^ k % 16)).toNat
def arrD (n k:Nat):Array Value:=#[if 7 < k then hexV n 7 else .int .u8 0,if 6 < k then hexV n 6 else .int .u8 0,if 5 < k then hexV n 5 else .int .u8 0,if 4 < k then hexV n 4 else .int .u8 0,
 if 3 < k then hexV n 3 else .int .u8 0,if 2 < k then hexV n 2 else .int .u8 0,if 1 < k then hexV n 1 else .int .u8 0,if 0 < k then hexV n 0 else .int .u8 0]
theorem arrD_all (n:Nat):#[hexV n 7,hexV n 6,hexV n 5,hexV n 4,hexV n 3,hexV n 2,hexV n 1,hexV n 0]=((digL 8 n).map fun b=>Value.int .u8 b.toNat).toArray:=by
 rw [digL_more,digL_more,digL_more,digL_more,digL_more,digL_more,digL_more,digL_more]
 rfl
theorem hexG (m:Nat) (hm:m < 16) (h:m < (⟨#[48,49,50,51,52,53,54,55,56,57,97,98,99,100,101,102]⟩:ByteArray).size):(⟨#[48,49,50,51,52,53,54,55,56,57,97,98,99,100,101,102]⟩:ByteArray)[m]=hexB m:=by
 have:m=0∨m=1∨m=2∨m=3∨m=4∨m=5∨m=6∨m=7∨m=8∨m=9∨m=10∨m=11∨m=12∨m=13∨m=14∨m=15:=by omega
 rcases this with rfl | rfl | rfl | rfl | rfl | rfl | rfl | rfl | rfl | rfl | rfl | rfl | rfl | rfl | rfl | rfl <;> rfl
theorem digits_any (n:Nat) (hn:n < 4294967296) (w:World):
 Calls Tryz.prog 64 #[.int .u32 n] w (Ret (.agg ((digL 8 n).map fun b=>Value.int .u8 b.toNat).toArray) w):=by
 rw [<-arrD_all];obtain ⟨x7,e7⟩:∃x:Nat,hexV n 7= .int .u8 (x:Int):=⟨_,rfl⟩;obtain ⟨x6,e6⟩:∃x:Nat,hexV n 6= .int .u8 (x:Int):=⟨_,rfl⟩;obtain ⟨x5,e5⟩:∃x:Nat,hexV n 5= .int .u8 (x:Int):=⟨_,rfl⟩;obtain ⟨x4,e4⟩:∃x:Nat,hexV n 4= .int .u8 (x:Int):=⟨_,rfl⟩;obtain ⟨x3,e3⟩:∃x:Nat,hexV n 3= .int .u8 (x:Int):=⟨_,rfl⟩;obtain ⟨x2,e2⟩:∃x:Nat,hexV n 2= .int .u8 (x:Int):=⟨_,rfl⟩;obtain ⟨x1,e1⟩:∃x:Nat,hexV n 1= .int .u8 (x:Int):=⟨_,rfl⟩;obtain ⟨x0,e0⟩:∃x:Nat,hexV n 0= .int .u8 (x:Int):=⟨_,rfl⟩
 have HA8:Hid (arrD n 8=#[.int .u8 x7,.int .u8 x6,.int .u8 x5,.int .u8 x4,.int .u8 x3,.int .u8 x2,.int .u8 x1,.int .u8 x0]):=by
  show _=_;rw [<-e7,<-e6,<-e5,<-e4,<-e3,<-e2,<-e1,<-e0]
  rfl
 rw [e7,e6,e5,e4,e3,e2,e1,e0];clear e7 e6 e5 e4 e3 e2 e1 e0
 go_enter Tryz.func64,Tryz.ntmps64
 go_wp2
 go_loopw [0,5] (fun m i wr=>∃k:Nat,k<=8/\i= .int .i64 k/\m= .int .u32 ((n / 16 ^ k:Nat):Int)/\(w.alloc (.cells #[.int .u8 0,.int .u8 0,.int .u8 0,.int .u8 0,.int .u8 0,.int .u8 0,.int .u8 0,.int .u8 0] 99)).alloc (.cells (arrD n k) 99)=wr) (fun _ i _=>8 - (intOf i).toNat)
 case atStart=>exact ⟨0,by omega,rfl,by simp,rfl⟩
 case round=>
  obtain ⟨k,hk,rfl,rfl,rfl⟩:=hrel
  by_cases hlt:k < 8
  ·have HM:Hid (n / 16 ^ (k+1)=n / 16 ^ k / 16):=by
    show _=_;rw [Nat.div_div_eq_div_mul,Nat.pow_succ]
   have hM:n / 16 ^ k < 4294967296:=Nat.lt_of_le_of_lt (Nat.div_le_self _ _) hn;have HV:Hid (Value.int .u8 (hexB (n / 16 ^ k % 16)).toNat=hexV n k):=rfl
   have HA:Hid (arrD n (k+1)=(arrD n k).set! (7 - k) (hexV n k)):=by
    show _=_;have:k=0∨k=1∨k=2∨k=3∨k=4∨k=5∨k=6∨k=7:=(by omega);rcases this with rfl | rfl | rfl | rfl | rfl | rfl | rfl | rfl <;> rfl
   obtain ⟨v0,hv0⟩:∃v,(arrD n k)[7 - k]?=some v:=⟨_,Array.getElem?_eq_getElem (show 7 - k < 8 by omega)⟩;generalize n / 16 ^ k=M at *;generalize arrD n k=A at *
   go_wp2_with fail
   go_roundw
   case rel=>
    refine ⟨k+1,by omega,by go_num,by rw [HM.out];go_num,?_⟩;rw [hexG _ (Nat.mod_lt _ (by decide)),HV.out,HA.out];simp
   case measure=>simp [intOf];omega
  ·obtain rfl:k=8:=by omega
   rw [HA8.out]
   go_wp2_with fail
   exact bodyPost_ret (v:= .agg #[.int .u8 x7,.int .u8 x6,.int .u8 x5,.int .u8 x4,.int .u8 x3,.int .u8 x2,.int .u8 x1,.int .u8 x0]) (by simp [results,Tryz.results64,go_sem]) rfl ⟨rfl,((Below.refl _ w).alloc (Nat.le_refl _) _).alloc (by simp) _⟩
theorem digL_eight (n:Nat):∃b7 b6 b5 b4 b3 b2 b1 b0:UInt8,digL 8 n= [b7,b6,b5,b4,b3,b2,b1,b0]:=by
 rw [digL_more,digL_more,digL_more,digL_more,digL_more,digL_more,digL_more,digL_more];exact ⟨_,_,_,_,_,_,_,_,rfl⟩
theorem digits_at (n:Nat) (hn:n < 4294967296) (b7 b6 b5 b4 b3 b2 b1 b0:UInt8) (h:digL 8 n= [b7,b6,b5,b4,b3,b2,b1,b0]) (w:World):
 Calls Tryz.prog 64 #[.int .u32 n] w (Ret (.agg #[.int .u8 b7.toNat,.int .u8 b6.toNat,.int .u8 b5.toNat,.int .u8 b4.toNat,.int .u8 b3.toNat,.int .u8 b2.toNat,.int .u8 b1.toNat,.int .u8 b0.toNat]) w):=by
 have:=digits_any n hn w;rw [h] at this;exact this
theorem run_eight (u:World) (b7 b6 b5 b4 b3 b2 b1 b0:UInt8) (T:TypeId):
 (convert 77 9 (.slice (some ⟨u.heap.size,0,none⟩) 8 8)).run Tryz.prog (u.alloc (.cells #[.int .u8 (b7.toNat:Int),.int .u8 (b6.toNat:Int),.int .u8 (b5.toNat:Int),.int .u8 (b4.toNat:Int),.int .u8 (b3.toNat:Int),.int .u8 (b2.toNat:Int),.int .u8 (b1.toNat:Int),.int .u8 (b0.toNat:Int)] T))= .ok (.string ⟨#[b7,b6,b5,b4,b3,b2,b1,b0]⟩) (u.alloc (.cells #[.int .u8 (b7.toNat:Int),.int .u8 (b6.toNat:Int),.int .u8 (b5.toNat:Int),.int .u8 (b4.toNat:Int),.int .u8 (b3.toNat:Int),.int .u8 (b2.toNat:Int),.int .u8 (b1.toNat:Int),.int .u8 (b0.toNat:Int)] T)):=by
 refine run_convert_bytes_back (P:=Tryz.prog) (u.alloc (.cells #[.int .u8 (b7.toNat:Int),.int .u8 (b6.toNat:Int),.int .u8 (b5.toNat:Int),.int .u8 (b4.toNat:Int),.int .u8 (b3.toNat:Int),.int .u8 (b2.toNat:Int),.int .u8 (b1.toNat:Int),.int .u8 (b0.toNat:Int)] T)) 77 9 5 ⟨u.heap.size,0,none⟩ 8 [b7,b6,b5,b4,b3,b2,b1,b0] Tryz.underlying77 Tryz.underlying5 Tryz.underlying9 (fun j hj=> ?_);have:j=0∨j=1∨j=2∨j=3∨j=4∨j=5∨j=6∨j=7:=by simp at hj;omega
 rcases this with rfl | rfl | rfl | rfl | rfl | rfl | rfl | rfl <;> simp [Addr.add]
theorem tail_any (s:ByteArray) (w:World) (hs:s.size<=281474976710656):
 Calls Tryz.prog 35 #[.string s] w (Ret (.string ⟨(tailS s.data.toList).toArray⟩) w):=by
 obtain ⟨b7,b6,b5,b4,b3,b2,b1,b0,h⟩:=digL_eight (sumS s.data.toList);have C1:=Lib.hid (fun u=>sum_any s u hs);have C2:=Lib.hid (fun u=>digits_at (sumS s.data.toList) (sumS_lt _) _ _ _ _ _ _ _ _ h u);unfold tailS;rw [h];clear h;have R8:=fun u:World=>run_eight u b7 b6 b5 b4 b3 b2 b1 b0 99
 have hR:(⟨#[35]⟩++⟨#[b7,b6,b5,b4,b3,b2,b1,b0]⟩:ByteArray)=⟨#[35,b7,b6,b5,b4,b3,b2,b1,b0]⟩:=by
  apply ByteArray.ext
  rfl
 rw [show (⟨[35,b7,b6,b5,b4,b3,b2,b1,b0].toArray⟩:ByteArray)=⟨#[35,b7,b6,b5,b4,b3,b2,b1,b0]⟩ from rfl];generalize (⟨#[35,b7,b6,b5,b4,b3,b2,b1,b0]⟩:ByteArray)=R at *;have hz0:(⟨#[b7,b6,b5,b4,b3,b2,b1,b0]⟩:ByteArray).size=8:=rfl;generalize (⟨#[b7,b6,b5,b4,b3,b2,b1,b0]⟩:ByteArray)=R0 at *;generalize sumS s.data.toList=n at *
 go_enter Tryz.func35,Tryz.ntmps35
 go_wp2_with (first | (go_at_call 65;(with_reducible refine (C1.out _).mono ?_);rintro e w1 ⟨rfl,rfl⟩) | (go_at_call 64;(with_reducible refine (C2.out _).mono ?_);rintro e w1 ⟨rfl,hb1⟩))
 go_ret
 exact ⟨rfl,hb1.alloc hb1.size _⟩
theorem seal_any (s:ByteArray) (w:World) (hs:s.size<=281474976710656):
 Calls Tryz.prog 15 #[.string s] w (Ret (.string ⟨(sealS s.data.toList).toArray⟩) w):=by
 have C1:=Lib.hid (fun u=>tail_any s u hs)
 have HR:Hid (s++(⟨(tailS s.data.toList).toArray⟩:ByteArray)=⟨(sealS s.data.toList).toArray⟩):=by
  show _=_
  conv=>lhs;rw [bs_self s]
  rw [bs_append];simp [sealS]
 have hz0:(⟨(tailS s.data.toList).toArray⟩:ByteArray).size=9:=by rw [bs_size,tailS_len]
 generalize (⟨(tailS s.data.toList).toArray⟩:ByteArray)=T at *;generalize (⟨(sealS s.data.toList).toArray⟩:ByteArray)=Q at *
 go_enter Tryz.func15,Tryz.ntmps15
 go_wp2_with (go_at_call 35;(with_reducible refine (C1.out _).mono ?_);rintro e w1 ⟨rfl,hb1⟩)
 go_ret
 exact ⟨ret_str HR.out,hb1⟩
theorem mixed6:Tryz.prog.follows .mixedOrders=true:=by kernel_rfl
def openV:Option (List UInt8)->Value
 | some u=> .tuple #[.string ⟨u.toArray⟩,.int .i64 0]
 | none=> .tuple #[.string ⟨#[]⟩,.int .i64 60]
theorem open_two (L:List UInt8) (h:9<=L.length):openS L=if L.drop (L.length - 9)=tailS (L.take (L.length - 9)) then some (L.take (L.length - 9)) else none:=by
 unfold openS
 by_cases k:L.drop (L.length - 9)=tailS (L.take (L.length - 9))
 ·rw [if_pos ⟨h,k⟩,if_pos k]
 ·rw [if_neg (fun x=>k x.2),if_neg k]
theorem tl_eq (a:List UInt8):(⟨a.toArray⟩:ByteArray).toList=a:=by
 rw [ByteArray.toList_eq]
theorem open_any (L:List UInt8) (w:World) (hs:L.length<=281474976710656):
 Calls Tryz.prog 36 #[.string ⟨L.toArray⟩] w (Ret (openV (openS L)) w):=by
 obtain ⟨n,hn⟩:∃n,n=L.length:=⟨_,rfl⟩;have HS:Hid ((⟨L.toArray⟩:ByteArray).size=n):=by show _=_;rw [bs_size,hn]
 have hsz:(⟨L.toArray⟩:ByteArray).size=n:=HS.out;have hn2:n<=281474976710656:=by omega
 by_cases h9:n < 9
 ·rw [open_short (by omega)];unfold openV;have ht:((n:Int) - 1 - 8 < 0):=by omega
  clear hn HS hs;generalize (⟨L.toArray⟩:ByteArray)=s at *;have HC:Hid (∀w':World,Below w.heap.size w w'->True):=fun _ _=>trivial
  go_enter Tryz.func36,Tryz.ntmps36
  go_wp2_with fail
  refine wp_region_quiet_below mixed6 (by kernel_rfl) ?_
  repeat (quiet_step (fail))
  refine wpQuiet_nil ?_;intro _ hw';obtain ⟨⟨dq,osq⟩,hw''⟩:=hw';subst hw'';have HB:=Lib.hid (below_regrown w dq osq)
  go_wp2_with fail
  go_ret2
  exact ⟨rfl,HB.out⟩
 ·rw [open_two L (by omega)];obtain ⟨c,rfl⟩:∃c,n=c+9:=⟨n - 9,by omega⟩;have e9:L.length - 9=c:=by omega
  rw [e9];have tl:(L.take c).length=c:=by rw [List.length_take];omega
  have HT:Hid ((⟨L.toArray⟩:ByteArray).extract 0 c=⟨(L.take c).toArray⟩):=bs_take L c
  have HD:Hid ((⟨L.toArray⟩:ByteArray).extract c (c+9)=⟨(L.drop c).toArray⟩):=by
   show _=_;rw [hn];exact bs_drop L c
  have C1:=Lib.hid (fun (dd:Nat) (os:Array Obj)=>Calls.regrown_of (w:=w) (d:=dd) (os:=os) (tail_any (⟨(L.take c).toArray⟩) _ (by rw [bs_size];omega)));have ht:¬((((c:Int)+9 - 1 - 8) < 0)):=by omega
  have hq:((c:Int)+9 - 1 - 8)=(c:Int):=by omega
  have hc0:¬((c:Int) < 0):=by omega
  have hdec:decide ((c:Int) < 0)=false:=by simp
  by_cases heq:L.drop c=tailS (L.take c)
  ·rw [if_pos heq];show Calls _ _ _ _ (Ret (.tuple #[.string ⟨(L.take c).toArray⟩,.int .i64 0]) w);rw [<-heq] at C1;generalize (L.take c)=U at *;generalize (L.drop c)=D at *;clear hn HS hs e9 tl h9 heq;generalize (⟨L.toArray⟩:ByteArray)=s at *;generalize (⟨U.toArray⟩:ByteArray)=u at *;generalize (⟨D.toArray⟩:ByteArray)=d at *
   have hT:∀w',(Instr.slice 9 (.string s) none (some (.int .i64 (c:Int))) none).run Tryz.prog w'= .ok (.string u) w':=fun w'=>by
    rw [run_slice_string_h w' 9 s Tryz.underlying9 .i64 c (by omega) (by omega),Int.toNat_natCast,HT.out]
   have hD:∀w',(Instr.slice 9 (.string s) (some (.int .i64 (c:Int))) none none).run Tryz.prog w'= .ok (.string d) w':=fun w'=>by
    rw [run_slice_string_l w' 9 s Tryz.underlying9 .i64 c (by omega) (by omega),Int.toNat_natCast,hsz,HD.out]
   go_enter Tryz.func36,Tryz.ntmps36
   go_wp2_with fail
   refine wp_region_quiet_below mixed6 (by kernel_rfl) ?_
   repeat (quiet_step (with_reducible exact C1.out _ _))
   refine wpQuiet_nil ?_;intro _ hw';obtain ⟨⟨dq,osq⟩,hw''⟩:=hw';subst hw'';have HB:=Lib.hid (below_regrown w dq osq)
   go_wp2_with fail
   go_ret2
   exact ⟨rfl,HB.out⟩
  ·rw [if_neg heq];show Calls _ _ _ _ (Ret (.tuple #[.string ⟨#[]⟩,.int .i64 60]) w)
   have hne:((⟨(L.drop c).toArray⟩:ByteArray).toList==(⟨(tailS (L.take c)).toArray⟩:ByteArray).toList)=false:=by
    rw [tl_eq,tl_eq]
    simpa using heq
   generalize tailS (L.take c)=T at *;generalize (L.take c)=U at *;generalize (L.drop c)=D at *;clear hn HS hs e9 tl h9 heq;generalize (⟨L.toArray⟩:ByteArray)=s at *;generalize (⟨U.toArray⟩:ByteArray)=u at *;generalize (⟨D.toArray⟩:ByteArray)=d at *;generalize (⟨T.toArray⟩:ByteArray)=t at *
   have hT:∀w',(Instr.slice 9 (.string s) none (some (.int .i64 (c:Int))) none).run Tryz.prog w'= .ok (.string u) w':=fun w'=>by
    rw [run_slice_string_h w' 9 s Tryz.underlying9 .i64 c (by omega) (by omega),Int.toNat_natCast,HT.out]
   have hD:∀w',(Instr.slice 9 (.string s) (some (.int .i64 (c:Int))) none none).run Tryz.prog w'= .ok (.string d) w':=fun w'=>by
    rw [run_slice_string_l w' 9 s Tryz.underlying9 .i64 c (by omega) (by omega),Int.toNat_natCast,hsz,HD.out]
   go_enter Tryz.func36,Tryz.ntmps36
   go_wp2_with fail
   refine wp_region_quiet_below mixed6 (by kernel_rfl) ?_
   repeat (quiet_step (with_reducible exact C1.out _ _))
   refine wpQuiet_nil ?_;intro _ hw';obtain ⟨⟨dq,osq⟩,hw''⟩:=hw';subst hw'';have HB:=Lib.hid (below_regrown w dq osq)
   go_wp2_with fail
   go_ret2
   exact ⟨rfl,HB.out⟩
end Go.Proofs.YtclghelocglnlaaGreatDoor.Se
namespace Go.Proofs.YtclghelocglnlaaGreatDoor.Se
open Go.RowKit
theorem seal_l (L:List UInt8) (w:World) (hs:L.length<=281474976710656):
 Calls Tryz.prog 15 #[.string ⟨L.toArray⟩] w (Ret (.string ⟨(sealS L).toArray⟩) w):=by
 have:=seal_any ⟨L.toArray⟩ w (by rw [bs_size];exact hs);exact this
theorem open_some {L U:List UInt8} (h:openS L=some U) (w:World) (hs:L.length<=281474976710656):
 Calls Tryz.prog 36 #[.string ⟨L.toArray⟩] w (Ret (.tuple #[.string ⟨U.toArray⟩,.int .i64 0]) w):=by
 have:=open_any L w hs;rw [h] at this;exact this
theorem open_none {L:List UInt8} (h:openS L=none) (w:World) (hs:L.length<=281474976710656):
 Calls Tryz.prog 36 #[.string ⟨L.toArray⟩] w (Ret (.tuple #[.string ⟨#[]⟩,.int .i64 60]) w):=by
 have:=open_any L w hs;rw [h] at this;exact this
theorem str_ne {a b:List UInt8} (h:a≠b):((⟨a.toArray⟩:ByteArray).toList==(⟨b.toArray⟩:ByteArray).toList)=false:=by
 rw [tl_eq,tl_eq]
 simpa using h
end Go.Proofs.YtclghelocglnlaaGreatDoor.Se
