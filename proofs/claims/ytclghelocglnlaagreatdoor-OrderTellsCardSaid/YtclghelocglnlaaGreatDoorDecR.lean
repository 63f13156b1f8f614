import Derived.Test.YtclghelocglnlaaGreatDoorDecB
import Derived.Laws.IdiomStrings
import Derived.Deep.DeepCutAuto
import Derived.Deep.CutRange
import Derived.Laws.DeepStrings4
set_option maxHeartbeats 0
set_option maxRecDepth 100000
set_option linter.all false
namespace Go.Proofs.YtclghelocglnlaaGreatDoor.Dec
def sv (m e:Int):Int:=m * 10 ^ (e+9).toNat
def cmpD (m e m' e':Int):Int:=if rightB m e=true/\rightB m' e'=true then cmpI (sv m e) (sv m' e') else 0
def addS (m e m' e':Int):Int×Int×Bool:=if rightB m e=true/\rightB m' e'=true then mk (sv m e+sv m' e') (-9) else (0,0,false)
def LastNZ (B:List UInt8):Prop:=B= []∨∃r c,B=r++ [c]/\c≠48
def fv (N:Nat) (A:List UInt8):Nat:=valD A * 10 ^ (N - A.length)
def cmpS (A B:List UInt8):Int:=if Op.bytesLess A B=true then -1 else if Op.bytesLess B A=true then 1 else 0
def sizeS (m e m' e':Int):Int:=
 if cmpI ((Lib.decDigits m.natAbs).length+e) ((Lib.decDigits m'.natAbs).length+e')≠0 then cmpI ((Lib.decDigits m.natAbs).length+e) ((Lib.decDigits m'.natAbs).length+e')
 else cmpS (Lib.decDigits m.natAbs) (Lib.decDigits m'.natAbs)
end Go.Proofs.YtclghelocglnlaaGreatDoor.Dec
namespace Go.Proofs.YtclghelocglnlaaGreatDoor.Dec
open Go.RowKit Go.Sort
end Go.Proofs.YtclghelocglnlaaGreatDoor.Dec
namespace Go.Proofs.YtclghelocglnlaaGreatDoor.Dec
open Go.RowKit Go.Sort
def strOf:Value->ByteArray | .string s=>s | _=>⟨#[]⟩
theorem conv_int (W:World) (y:Int) (h0:0<=y) (h1:y < 10) (cap:Nat):
 (convert 77 9 (.slice (some ⟨W.heap.size,0,none⟩) 1 cap)).run Tryz.prog (W.alloc (.cells #[.int .u8 (48+y)] 5))= .ok (.string ⟨[UInt8.ofNat (48+y.toNat)].toArray⟩) (W.alloc (.cells #[.int .u8 (48+y)] 5)):=by
 have hb:((UInt8.ofNat (48+y.toNat)).toNat:Int)=48+y:=by
  have:(UInt8.ofNat (48+y.toNat)).toNat=48+y.toNat:=by simp;omega
  omega
 have:=run_convert_bytes_back (P:=Tryz.prog) (W.alloc (.cells #[.int .u8 (48+y)] 5)) 77 9 5 ⟨W.heap.size,0,none⟩ cap [UInt8.ofNat (48+y.toNat)] Tryz.underlying77 Tryz.underlying5 Tryz.underlying9 (fun j hj=>by
  have hj0:j=0:=by simp at hj;omega
  subst hj0;simp only [List.getElem_cons_zero];rw [hb];simp [Addr.add])
 exact this
theorem text_int (N:Nat):∀(n:Int) (w:World),0<=n->n.toNat < N->n<=1000000000000000000->
 Calls Tryz.prog 126 #[.int .i64 n] w (Ret (.string ⟨(Lib.decDigits n.toNat).toArray⟩) w):=by
 induction N with
 | zero=>intro n w h0 hN;omega
 | succ N ih=>
   intro n w h0 hN h1;have hd:n % 10 < 10:=by omega
   have hd0:0<=n % 10:=by omega
   have hcv:=conv_int w (n % 10) hd0 hd 1;have HCV:=Lib.hid hcv;have IH:=Lib.hid ih;clear hcv ih;have hcs:Hid (UInt8.ofNat (48+(n % 10).toNat)=UInt8.ofNat (48+n.toNat % 10)):=by show _=_;rw [show (n % 10).toNat=n.toNat % 10 by omega]
   generalize hcc:UInt8.ofNat (48+(n % 10).toNat)=c at *;have HCC:=Lib.hid hcc;clear hcc
   by_cases h10:10<=n
   ·have hr:Lib.decDigits n.toNat=Lib.decDigits (n / 10).toNat++ [c]:=by
     rw [Lib.decDigits,dif_neg (by omega),hcs.out,show (n / 10).toNat=n.toNat / 10 by omega]
    rw [hr]
    have hl:(Lib.decDigits (n / 10).toNat).length<=40:=by
     rw [Lib.decDigits_length];have:=nDigits_le 18 (n / 10).toNat (by omega)
     omega
    clear hcs HCC hr
    go_enter Tryz.func126,Tryz.ntmps126
    go_wp2_with fail
    rw [HCV.out];clear HCV
    go_wp2_with fail
    (with_reducible refine (IH.out _ _ (by omega) (by omega) (by omega)).mono ?_)
    rintro e1 w1 ⟨rfl,hb⟩;have hbb:=below_call hb;clear hb IH;generalize Lib.decDigits (n / 10).toNat=L at *
    go_wp2_with fail
    go_ret
    exact ⟨ret_str (bs_append L [c]),hbb⟩
   ·have hr:Lib.decDigits n.toNat= [c]:=by
     rw [Lib.decDigits,dif_pos (by omega),<-HCC.out,show (n % 10).toNat=n.toNat by omega]
    rw [hr];clear hcs HCC hr IH
    go_enter Tryz.func126,Tryz.ntmps126
    go_wp2_with fail
    rw [HCV.out];clear HCV
    go_wp2_with fail
    go_ret
    exact ⟨rfl,(Below.refl _ _).alloc (Nat.le_refl _) _⟩
theorem zeros_snoc' (j:Nat):zeros (j+1)=zeros j++ [48]:=by unfold zeros;rw [List.replicate_succ']
theorem app_data' (a b:ByteArray):(a++b).data.toList=a.data.toList++b.data.toList:=by simp
theorem ba_eq {a:ByteArray} {l:List UInt8} (h:a.data.toList=l):a=⟨l.toArray⟩:=by
 subst h;exact (Lib.mk_data a).symm
def partsL (m e:Int):List UInt8:=zeros (40 - (Lib.decDigits m.natAbs).length - (e+9).toNat)++(Lib.decDigits m.natAbs++zeros (e+9).toNat)
end Go.Proofs.YtclghelocglnlaaGreatDoor.Dec
namespace Go.Proofs.YtclghelocglnlaaGreatDoor.Dec
open Go.RowKit Go.Sort
theorem nD_at {s:ByteArray} {i k:Nat} (h:k<=nD (s.data.toList.drop i)) (hk:i+k < s.size):
 (48<=(s[i+k].toNat:Int)/\(s[i+k].toNat:Int)<=57->k+1<=nD (s.data.toList.drop i))/\(¬(48<=(s[i+k].toNat:Int)/\(s[i+k].toNat:Int)<=57)->k=nD (s.data.toList.drop i)):=by
 have hl:s.data.toList.length=s.size:=rfl;have hk':k < (s.data.toList.drop i).length:=by rw [List.length_drop];omega
 have he:(s.data.toList.drop i)[k]=s[i+k]:=by rw [List.getElem_drop];rfl
 constructor
 ·intro h2;exact nD_step h hk' (by rw [he];unfold isDig;simp;omega)
 ·intro h2;exact nD_stop h hk' (by rw [he];unfold isDig;simp;omega)
theorem rdigits_any (s:ByteArray) (i:Nat) (w:World) (hs:s.size<=1000) (hi:i<=s.size) (n:Nat) (hn:Hid (nD (s.data.toList.drop i)=n)):
 Calls Tryz.prog 167 #[.string s,.int .i64 i] w (fun e w'=>e= .returned (.int .i64 n)/\w=w'):=by
 have hle:nD (s.data.toList.drop i)<=s.size - i:=by
  have:=nD_le (s.data.toList.drop i);rw [List.length_drop] at this;exact this
 rw [hn.out] at hle;have HA:=Lib.hid (fun k h hk=>nD_at (s:=s) (i:=i) (k:=k) h hk);rw [hn.out] at HA
 go_enter Tryz.func167,Tryz.ntmps167
 go_wp2_with fail
 go_loop [5] (fun v=>∃k:Nat,v= .int .i64 k/\k<=n/\i+k<=s.size) (fun v=>s.size - (intOf v).toNat)
 case atStart=>exact ⟨0,rfl,by omega,by omega⟩
 case round=>
  obtain ⟨k,rfl,hkn,hks⟩:=hrel
  by_cases hlt:i+k < s.size
  ·obtain ⟨y,z⟩:=HA.out k hkn hlt
   by_cases h1:48<=(s[i+k].toNat:Int)
   ·by_cases h2:(s[i+k].toNat:Int)<=57
    ·have y':=y ⟨h1,h2⟩;clear y z
     go_wp2_with fail
     go_round
     case rel=>exact ⟨k+1,by go_num,y',by omega⟩
     case measure=>simp [intOf];omega
    ·have z':k=n:=z (by omega);clear y z;subst z'
     go_wp2_with fail
     go_ret
     exact ⟨rfl,rfl⟩
   ·have z':k=n:=z (by omega);clear y z;subst z'
    go_wp2_with fail
    go_ret
    exact ⟨rfl,rfl⟩
  ·have z':k=n:=by omega
   subst z'
   go_wp2_with fail
   go_ret
   exact ⟨rfl,rfl⟩
end Go.Proofs.YtclghelocglnlaaGreatDoor.Dec
namespace Go.Proofs.YtclghelocglnlaaGreatDoor.Dec
open Go.RowKit Go.Sort
theorem pre_at (s:ByteArray) (i:Nat) (c:UInt8) (h:i < s.size):((s[i].toNat:Int)==(c.toNat:Int))=pre (s.data.toList.drop i) c:=by
 have hl:i < s.data.toList.length:=h
 have he:s.data.toList.drop i=s[i]::s.data.toList.drop (i+1):=by
  rw [List.drop_eq_getElem_cons hl];rfl
 rw [he];unfold pre;rw [Bool.eq_iff_iff];simp only [beq_iff_eq]
 constructor
 ·intro h2;exact UInt8.toNat_inj.1 (by omega)
 ·intro h2;rw [h2]
theorem pre_end (s:ByteArray) (i:Nat) (c:UInt8) (h:s.size<=i):pre (s.data.toList.drop i) c=false:=by
 rw [List.drop_eq_nil_of_le (by exact h)];rfl
theorem cut_at (s:ByteArray) (i:Nat) (c:UInt8) (hp:pre (s.data.toList.drop i) c=true):cutp (s.data.toList.drop i) c=s.data.toList.drop (i+1):=by
 unfold cutp;rw [if_pos hp,List.tail_drop]
theorem cut_not (s:ByteArray) (i:Nat) (c:UInt8) (hp:pre (s.data.toList.drop i) c=false):cutp (s.data.toList.drop i) c=s.data.toList.drop i:=by
 unfold cutp;rw [if_neg (by simp [hp])]
theorem rest_at (s:ByteArray) (i:Nat):restD (s.data.toList.drop i)=s.data.toList.drop (i+nD (s.data.toList.drop i)):=by
 rw [<-drop_nD,List.drop_drop]
theorem head_at (s:ByteArray) (i:Nat):(s.extract i (i+nD (s.data.toList.drop i))).data.toList=headD (s.data.toList.drop i):=by
 rw [Lib.extract_data,<-take_nD]
 congr 1
 omega
def Mid (s ab:ByteArray) (ex:Int) (i2:Nat):Prop:=
 ∃W Fr:List UInt8,ab.data.toList=W++Fr/\ex= -(Fr.length:Int)/\Digs W/\Digs Fr/\W≠ []/\splitS s.data.toList=tailS (pre s.data.toList 45) W Fr (s.data.toList.drop i2)
def clampL (E:Int):Int:=max (-100000) (min E 100000)
def Mid2 (s ab:ByteArray) (ex:Int) (i5:Nat):Prop:=
 ∃W Fr:List UInt8,ab.data.toList=W++Fr/\Digs W/\Digs Fr/\W≠ []/\
  ((i5=s.size/\∃E,splitS s.data.toList=some (pre s.data.toList 45,W,Fr,E)/\ex=clampL E - Fr.length)∨(i5 < s.size/\splitS s.data.toList=none))
theorem mid_none {s ab:ByteArray} {ex:Int} {i2:Nat} (hi:i2<=s.size) (h:Mid s ab ex i2) (hE:(pre (s.data.toList.drop i2) 101 || pre (s.data.toList.drop i2) 69)=false):Mid2 s ab ex i2:=by
 obtain ⟨W,Fr,h1,h2,h3,h4,h5,h6⟩:=h;refine ⟨W,Fr,h1,h3,h4,h5,?_⟩;have hl:s.data.toList.length=s.size:=rfl;rcases Nat.lt_or_ge i2 s.size with hlt | hge
 ·right
  refine ⟨hlt,?_⟩;rw [h6];have he:s.data.toList.drop i2=s.data.toList[i2]::s.data.toList.drop (i2+1):=List.drop_eq_getElem_cons (by omega);rw [he] at hE⊢;unfold tailS;rw [if_neg (by simp)];unfold powS
  have:¬(s.data.toList[i2]=101∨s.data.toList[i2]=69):=by
   rintro (h | h) <;> rw [h] at hE <;> cases hE
  simp only [this,if_false]
 ·left
  refine ⟨by omega,0,?_,by rw [h2];unfold clampL;omega⟩;rw [h6,List.drop_eq_nil_of_le (by omega)]
  rfl
def capL (l:List UInt8):Nat:=l.foldl (fun p c=>min (p * 10+(c.toNat - 48)) 100000) 0
theorem capL_fold (l:List UInt8) (a b:Nat) (h:b=min a 100000):l.foldl (fun p c=>min (p * 10+(c.toNat - 48)) 100000) b=min (l.foldl (fun p c=>p * 10+(c.toNat - 48)) a) 100000:=by
 induction l generalizing a b with
 | nil=>exact h
 | cons c l ih=>simp only [List.foldl_cons];exact ih _ _ (by omega)
theorem capL_eq (l:List UInt8):capL l=min (valD l) 100000:=capL_fold l 0 0 rfl
theorem capL_snoc (l:List UInt8) (c:UInt8):capL (l++ [c])=min (capL l * 10+(c.toNat - 48)) 100000:=by simp [capL]
theorem capL_at (s:ByteArray) (i j:Nat) (h:i+j < s.size):(capL ((s.data.toList.drop i).take (j+1)):Int)=min (10 * capL ((s.data.toList.drop i).take j)+((s[i+j].toNat - 48:Nat):Int)) 100000:=by
 have hl:s.data.toList.length=s.size:=rfl;have hk:j < (s.data.toList.drop i).length:=by rw [List.length_drop];omega
 have he:(s.data.toList.drop i)[j]=s[i+j]:=by rw [List.getElem_drop];rfl
 rw [List.take_succ_eq_append_getElem hk,capL_snoc,he]
 omega
theorem dig_at (s:ByteArray) (i j n:Nat) (hn:nD (s.data.toList.drop i)=n) (hj:j < n) (h:i+j < s.size):48<=(s[i+j].toNat:Int)/\(s[i+j].toNat:Int)<=57:=by
 have hl:s.data.toList.length=s.size:=rfl;have hk:j < (s.data.toList.drop i).length:=by rw [List.length_drop];omega
 have he:(s.data.toList.drop i)[j]=s[i+j]:=by rw [List.getElem_drop];rfl
 have hd:=headD_digs (s.data.toList.drop i);have ht:=take_nD (s.data.toList.drop i);rw [hn] at ht
 have hm:(s.data.toList.drop i)[j]∈headD (s.data.toList.drop i):=by
  rw [<-ht,List.mem_take_iff_getElem];exact ⟨j,by omega,rfl⟩
 have:=dig_le (hd _ hm);rw [he] at this
 omega
def SignTo (r t:List UInt8):Prop:=(if pre r 45=true then cutp r 45 else cutp (cutp r 45) 43)=t
theorem mid_power {s ab:ByteArray} {ex:Int} {i2:Nat} (hlt:i2 < s.size) (h:Mid s ab ex i2) (hE:(pre (s.data.toList.drop i2) 101 || pre (s.data.toList.drop i2) 69)=true) {i4:Nat} (ht:SignTo (s.data.toList.drop (i2+1)) (s.data.toList.drop i4)):
 ∃W Fr:List UInt8,ab.data.toList=W++Fr/\ex= -(Fr.length:Int)/\Digs W/\Digs Fr/\W≠ []/\splitS s.data.toList=
  if headD (s.data.toList.drop i4)= []∨restD (s.data.toList.drop i4)≠ [] then none
  else some (pre s.data.toList 45,W,Fr,if pre (s.data.toList.drop (i2+1)) 45=true then -(valD (headD (s.data.toList.drop i4)):Int) else valD (headD (s.data.toList.drop i4))):=by
 obtain ⟨W,Fr,h1,h2,h3,h4,h5,h6⟩:=h;refine ⟨W,Fr,h1,h2,h3,h4,h5,?_⟩;have hl:s.data.toList.length=s.size:=rfl;rw [h6];have he:s.data.toList.drop i2=s.data.toList[i2]::s.data.toList.drop (i2+1):=List.drop_eq_getElem_cons (by omega);rw [he] at hE⊢;unfold tailS;rw [if_neg (by simp)]
 have hc:s.data.toList[i2]=101∨s.data.toList[i2]=69:=by
  rw [Bool.or_eq_true] at hE;rcases hE with hE | hE
  ·left;simpa [pre] using hE
  ·right;simpa [pre] using hE
 unfold SignTo at ht;unfold powS;simp only [hc,if_true,ht]
 by_cases hb:headD (s.data.toList.drop i4)= []∨restD (s.data.toList.drop i4)≠ []
 ·rw [if_pos hb,if_pos hb]
 ·rw [if_neg hb,if_neg hb]
theorem mid_some {s ab:ByteArray} {ex:Int} {i2:Nat} (hlt:i2 < s.size) (h:Mid s ab ex i2) (hE:(pre (s.data.toList.drop i2) 101 || pre (s.data.toList.drop i2) 69)=true) {i4 n3:Nat} (ht:SignTo (s.data.toList.drop (i2+1)) (s.data.toList.drop i4))
 (hn:nD (s.data.toList.drop i4)=n3) (hn0:n3≠0) (hle:i4+n3<=s.size) {q:Int} (hq:q=capL (headD (s.data.toList.drop i4))) (mi:Bool) (hmi:pre (s.data.toList.drop (i2+1)) 45=mi):
 Mid2 s ab (ex+if mi=true then -q else q) (i4+n3):=by
 obtain ⟨W,Fr,h1,h2,h3,h4,h5,h6⟩:=mid_power hlt h hE ht;refine ⟨W,Fr,h1,h3,h4,h5,?_⟩;have hl:s.data.toList.length=s.size:=rfl;have hre:=rest_at s i4;rw [hn] at hre
 have hne:headD (s.data.toList.drop i4)≠ []:=by
  intro h0;unfold nD at hn;rw [h0] at hn;exact hn0 hn.symm
 rcases Nat.lt_or_ge (i4+n3) s.size with hl2 | hg2
 ·right
  refine ⟨hl2,?_⟩;rw [h6,if_pos]
  right
  rw [hre];intro h0;have:=congrArg List.length h0;rw [List.length_drop] at this;simp at this
  omega
 ·left
  refine ⟨by omega,if pre (s.data.toList.drop (i2+1)) 45=true then -(valD (headD (s.data.toList.drop i4)):Int) else valD (headD (s.data.toList.drop i4)),?_,?_⟩
  ·rw [h6,if_neg];rintro (h0 | h0)
   ·exact hne h0
   ·rw [hre] at h0;exact h0 (List.drop_eq_nil_of_le (by omega))
  ·rw [h2,hq,capL_eq,hmi];unfold clampL
   cases mi
   ·simp;omega
   ·simp;omega
theorem mid_fail {s ab:ByteArray} {ex:Int} {i2:Nat} (hlt:i2 < s.size) (h:Mid s ab ex i2) (hE:(pre (s.data.toList.drop i2) 101 || pre (s.data.toList.drop i2) 69)=true) {i4:Nat} (ht:SignTo (s.data.toList.drop (i2+1)) (s.data.toList.drop i4))
 (hn:nD (s.data.toList.drop i4)=0):splitS s.data.toList=none:=by
 obtain ⟨W,Fr,h1,h2,h3,h4,h5,h6⟩:=mid_power hlt h hE ht;rw [h6,if_pos (.inl (List.eq_nil_of_length_eq_zero hn))]
theorem sign_to (s:ByteArray) (i:Nat) (hi:i<=s.size):(∃i4,SignTo (s.data.toList.drop i) (s.data.toList.drop i4)/\i4<=s.size/\((pre (s.data.toList.drop i) 43 || pre (s.data.toList.drop i) 45)=true/\i4=i+1∨(pre (s.data.toList.drop i) 43 || pre (s.data.toList.drop i) 45)=false/\i4=i)):=by
 have hlt:∀c,pre (s.data.toList.drop i) c=true->i+1<=s.size:=by
  intro c hc;rcases Nat.lt_or_ge i s.size with h | h
  ·exact h
  ·rw [pre_end s i c h] at hc;cases hc
 rcases h45:pre (s.data.toList.drop i) 45 with _ | _
 ·rcases h43:pre (s.data.toList.drop i) 43 with _ | _
  ·refine ⟨i,?_,hi,.inr ⟨rfl,rfl⟩⟩;unfold SignTo;rw [if_neg (by simp [h45]),cut_not s i 45 h45,cut_not s i 43 h43]
  ·refine ⟨i+1,?_,hlt 43 h43,.inl ⟨rfl,rfl⟩⟩;unfold SignTo;rw [if_neg (by simp [h45]),cut_not s i 45 h45,cut_at s i 43 h43]
 ·refine ⟨i+1,?_,hlt 45 h45,.inl ⟨by simp,rfl⟩⟩;unfold SignTo;rw [if_pos h45,cut_at s i 45 h45]
def Trim (F:List UInt8):Prop:=F= [48]∨(Core F/\F≠ [])
theorem fin_val {b:Bool} {W Fr F:List UInt8} {E:Int} {j z:Nat} (hW:W++Fr=zeros z++(F++zeros j)) (hF:Trim F) (hl:(W++Fr).length<=400):valS (some (b,W,Fr,E))=mk (sgn b (valD F)) (clampL E - Fr.length+j):=by
 have hlen:=congrArg List.length hW;rw [List.length_append,List.length_append,List.length_append,zeros_length,zeros_length] at hlen;rw [List.length_append] at hl;unfold valS;simp only;rw [hW,valD_zeros_append,valD_append_zeros,Int.natCast_mul,Int.natCast_pow,show ((10:Nat):Int)=10 from rfl,sgn_mul,mk_pow];rcases hF with hF | ⟨hF,_⟩
 ·rw [hF,show ((valD [48]:Nat):Int)=0 from rfl,sgn_zero,mk_zero,mk_zero]
 ·have:=mk_clamp (b:=b) hF (E:=E) (E':=clampL E) (x:=(j:Int) - Fr.length) (c:=100000) (by omega) (by unfold clampL;omega) (by omega) (by omega);rw [show clampL E - (Fr.length:Int)+j=clampL E+((j:Int) - Fr.length) by omega,this]
  congr 1
  omega
theorem fin_big {b:Bool} {W Fr F:List UInt8} {E:Int} {j z:Nat} (hW:W++Fr=zeros z++(F++zeros j)) (hF:Trim F) (hl:(W++Fr).length<=400) (h17:17 < F.length):valS (some (b,W,Fr,E))=(0,0,false):=by
 rw [fin_val hW hF hl];rcases hF with hF | ⟨hF,hne⟩
 ·rw [hF] at h17;simp at h17
 ·obtain ⟨h1,h2⟩:=core_val hF hne;have h3:10 ^ 17<=valD F:=Nat.le_trans (Nat.pow_le_pow_right (by decide) (by omega)) h1;rw [mk_big (sgn_mod h2)];unfold sgn p15
  split <;> omega
theorem trim_of {F:List UInt8} (hd:Digs F) (hne:F≠ []) (h1:F.length<=1∨∃c r,F=c::r/\c≠48) (h2:F.length<=1∨∃r c,F=r++ [c]/\c≠48):Trim F:=by
 by_cases hl:F.length<=1
 ·cases F with
  | nil=>exact absurd rfl hne
  | cons c r=>
    have hr:r= []:=List.eq_nil_of_length_eq_zero (by simp only [List.length_cons] at hl;omega);subst hr
    by_cases hc:c=48
    ·left;rw [hc]
    ·right;exact ⟨⟨hd,.inr ⟨⟨c,[],rfl,hc⟩,[],c,rfl,hc⟩⟩,by simp⟩
 ·right
  refine ⟨⟨hd,.inr ⟨?_,?_⟩⟩,hne⟩
  ·rcases h1 with h1 | h1
   ·omega
   ·exact h1
  ·rcases h2 with h2 | h2
   ·omega
   ·exact h2
theorem first_of (c:ByteArray) (h:0 < c.size):c.data.toList=c[0]::(c.extract 1 c.size).data.toList:=by
 have hl:c.data.toList.length=c.size:=rfl
 have:c.data.toList=c.data.toList[0]::c.data.toList.drop 1:=by
  have:=List.drop_eq_getElem_cons (l:=c.data.toList) (i:=0) (by omega)
  simpa using this
 rw [Lib.extract_data,List.take_of_length_le (by rw [List.length_drop];omega)];exact this
theorem last_of (c:ByteArray) (h:0 < c.size):c.data.toList=(c.extract 0 (c.size - 1)).data.toList++ [c[c.size - 1]]:=by
 have hl:c.data.toList.length=c.size:=rfl;have h2:=List.take_succ_eq_append_getElem (l:=c.data.toList) (i:=c.size - 1) (by omega);rw [show c.size - 1+1=c.size by omega,List.take_of_length_le (by omega)] at h2;rw [Lib.extract_data,List.drop_zero,Nat.sub_zero];exact h2
theorem byte_eq {x:UInt8} {n:Nat} (hn:n < 256) (h:((x.toNat:Int)==(n:Int))=true):x=UInt8.ofNat n:=by
 have h2:(x.toNat:Int)=n:=by simpa using h
 apply UInt8.toNat_inj.1
 rw [UInt8.toNat_ofNat_of_lt' (by simpa using hn)]
 omega
theorem trim_pair {C D:List UInt8} {j:Nat} (hC:Digs C) (h:C=D++zeros j) (hne:D≠ []) (hx:C.length<=1∨∃c r,C=c::r/\c≠48) (hy:D.length<=1∨∃r c,D=r++ [c]/\c≠48):Trim D/\Digs D:=by
 have hD:Digs D:=fun c hc=>hC c (by rw [h];exact List.mem_append_left _ hc)
 refine ⟨trim_of hD hne ?_ hy,hD⟩;rcases hx with hx | ⟨c,r,h1,h2⟩
 ·left;rw [h,List.length_append] at hx;omega
 ·right
  cases D with
  | nil=>exact absurd rfl hne
  | cons d D=>
    rw [h] at h1;simp at h1;exact ⟨d,D,rfl,by rw [h1.1];exact h2⟩
theorem digs_at (d:ByteArray) (h:Digs d.data.toList) (k:Nat) (hk:k < d.size):48<=(d[k].toNat:Int)/\(d[k].toNat:Int)<=57:=digs_byte h k hk
theorem badW_at (s:ByteArray) (i:Nat) (n:Nat) (hn:nD (s.data.toList.drop i)=n) (hi:i < s.size):badW (headD (s.data.toList.drop i))=((n:Int)==0 || (decide ((1:Int) < n) && ((s[i].toNat:Int)==48))):=by
 have hp:=pre_at s i 48 hi;have h48:((48:UInt8).toNat:Int)=48:=rfl;rw [h48] at hp;rw [hp];have hlen:(headD (s.data.toList.drop i)).length=n:=hn
 have hpre:n≠0->pre (headD (s.data.toList.drop i)) 48=pre (s.data.toList.drop i) 48:=by
  intro h0;have hh:=head_rest (s.data.toList.drop i);generalize headD (s.data.toList.drop i)=H at *
  cases H with
  | nil=>simp at hlen;omega
  | cons c H=>rw [<-hh];rfl
 unfold badW
 by_cases h0:n=0
 ·subst h0;have:headD (s.data.toList.drop i)= []:=List.eq_nil_of_length_eq_zero hlen;rw [this];rfl
 ·rw [hpre h0]
  have h1:(headD (s.data.toList.drop i)).isEmpty=false:=by
   cases hh:headD (s.data.toList.drop i) with
   | nil=>rw [hh] at hlen;simp at hlen;omega
   | cons=>rfl
  rw [h1,hlen];have h2:((n:Int)==0)=false:=by rw [beq_eq_false_iff_ne];omega
  rw [h2]
  congr 2
  rw [decide_eq_decide];omega
theorem rparse_core (s:ByteArray) (w:World) (hs:s.size<=400) (b:Bool) (HB:Hid (pre s.data.toList 45=b)) (res:Int×Int×Bool) (HRES:Hid (valS (splitS s.data.toList)=res)):
 Calls Tryz.prog 148 #[.string s] w (Ret (mkV res) w):=by
 go_enter Tryz.func148,Tryz.ntmps148
 go_upto_region 5 with fail
 go_cut [27] from 18 to 27 (fun c wx=>c= .bool b/\wx=w.alloc (.cells #[.int .i64 0,.int .i64 0] 46))
 case first=>
  by_cases h0:0 < s.size
  ·have hp:=pre_at s 0 45 h0;rw [List.drop_zero,HB.out] at hp;have hp':((s[0].toNat:Int)==45)=b:=hp;clear hp
   go_wp2_with fail
   go_meet
   exact ⟨rfl,rfl⟩
  ·have hp:=pre_end s 0 45 (by omega);rw [List.drop_zero,HB.out] at hp;subst hp
   go_wp2_with fail
   go_meet
   exact ⟨rfl,rfl⟩
 case rest=>
  obtain ⟨rfl,rfl⟩:=hcut
  go_upto_if 27 with fail
  go_cut [4,5] from 28 to 29 (fun i sg wx=>∃(i0:Nat) (sgI:Int),i= .int .i64 i0/\sg= .int .i64 sgI/\i0<=s.size/\ -1<=sgI/\sgI<=1/\Hid (sgI=(if b=true then -1 else 1)/\cutp s.data.toList 45=s.data.toList.drop i0)/\wx=w.alloc (.cells #[.int .i64 0,.int .i64 0] 46))
  case first=>
   cases b
   ·have hc:cutp s.data.toList 45=s.data.toList:=(by unfold cutp;rw [if_neg (by simp [HB.out])]);have HC:=Lib.hid hc;clear hc
    go_wp2_with fail
    go_meet
    exact ⟨0,1,rfl,rfl,by omega,by omega,by omega,by show _/\_;exact ⟨rfl,by rw [HC.out];rfl⟩,rfl⟩
   ·have hc:cutp s.data.toList 45=s.data.toList.drop 1:=by unfold cutp;rw [if_pos HB.out,List.drop_one]
    have hsz:1<=s.size:=by
     rcases Nat.eq_zero_or_pos s.size with h0 | h0
     ·have:=pre_end s 0 45 (by omega);rw [List.drop_zero,HB.out] at this
      cases this
     ·exact h0
    have HC:=Lib.hid hc;clear hc
    go_wp2_with fail
    go_meet
    exact ⟨1,-1,rfl,rfl,by omega,by omega,by omega,by show _/\_;exact ⟨rfl,HC.out⟩,rfl⟩
  case rest=>
   obtain ⟨i0,sgI,rfl,rfl,hi0,hs0,hs1,HA,rfl⟩:=hcut;obtain ⟨n1,hn1⟩:∃n1,nD (s.data.toList.drop i0)=n1:=⟨_,rfl⟩;have HN1:=Lib.hid hn1
   have hn1l:i0+n1<=s.size:=by
    have:=nD_le (s.data.toList.drop i0);rw [List.length_drop,hn1] at this;have hl:s.data.toList.length=s.size:=rfl
    omega
   clear hn1
   go_upto_region 9 with (go_at_call 167;refine (rdigits_any s i0 _ (by omega) hi0 n1 HN1).mono ?_;rintro e1 w1 ⟨rfl,rfl⟩)
   go_cut [44] from 33 to 44 (fun c wx=>c= .bool (badW (headD (s.data.toList.drop i0)))/\wx=w.alloc (.cells #[.int .i64 0,.int .i64 0] 46))
   case first=>
    by_cases hlt:i0 < s.size
    ·have hbw:=badW_at s i0 n1 HN1.out hlt;generalize badW (headD (s.data.toList.drop i0))=bd at *;rcases z1:((n1:Int)==0) with _ | _
     ·by_cases z2:(1:Int) < n1
      ·have hbd:((s[i0].toNat:Int)==48)=bd:=(by rw [hbw,z1];simp [z2]);clear hbw
       go_wp2_with fail
       go_meet
       exact ⟨rfl,rfl⟩
      ·have hbd:bd=false:=(by rw [hbw,z1];simp [z2]);clear hbw;subst hbd
       go_wp2_with fail
       go_meet
       exact ⟨rfl,rfl⟩
     ·have hbd:bd=true:=(by rw [hbw,z1];rfl);clear hbw;subst hbd
      go_wp2_with fail
      go_meet
      exact ⟨rfl,rfl⟩
    ·have hn0:n1=0:=by omega
     have hbd:badW (headD (s.data.toList.drop i0))=true:=by
      have:headD (s.data.toList.drop i0)= []:=List.eq_nil_of_length_eq_zero (by have:=HN1.out;unfold nD at this;omega);rw [this];rfl
     have z1:((n1:Int)==0)=true:=(by rw [beq_iff_eq];omega);have HBD:=Lib.hid hbd;clear hbd hn0
     go_wp2_with fail
     go_meet
     exact ⟨by rw [HBD.out],rfl⟩
   case rest=>
    obtain ⟨rfl,rfl⟩:=hcut;have HW:Hid (headD (cutp s.data.toList 45)=headD (s.data.toList.drop i0)):=(by show _=_;rw [HA.out.2]);rcases hbd:badW (headD (s.data.toList.drop i0)) with _ | _
    ·have hI1:(i0:Int)<=(i0:Int)+n1:=(by omega);have hI2:(i0:Int)+n1<=s.size:=(by omega);have hI3:(0:Int)<=(i0:Int):=by omega
     go_upto_region 14 with fail
     rw [show ((i0:Int)+n1)=((i0+n1:Nat):Int) by simp]
     have HAl:Hid ((s.extract i0 (i0+n1)).data.toList=headD (s.data.toList.drop i0)):=by
      have:=head_at s i0;rw [HN1.out] at this;exact this
     have HSP:Hid (splitS s.data.toList=if pre (s.data.toList.drop (i0+n1)) 46=true then (if (headD (cutp (s.data.toList.drop (i0+n1)) 46)).isEmpty=true then none else tailS b (headD (s.data.toList.drop i0)) (headD (cutp (s.data.toList.drop (i0+n1)) 46)) (restD (cutp (s.data.toList.drop (i0+n1)) 46))) else tailS b (headD (s.data.toList.drop i0)) [] (cutp (s.data.toList.drop (i0+n1)) 46)):=by
      have:=rest_at s i0;rw [HN1.out] at this;show _=_;unfold splitS;simp only [HA.out.2,hbd,Bool.false_eq_true,if_false,this,HB.out]
     have HWD:Hid (Digs (headD (s.data.toList.drop i0))/\headD (s.data.toList.drop i0)≠ []/\(headD (s.data.toList.drop i0)).length<=i0+n1):=by
      refine ⟨headD_digs _,good_ne hbd,?_⟩;have:=HN1.out;unfold nD at this
      omega
     have hx0:(s.extract i0 (i0+n1)).size<=i0+n1:=by
      have:(s.extract i0 (i0+n1)).size=(s.extract i0 (i0+n1)).data.toList.length:=rfl;rw [this,HAl.out];exact HWD.out.2.2
     clear HW hI1 hI2 hI3 hbd HN1;generalize headD (s.data.toList.drop i0)=W at *;generalize s.extract i0 (i0+n1)=ab at *;generalize i0+n1=i1 at *
     go_cut [64] from 55 to 64 (fun c wx=>c= .bool (pre (s.data.toList.drop i1) 46)/\wx=w.alloc (.cells #[.int .i64 0,.int .i64 0] 46))
     case first=>
      by_cases hlt:i1 < s.size
      ·have hp:=pre_at s i1 46 hlt;have hp':((s[i1].toNat:Int)==46)=pre (s.data.toList.drop i1) 46:=hp;clear hp;generalize pre (s.data.toList.drop i1) 46=pb at *
       go_wp2_with fail
       go_meet
       exact ⟨rfl,rfl⟩
      ·have HPE:=Lib.hid (pre_end s i1 46 (by omega))
       go_wp2_with fail
       go_meet
       exact ⟨by rw [HPE.out],rfl⟩
     case rest=>
      obtain ⟨rfl,rfl⟩:=hcut;generalize hpb:pre (s.data.toList.drop i1) 46=pb at *;have HPB:=Lib.hid hpb;clear hpb
      go_upto_if 64 with fail
      go_cut [4,6,7,8] from 65 to 87 (fun i n al ex wx=>∃(nv:Int) (ab2:ByteArray) (exv:Int) (i2:Nat),n= .int .i64 nv/\al= .string ab2/\ex= .int .i64 exv/\i= .int .i64 i2/\i2<=s.size/\ab2.size<=400/\ -400<=exv/\exv<=0/\Hid (Mid s ab2 exv i2)/\wx=w.alloc (.cells #[.int .i64 0,.int .i64 0] 46))
      case first=>
       cases pb
       ·have hM:Mid s ab 0 i1:=by
         refine ⟨W,[],by rw [HAl.out];simp,by simp,HWD.out.1,digs_nil,HWD.out.2.1,?_⟩;rw [HSP.out,if_neg (by simp),cut_not s i1 46 HPB.out,HB.out]
        have HM:=Lib.hid hM;clear hM
        go_wp2_with fail
        go_meet
        exact ⟨_,ab,0,i1,rfl,rfl,rfl,rfl,by omega,by omega,by omega,by omega,HM,rfl⟩
       ·have hlt:i1 < s.size:=by
         rcases Nat.lt_or_ge i1 s.size with h | h
         ·exact h
         ·have:=HPB.out;rw [pre_end s i1 46 h] at this;cases this
        obtain ⟨n2,hn2⟩:∃n2,nD (s.data.toList.drop (i1+1))=n2:=⟨_,rfl⟩;have HN2:=Lib.hid hn2
        have hn2l:i1+1+n2<=s.size:=by
         have:=nD_le (s.data.toList.drop (i1+1));rw [List.length_drop,hn2] at this;have hl:s.data.toList.length=s.size:=rfl
         omega
        clear hn2;have HC46:=Lib.hid (cut_at s i1 46 HPB.out)
        go_wp2_with fail
        rw [show ((i1:Int)+1)=((i1+1:Nat):Int) by simp]
        (with_reducible refine (rdigits_any s (i1+1) _ (by omega) (by omega) n2 HN2).mono ?_)
        rintro e1 w1 ⟨rfl,rfl⟩
        by_cases hn0:n2=0
        ·have z1:((n2:Int)==0)=true:=by rw [beq_iff_eq];omega
         have hr:res=(0,0,false):=by
          rw [<-HRES.out,HSP.out,if_pos (by trivial),HC46.out];have:headD (s.data.toList.drop (i1+1))= []:=List.eq_nil_of_length_eq_zero (by have:=HN2.out;unfold nD at this;omega);rw [this];rfl
         subst hr;clear hn0
         go_wp2_with fail
         exact bodyPost_ret (v:=mkV (0,0,false)) (by simp [mkV,results,Tryz.results148,go_sem]) rfl ⟨rfl,(Below.refl _ _).alloc (Nat.le_refl _) _⟩
        ·have z1:((n2:Int)==0)=false:=by rw [beq_eq_false_iff_ne];omega
         have HAl2:Hid ((s.extract (i1+1) (i1+1+n2)).data.toList=headD (s.data.toList.drop (i1+1))):=by
          have:=head_at s (i1+1);rw [HN2.out] at this;exact this
         have hx2:(s.extract (i1+1) (i1+1+n2)).size<=n2:=by
          have:(s.extract (i1+1) (i1+1+n2)).size=(s.extract (i1+1) (i1+1+n2)).data.toList.length:=rfl;rw [this,HAl2.out];have:=HN2.out;unfold nD at this
          omega
         have hM:Mid s (ab++s.extract (i1+1) (i1+1+n2)) (-(n2:Int)) (i1+1+n2):=by
          refine ⟨W,headD (s.data.toList.drop (i1+1)),by rw [app_data',HAl.out,HAl2.out],?_,HWD.out.1,headD_digs _,HWD.out.2.1,?_⟩
          ·have:=HN2.out;unfold nD at this
           omega
          ·have hre:=rest_at s (i1+1);rw [HN2.out] at hre
           have hne:(headD (s.data.toList.drop (i1+1))).isEmpty=false:=by
            cases hh:headD (s.data.toList.drop (i1+1)) with
            | nil=>have:=HN2.out;unfold nD at this;rw [hh] at this;simp at this;omega
            | cons=>rfl
           rw [HSP.out,if_pos (by trivial),HC46.out,if_neg (by simp [hne]),hre,HB.out]
         have HM:=Lib.hid hM;clear hM hn0;have hI1:((i1:Int)+1)<=(i1:Int)+1+n2:=(by omega);have hI2:(i1:Int)+1+n2<=s.size:=by omega
         go_wp2_with fail
         go_meet
         exact ⟨n2,_,_,i1+1+n2,rfl,rfl,rfl,by simp,by omega,by rw [ByteArray.size_append];omega,by omega,by omega,HM,rfl⟩
      case rest=>
       obtain ⟨nv,ab2,exv,i2,rfl,rfl,rfl,rfl,hi2,hab2,hex0,hex1,HM,rfl⟩:=hcut;clear HAl HSP HWD hx0 HPB
       go_upto_region 21 with fail
       go_cut [103] from 88 to 103 (fun c wx=>c= .bool (pre (s.data.toList.drop i2) 101 || pre (s.data.toList.drop i2) 69)/\wx=w.alloc (.cells #[.int .i64 0,.int .i64 0] 46))
       case first=>
        by_cases hlt:i2 < s.size
        ·have hp1:((s[i2].toNat:Int)==101)=pre (s.data.toList.drop i2) 101:=pre_at s i2 101 hlt;have hp2:((s[i2].toNat:Int)==69)=pre (s.data.toList.drop i2) 69:=pre_at s i2 69 hlt;generalize pre (s.data.toList.drop i2) 101=c1 at *;generalize pre (s.data.toList.drop i2) 69=c2 at *
         cases c1
         ·go_wp2_with fail
          go_meet
          exact ⟨by simp,rfl⟩
         ·go_wp2_with fail
          go_meet
          exact ⟨by simp,rfl⟩
        ·have HPE:=Lib.hid (pre_end s i2 101 (by omega));have HPE2:=Lib.hid (pre_end s i2 69 (by omega))
         go_wp2_with fail
         go_meet
         exact ⟨by rw [HPE.out,HPE2.out];rfl,rfl⟩
       case rest=>
        obtain ⟨rfl,rfl⟩:=hcut;generalize hE:(pre (s.data.toList.drop i2) 101 || pre (s.data.toList.drop i2) 69)=isE at *;have HE:=Lib.hid hE;clear hE
        go_upto_if 103 with fail
        go_cut [4,6,8,9,10,11] from 104 to 159 (fun i n ex mi ev kv wx=>∃(nv mv ev' kv':Value) (exv2:Int) (i5:Nat),n=nv/\mi=mv/\ev=ev'/\kv=kv'/\ex= .int .i64 exv2/\i= .int .i64 i5/\i5<=s.size/\ -100400<=exv2/\exv2<=100400/\Hid (Mid2 s ab2 exv2 i5)/\wx=w.alloc (.cells #[.int .i64 0,.int .i64 0] 46))
        case first=>
         cases isE
         ·have hM2:Mid2 s ab2 exv i2:=mid_none hi2 HM.out HE.out;have HM2:=Lib.hid hM2;clear hM2
          go_wp2_with fail
          go_meet
          exact ⟨_,_,_,_,exv,i2,rfl,rfl,rfl,rfl,rfl,rfl,by omega,by omega,by omega,HM2,rfl⟩
         ·have hlt:i2 < s.size:=by
           rcases Nat.lt_or_ge i2 s.size with h | h
           ·exact h
           ·have:=HE.out;rw [pre_end s i2 101 h,pre_end s i2 69 h] at this;cases this
          obtain ⟨i4,hS1,hS2,hS3⟩:=sign_to s (i2+1) (by omega);have HS1:=Lib.hid hS1;have HS3:=Lib.hid hS3;clear hS1 hS3;generalize hmi:pre (s.data.toList.drop (i2+1)) 45=mi at *;have HMI:=Lib.hid hmi;clear hmi
          go_upto_region 24 with fail
          go_cut [121] from 106 to 121 (fun c wx=>c= .bool (pre (s.data.toList.drop (i2+1)) 43 || mi)/\wx=w.alloc (.cells #[.int .i64 0,.int .i64 0] 46))
          case first=>
           by_cases hlt3:i2+1 < s.size
           ·have hp1:((s[i2+1].toNat:Int)==43)=pre (s.data.toList.drop (i2+1)) 43:=pre_at s (i2+1) 43 hlt3;have hp2:((s[i2+1].toNat:Int)==45)=mi:=(pre_at s (i2+1) 45 hlt3).trans HMI.out;generalize pre (s.data.toList.drop (i2+1)) 43=c1 at *
            cases c1
            ·go_wp2_with fail
             go_meet
             exact ⟨by simp,rfl⟩
            ·go_wp2_with fail
             go_meet
             exact ⟨by simp,rfl⟩
           ·have HPE:=Lib.hid (pre_end s (i2+1) 43 (by omega));have hm0:mi=false:=(by rw [<-HMI.out,pre_end s (i2+1) 45 (by omega)]);subst hm0
            go_wp2_with fail
            go_meet
            exact ⟨by rw [HPE.out];rfl,rfl⟩
          case rest=>
           obtain ⟨rfl,rfl⟩:=hcut;have HS4:Hid ((pre (s.data.toList.drop (i2+1)) 43 || mi)=true/\i4=i2+1+1∨(pre (s.data.toList.drop (i2+1)) 43 || mi)=false/\i4=i2+1):=HS3.out;have HMI2:Hid ((pre (s.data.toList.drop (i2+1)) 43 || mi)=false->mi=false):=fun h=>by rw [Bool.or_eq_false_iff] at h;exact h.2
           have HPM:Hid (∀h:i2+1 < s.size,((s[i2+1].toNat:Int)==45)=mi):=fun h=>(pre_at s (i2+1) 45 h).trans HMI.out
           generalize (pre (s.data.toList.drop (i2+1)) 43 || mi)=isS at *;clear HS3
           go_upto_if 121 with fail
           go_cut [4,9] from 122 to 127 (fun i mv wx=>i= .int .i64 i4/\mv= .bool mi/\wx=w.alloc (.cells #[.int .i64 0,.int .i64 0] 46))
           case first=>
            cases isS
            ·have hm0:=HMI2.out rfl;subst hm0
             have hi4:i4=i2+1:=by
              rcases HS4.out with ⟨h,_⟩ | ⟨_,h⟩
              ·simp at h
              ·exact h
             have HI4:=Lib.hid hi4;clear hi4
             go_wp2_with fail
             go_meet
             exact ⟨by rw [HI4.out];simp,rfl,rfl⟩
            ·have hi4:i4=i2+1+1:=by
              rcases HS4.out with ⟨_,h⟩ | ⟨h,_⟩
              ·exact h
              ·simp at h
             have hlt4:i2+1 < s.size:=(by omega);have hpm:=HPM.out hlt4;have HI4:=Lib.hid hi4;clear hi4
             go_wp2_with fail
             go_meet
             exact ⟨by rw [HI4.out];simp,rfl,rfl⟩
           case rest=>
            obtain ⟨rfl,rfl,rfl⟩:=hcut;obtain ⟨n3,hn3⟩:∃n3,nD (s.data.toList.drop i4)=n3:=⟨_,rfl⟩;have HN3:=Lib.hid hn3
            have hn3l:i4+n3<=s.size:=by
             have:=nD_le (s.data.toList.drop i4);rw [List.length_drop,hn3] at this;have hl:s.data.toList.length=s.size:=rfl
             omega
            clear hn3 HS4 HMI2 HPM
            go_wp2_with fail
            (with_reducible refine (rdigits_any s i4 _ (by omega) hS2 n3 HN3).mono ?_)
            rintro e1 w1 ⟨rfl,rfl⟩
            by_cases hn0:n3=0
            ·have z1:((n3:Int)==0)=true:=by rw [beq_iff_eq];omega
             have hr:res=(0,0,false):=by
              have hn:=HN3.out;rw [hn0] at hn;rw [<-HRES.out,mid_fail hlt HM.out HE.out HS1.out hn]
              rfl
             subst hr;clear hn0
             go_wp2_with fail
             exact bodyPost_ret (v:=mkV (0,0,false)) (by simp [mkV,results,Tryz.results148,go_sem]) rfl ⟨rfl,(Below.refl _ _).alloc (Nat.le_refl _) _⟩
            ·have z1:((n3:Int)==0)=false:=(by rw [beq_eq_false_iff_ne];omega);have HN0:=Lib.hid hn0;clear hn0
             go_wp2_with fail
             go_loop [10,11] (fun a k=>∃(j:Nat) (q:Int),a= .int .i64 q/\k= .int .i64 ((i4:Int)+j)/\j<=n3/\0<=q/\q<=100000/\Hid (q=capL ((s.data.toList.drop i4).take j))) (fun _ k=>(s.size:Int).toNat - (intOf k).toNat)
             case atStart=>exact ⟨0,0,rfl,by simp,by omega,by omega,by omega,by show (0:Int)=_;simp [capL]⟩
             case round=>
              obtain ⟨j,q,rfl,rfl,hj,hq0,hq1,hq⟩:=hrel
              by_cases hjn:j < n3
              ·have hij:i4+j < s.size:=(by omega);obtain ⟨y1,y2⟩:=dig_at s i4 j n3 HN3.out hjn hij;have HCB:=Lib.hid (capL_at s i4 j hij)
               go_wp2_with fail
               go_round
               case rel=>exact ⟨j+1,min (10 * q+((s[i4+j].toNat:Int) - 48)) 100000,rfl,by simp;omega,by omega,by omega,by omega,by show _=_;rw [HCB.out,<-hq.out];omega⟩
               case measure=>simp [intOf];omega
              ·have hq2:q=capL (headD (s.data.toList.drop i4)):=by
                rw [hq.out,<-take_nD,HN3.out,show j=n3 by omega]
               have HM2:=Lib.hid (mid_some hlt HM.out HE.out HS1.out HN3.out HN0.out hn3l hq2 mi HMI.out);clear hq2 hq
               cases mi
               ·go_wp2_with fail
                go_meet
                exact ⟨_,_,_,_,exv+q,i4+n3,rfl,rfl,rfl,rfl,rfl,by simp,by omega,by omega,by omega,HM2,rfl⟩
               ·go_wp2_with fail
                go_meet
                exact ⟨_,_,_,_,exv+ -q,i4+n3,rfl,rfl,rfl,rfl,rfl,by simp,by omega,by omega,by omega,HM2,rfl⟩
        case rest=>
         obtain ⟨_,_,_,_,exv2,i5,rfl,rfl,rfl,rfl,rfl,rfl,hi5,he0,he1,HM2,rfl⟩:=hcut;clear HM HE
         by_cases h5:i5=s.size
         ·have z5:((i5:Int) !=(s.size:Int))=false:=by simp [h5]
          have HFIN:Hid (∃W Fr E,ab2.data.toList=W++Fr/\Digs (W++Fr)/\W≠ []/\valS (some (b,W,Fr,E))=res/\exv2=clampL E - Fr.length):=by
           obtain ⟨W,Fr,m1,m2,m3,m4,m5⟩:=HM2.out;rcases m5 with ⟨_,E,m6,m7⟩ | ⟨m6,_⟩
           ·exact ⟨W,Fr,E,m1,digs_append m2 m3,m4,by rw [<-HRES.out,m6,HB.out],m7⟩
           ·omega
          have hab1:1<=ab2.size:=by
           obtain ⟨W,Fr,E,m1,_,m3,_⟩:=HFIN.out;have:ab2.size=ab2.data.toList.length:=rfl;rw [this,m1,List.length_append]
           cases W with
           | nil=>exact absurd rfl m3
           | cons=>simp;omega
          clear HM2 h5
          go_wp2_with fail
          go_loop [7] (fun v=>∃(cb:ByteArray),v= .string cb/\1<=cb.size/\cb.size<=400/\Hid (∃z,ab2.data.toList=zeros z++cb.data.toList)) (fun v=>(strOf v).size)
          case atStart=>exact ⟨ab2,rfl,hab1,hab2,⟨0,rfl⟩⟩
          case round=>
           obtain ⟨cb,rfl,hc1,hc4,hcz⟩:=hrel;have h0:0 < cb.size:=by omega
           by_cases hT:1 < cb.size/\((cb[0].toNat:Int)==48)=true
           ·obtain ⟨t1,t2⟩:=hT;have hsz:(cb.extract 1 cb.size).size=cb.size - 1:=by simp
            have HZ:Hid (∃z,ab2.data.toList=zeros z++(cb.extract 1 cb.size).data.toList):=by
             obtain ⟨z,hz⟩:=hcz.out;refine ⟨z+1,?_⟩;rw [hz,first_of cb h0,byte_eq (n:=48) (by decide) t2,zeros_snoc',List.append_assoc]
             rfl
            have HSZ:=Lib.hid hsz;clear hsz
            go_wp2_with fail
            go_round
            case rel=>exact ⟨_,rfl,by have:=HSZ.out;omega,by have:=HSZ.out;omega,HZ⟩
            case measure=>
             show (cb.extract 1 cb.size).size < cb.size;have:=HSZ.out
             omega
           ·have HX:Hid (cb.data.toList.length<=1∨∃c r,cb.data.toList=c::r/\c≠48):=by
             rcases Nat.lt_or_ge 1 cb.size with hl | hl
             ·right
              refine ⟨_,_,first_of cb h0,?_⟩;intro hh;exact hT ⟨hl,by rw [hh];rfl⟩
             ·left;exact hl
            have hlc:1 < cb.size/\((cb[0].toNat:Int)==48)=false∨cb.size<=1:=by
             rcases Nat.lt_or_ge 1 cb.size with hl1 | hl1
             ·rcases z7:((cb[0].toNat:Int)==48) with _ | _
              ·exact .inl ⟨hl1,rfl⟩
              ·exact absurd ⟨hl1,z7⟩ hT
             ·exact .inr hl1
            clear hT;rcases hlc with ⟨hl1,z7⟩ | hl1
            all_goals
             go_wp2_with fail
             go_loop [7,8] (fun v e=>∃(db:ByteArray) (j:Nat),v= .string db/\e= .int .i64 (exv2+j)/\1<=db.size/\db.size+j<=400/\Hid (cb.data.toList=db.data.toList++zeros j)) (fun v _=>(strOf v).size)
             case atStart=>exact ⟨cb,0,rfl,by simp,hc1,by omega,by show _=_;simp [zeros]⟩
             case round=>
              obtain ⟨db,j,rfl,rfl,hd1,hd4,hdz⟩:=hrel;have hdl:db.size - 1 < db.size:=by omega
              by_cases hT:1 < db.size/\((db[db.size - 1].toNat:Int)==48)=true
              ·obtain ⟨t1,t2⟩:=hT
               have HZ:Hid (cb.data.toList=(db.extract 0 (db.size - 1)).data.toList++zeros (j+1)):=by
                show _=_;rw [hdz.out,last_of db (by omega),byte_eq (n:=48) (by decide) t2,List.append_assoc]
                rfl
               have HSZ:Hid ((db.extract 0 (db.size - 1)).size=db.size - 1):=by show _=_;simp
               go_wp2_with fail
               refine ⟨⟨_,j+1,rfl,by simp;omega,by have:=HSZ.out;omega,by have:=HSZ.out;omega,HZ⟩,?_⟩;show (db.extract 0 (db.size - 1)).size < db.size;have:=HSZ.out
               omega
              ·have HTR:Hid (Trim db.data.toList/\Digs db.data.toList):=by
                obtain ⟨z,hz⟩:=hcz.out;obtain ⟨W,Fr,E,m1,m2,m3,m4,m5⟩:=HFIN.out;have hdc:Digs cb.data.toList:=(by rw [<-m1,hz] at m2;exact digs_dropL m2);refine trim_pair hdc hdz.out (fun h=> ?_) HX.out ?_
                ·have h9:db.data.toList.length=db.size:=rfl;rw [h] at h9;simp only [List.length_nil] at h9
                 omega
                ·rcases Nat.lt_or_ge 1 db.size with hl | hl
                 ·right
                  refine ⟨_,_,last_of db (by omega),fun hh=>hT ⟨hl,by rw [hh];rfl⟩⟩
                 ·left;exact hl
               have HRS:Hid (res=mk (sgn b (valD db.data.toList)) (exv2+j)/\(17 < db.size->res=(0,0,false))):=by
                obtain ⟨z,hz⟩:=hcz.out;obtain ⟨W,Fr,E,m1,m2,m3,m4,m5⟩:=HFIN.out;have hw:W++Fr=zeros z++(db.data.toList++zeros j):=(by rw [<-m1,hz,hdz.out]);have hl:(W++Fr).length<=400:=(by rw [<-m1];exact hab2);refine ⟨?_,fun h17=> ?_⟩
                ·rw [<-m4,fin_val hw HTR.out.1 hl,m5]
                ·rw [<-m4,fin_big hw HTR.out.1 hl h17]
               have hlc:1 < db.size/\((db[db.size - 1].toNat:Int)==48)=false∨db.size<=1:=by
                rcases Nat.lt_or_ge 1 db.size with hl1 | hl1
                ·rcases z8:((db[db.size - 1].toNat:Int)==48) with _ | _
                 ·exact .inl ⟨hl1,rfl⟩
                 ·exact absurd ⟨hl1,z8⟩ hT
                ·exact .inr hl1
               clear hT hdz HX hcz;rcases hlc with ⟨hl2,z8⟩ | hl2
               all_goals
                by_cases h17:17 < db.size
                ·have hr:=HRS.out.2 h17;subst hr
                 go_wp2_with fail
                 all_goals exact bodyPost_ret (v:=mkV (0,0,false)) (by simp [mkV,results,Tryz.results148,go_sem]) rfl ⟨rfl,(Below.refl _ _).alloc (Nat.le_refl _) _⟩
                ·go_wp2_with fail
                 go_loop [12,13] (fun a k=>∃(n:Nat) (q:Int),a= .int .i64 q/\k= .int .i64 n/\n<=db.size/\0<=q/\q<=100000000000000000/\Hid (q=valD (db.data.toList.take n))) (fun _ k=>db.size - (intOf k).toNat)
                 case atStart=>exact ⟨0,0,rfl,rfl,by omega,by omega,by omega,by show _=_;simp [valD]⟩
                 case round=>
                  obtain ⟨n,q,rfl,rfl,hn,hq0,hq1,hq⟩:=hrel
                  by_cases hlt:n < db.size
                  ·obtain ⟨y1,y2⟩:=digs_at db HTR.out.2 n hlt
                   have HQ:Hid (q * 10+((db[n].toNat:Int) - 48)=valD (db.data.toList.take (n+1))/\q * 10+((db[n].toNat:Int) - 48)<=100000000000000000/\q < 10000000000000000):=by
                    have h1:=valD_byte db n hlt;have h2:=valD_take_lt HTR.out.2 (k:=n+1) (n:=17) (by omega);have h3:=hq.out;refine ⟨by omega,by omega,by omega⟩
                   have hq9:q < 10000000000000000:=HQ.out.2.2
                   go_wp2_with fail
                   go_round
                   case rel=>exact ⟨n+1,10 * q+((db[n].toNat:Int) - 48),rfl,by simp,by omega,by omega,by have:=HQ.out;omega,by show _=_;rw [<-HQ.out.1];omega⟩
                   case measure=>simp [intOf];omega
                  ·have HV:Hid (res=mk (sgn b q) (exv2+j)):=by
                    show _=_;rw [HRS.out.1,hq.out,List.take_of_length_le (by show db.size<=n;omega)]
                   clear hq HTR HRS;have hsg:=HA.out.1
                   cases b
                   all_goals
                    simp at hsg;subst hsg
                    go_wp2_with fail
                    (with_reducible refine (rmake_any _ _ _ (by omega) (by omega) (by omega) (by omega)).mono ?_)
                    rintro e1 w4 ⟨rfl,hb4⟩;have hv:res=mk _ (exv2+j):=HV.out;simp only [sgn,if_true,Bool.false_eq_true,if_false] at hv;rw [<-hv];have hbb4:Below w.heap.size w w4:=((Below.refl _ _).alloc (Nat.le_refl _) _).trans (hb4.mono ((Below.refl _ _).alloc (Nat.le_refl _) _).size);have R:=(DecAt.new w 0 0 46).below hb4;clear hb4 HV hv HFIN HRES;obtain ⟨r0,r1,rf,rl⟩:=R;obtain ⟨z1,z2,z3⟩:=res;unfold mkV at *
                    go_wp2_with fail
                    exact bodyPost_ret (v:=mkV (z1,z2,z3)) (by simp [mkV,results,Tryz.results148,go_sem,r0,r1]) rfl ⟨rfl,by repeat (first | exact hbb4 | refine Below.setCell ?_ (by simp) _)⟩
         ·have z5:((i5:Int) !=(s.size:Int))=true:=by rw [bne_iff_ne];omega
          have hr:res=(0,0,false):=by
           obtain ⟨W,Fr,m1,m2,m3,m4,m5⟩:=HM2.out;rcases m5 with ⟨m6,_⟩ | ⟨_,m6⟩
           ·exact absurd m6 h5
           ·rw [<-HRES.out,m6];rfl
          subst hr;clear h5
          go_wp2_with fail
          exact bodyPost_ret (v:=mkV (0,0,false)) (by simp [mkV,results,Tryz.results148,go_sem]) rfl ⟨rfl,(Below.refl _ _).alloc (Nat.le_refl _) _⟩
    ·have hr:res=(0,0,false):=by
      rw [<-HRES.out];unfold splitS;simp only [HW.out,hbd,if_true]
      rfl
     subst hr
     go_wp2_with fail
     exact bodyPost_ret (v:=mkV (0,0,false)) (by simp [mkV,results,Tryz.results148,go_sem]) rfl ⟨rfl,(Below.refl _ _).alloc (Nat.le_refl _) _⟩
theorem rparse_any (s:ByteArray) (w:World) (hs:s.size<=9223372036854775807):
 Calls Tryz.prog 148 #[.string s] w (Ret (mkV (parseS s.data.toList)) w):=by
 by_cases h:s.size<=400
 ·have hp:parseS s.data.toList=valS (splitS s.data.toList):=by unfold parseS;rw [if_neg (by show¬400 < s.size;omega)]
  rw [hp];exact rparse_core s w h _ rfl _ rfl
 ·have hp:parseS s.data.toList=(0,0,false):=by unfold parseS;rw [if_pos (by show 400 < s.size;omega)]
  rw [hp]
  go_enter Tryz.func148,Tryz.ntmps148
  go_wp2_with fail
  exact bodyPost_ret (v:=mkV (0,0,false)) (by simp [mkV,results,Tryz.results148,go_sem]) rfl ⟨rfl,(Below.refl _ _).alloc (Nat.le_refl _) _⟩
end Go.Proofs.YtclghelocglnlaaGreatDoor.Dec
