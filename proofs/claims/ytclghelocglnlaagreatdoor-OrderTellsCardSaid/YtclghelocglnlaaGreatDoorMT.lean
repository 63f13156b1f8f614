import Derived.Laws.BitsAllLaws
import Derived.Test.YtclghelocglnlaaGreatDoorChecked
import Derived.Test.YtclghelocglnlaaGreatDoorShelf
import Derived.WalkKit
import Derived.BigCall
import Derived.Lib.Hide
import Derived.Below
import Derived.ProofKit
import Derived.Deep.QuietTactic
import Derived.RegionTactic
import Derived.Laws.DeepStrings4
import Derived.Lib.IndexLaws
import Derived.Lib.CutLaws
import Derived.IntWalk
import Derived.BigQuiet
import Derived.Laws.IdiomStrings
import Derived.Deep.RegionHeld
set_option maxHeartbeats 0
set_option maxRecDepth 100000
set_option linter.all false
namespace Go.Proofs.YtclghelocglnlaaGreatDoor.Tp
def partsL:List UInt8->List (List UInt8)
 | []=> [[]]
 | c::r=>if c=47 then []::partsL r else match partsL r with
   | p::ps=>(c::p)::ps
   | []=> [[c]]
theorem partsL_ne:∀l,partsL l≠ []
 | []=>by simp [partsL]
 | c::r=>by
   rw [partsL]
   by_cases h:c=47
   ·rw [if_pos h];simp
   ·rw [if_neg h];split <;> simp
theorem partsL_cons {l:List UInt8}:∃p ps,partsL l=p::ps:=by
 cases h:partsL l with
 | nil=>exact absurd h (partsL_ne l)
 | cons p ps=>exact ⟨p,ps,rfl⟩
theorem partsL_app:∀a b:List UInt8,partsL (a++47::b)=partsL a++partsL b
 | [],b=>by simp [partsL]
 | c::a,b=>by
   rw [List.cons_append,partsL,partsL,partsL_app a b]
   by_cases h:c=47
   ·rw [if_pos h,if_pos h];rfl
   ·rw [if_neg h,if_neg h];obtain ⟨p,ps,e⟩:=partsL_cons (l:=a);rw [e]
    rfl
theorem partsL_one:∀a:List UInt8,47 ∉ a->partsL a= [a]
 | [],_=>rfl
 | c::a,h=>by
   rw [partsL,if_neg (fun e=>h (by simp [e])),partsL_one a (fun x=>h (List.mem_cons_of_mem _ x))]
theorem partsL_head (a b:List UInt8) (h:47 ∉ a):partsL (a++47::b)=a::partsL b:=by
 rw [partsL_app,partsL_one a h];rfl
def tagL:List (List UInt8)->List (List UInt8×Bool)
 | []=> []
 | [p]=> [(p,true)]
 | p::q::r=>(p,false)::tagL (q::r)
def remS (rest:List UInt8) (more:Bool):List (List UInt8):=if more then partsL rest else []
def mstep (n:List (List UInt8)) (x:List UInt8×Bool):Bool ⊕ List (List UInt8):=
 if x.2=true/\x.1= [35] then .inl true else if n= [] then .inl false else if x.1= [43]∨x.1=n.headD [] then .inr n.tail else .inl false
def mrun:List (List UInt8×Bool)->List (List UInt8)->Bool ⊕ List (List UInt8)
 | [],n=> .inr n
 | x::xs,n=>match mstep n x with
   | .inl b=> .inl b
   | .inr m=>mrun xs m
def mfin:Bool ⊕ List (List UInt8)->Bool
 | .inl b=>b
 | .inr n=>n.isEmpty
def matchP:List (List UInt8)->List (List UInt8)->Bool
 | [],n=>n.isEmpty
 | p::f,n=>if f= []/\p= [35] then true else if n= [] then false else if p= [43]∨p=n.headD [] then matchP f n.tail else false
def matchS (f n:List UInt8):Bool:=matchP (partsL f) (partsL n)
def plainP (p:List UInt8):Prop:=p≠ [43]/\p≠ [35]
def ofB (c:UInt8):Bool:=decide (c.toNat=95∨c.toNat=46∨c.toNat=58∨c.toNat=45∨(97<=c.toNat/\c.toNat<=122)∨(65<=c.toNat/\c.toNat<=90)∨(48<=c.toNat/\c.toNat<=57))
def nameB (l:List UInt8):Bool:=decide (1<=l.length/\l.length<=16) && l.all ofB
def orderL:List UInt8:= [111,114,100,101,114]
def instL:List UInt8:= [105,110,115,116,97,110,116,65,99,116,105,111,110,115]
def stateL:List UInt8:= [115,116,97,116,101]
def connL:List UInt8:= [99,111,110,110,101,99,116,105,111,110]
def visL:List UInt8:= [118,105,115,117,97,108,105,122,97,116,105,111,110]
def kindB (k:List UInt8):Bool:=decide (k=orderL∨k=instL∨k=stateL∨k=connL∨k=visL)
def startL:List UInt8:= [117,97,103,118,47,118,50,47]
def uagvL:List UInt8:= [117,97,103,118]
def v2L:List UInt8:= [118,50]
def okT (m s k:List UInt8):Bool:=nameB m && nameB s && kindB k
def printL (m s k:List UInt8):List UInt8:=startL++(m++47::(s++47::k))
def printS (m s k:List UInt8):Option (List UInt8):=if okT m s k=true then some (printL m s k) else none
theorem name_len {l:List UInt8} (h:nameB l=true):1<=l.length/\l.length<=16:=by
 simp only [nameB,Bool.and_eq_true,decide_eq_true_eq] at h;exact h.1
theorem name_of {l:List UInt8} (h:nameB l=true):∀c∈l,ofB c=true:=by
 simp only [nameB,Bool.and_eq_true,List.all_eq_true] at h;exact h.2
theorem name_no {l:List UInt8} (h:nameB l=true) {c:UInt8} (hc:ofB c=false):c ∉ l:=fun hm=>by
 have:=name_of h c hm;rw [hc] at this;cases this
theorem name_47 {l:List UInt8} (h:nameB l=true):47 ∉ l:=name_no h rfl
theorem kind_cases {k:List UInt8} (h:kindB k=true):k=orderL∨k=instL∨k=stateL∨k=connL∨k=visL:=by
 simpa [kindB] using h
theorem kind_name {k:List UInt8} (h:kindB k=true):nameB k=true:=by
 rcases kind_cases h with rfl | rfl | rfl | rfl | rfl <;> rfl
theorem okT_m {m s k:List UInt8} (h:okT m s k=true):nameB m=true:=by
 simp only [okT,Bool.and_eq_true] at h;exact h.1.1
theorem okT_s {m s k:List UInt8} (h:okT m s k=true):nameB s=true:=by
 simp only [okT,Bool.and_eq_true] at h;exact h.1.2
theorem okT_k {m s k:List UInt8} (h:okT m s k=true):kindB k=true:=by
 simp only [okT,Bool.and_eq_true] at h;exact h.2
theorem three_parts {m s k:List UInt8} (h:okT m s k=true):partsL (m++47::(s++47::k))= [m,s,k]:=by
 rw [partsL_head _ _ (name_47 (okT_m h)),partsL_head _ _ (name_47 (okT_s h)),partsL_one _ (name_47 (kind_name (okT_k h)))]
theorem start_parts (z:List UInt8):partsL (startL++z)=uagvL::v2L::partsL z:=by
 rw [show startL++z=uagvL++47::(v2L++47::z) from rfl,partsL_head _ _ (by decide),partsL_head _ _ (by decide)]
theorem print_parts {m s k:List UInt8} (h:okT m s k=true):partsL (printL m s k)= [uagvL,v2L,m,s,k]:=by
 rw [printL,start_parts,three_parts h]
theorem print_len {m s k:List UInt8}:(printL m s k).length=m.length+s.length+k.length+10:=by
 simp [printL,startL];omega
def parseS (z:List UInt8):Option (List UInt8×List UInt8×List UInt8):=
 if (partsL z).length=5 then
  (if printS ((partsL z).getD 2 []) ((partsL z).getD 3 []) ((partsL z).getD 4 [])=some z then some ((partsL z).getD 2 [],(partsL z).getD 3 [],(partsL z).getD 4 []) else none)
 else none
theorem printS_some {m s k z:List UInt8}:printS m s k=some z↔okT m s k=true/\printL m s k=z:=by
 unfold printS
 by_cases h:okT m s k=true
 ·rw [if_pos h];simp [h]
 ·rw [if_neg h];simp [h]
theorem parse_iff {z m s k:List UInt8}:parseS z=some (m,s,k)↔printS m s k=some z:=by
 constructor
 ·intro h;unfold parseS at h
  by_cases h5:(partsL z).length=5
  ·rw [if_pos h5] at h
   by_cases hp:printS ((partsL z).getD 2 []) ((partsL z).getD 3 []) ((partsL z).getD 4 [])=some z
   ·rw [if_pos hp] at h;obtain ⟨rfl,rfl,rfl⟩:(partsL z).getD 2 []=m/\(partsL z).getD 3 []=s/\(partsL z).getD 4 []=k:=by simpa using h
    exact hp
   ·rw [if_neg hp] at h;cases h
  ·rw [if_neg h5] at h;cases h
 ·intro h;obtain ⟨ho,rfl⟩:=printS_some.1 h;unfold parseS;rw [print_parts ho];simp only [List.getD_cons_succ,List.getD_cons_zero];rw [if_pos (by rfl),if_pos h]
theorem parse_print {m s k:List UInt8} (h:okT m s k=true):parseS (printL m s k)=some (m,s,k):=
 parse_iff.2 (printS_some.2 ⟨h,rfl⟩)
def trimL (z:List UInt8):List UInt8:=if z.take 8=startL then z.drop 8 else z
def parseP (z:List UInt8):Option (List UInt8×List UInt8×List UInt8):=
 if (partsL (trimL z)).length<=3 then
  (if printS ((partsL (trimL z)).getD 0 []) ((partsL (trimL z)).getD 1 []) ((partsL (trimL z)).getD 2 [])=some z then some ((partsL (trimL z)).getD 0 [],(partsL (trimL z)).getD 1 [],(partsL (trimL z)).getD 2 []) else none)
 else none
def fitB (c:UInt8):UInt8:= [97,98,99,120,121,122,65,66,67,88,89,90,48,49,56,57,95,46,58,45].getD (c.toNat % 20) 0
def fitL (s:List UInt8):List UInt8:=110::(s.take 15).map fitB
theorem fitB_of (c:UInt8):ofB (fitB c)=true:=by
 have h:c.toNat % 20 < 20:=Nat.mod_lt _ (by decide);have:∀k:Fin 20,ofB ([97,98,99,120,121,122,65,66,67,88,89,90,48,49,56,57,95,46,58,45].getD k.val 0)=true:=by decide
 exact this ⟨_,h⟩
theorem fit_name (s:List UInt8):nameB (fitL s)=true:=by
 unfold nameB;rw [Bool.and_eq_true,decide_eq_true_eq,List.all_eq_true];refine ⟨⟨by unfold fitL;rw [List.length_cons];omega,by unfold fitL;rw [List.length_cons,List.length_map,List.length_take];omega⟩,?_⟩;unfold fitL;intro c hc;rcases List.mem_cons.1 hc with e | hc
 ·rw [e];rfl
 ·obtain ⟨b,_,e⟩:=List.mem_map.1 hc;rw [<-e];exact fitB_of b
def kindL (k:Nat):List UInt8:= [orderL,instL,stateL,connL,visL].getD k []
end Go.Proofs.YtclghelocglnlaaGreatDoor.Tp
namespace Go.Proofs.YtclghelocglnlaaGreatDoor.Tp
open Go.RowKit
def Ret (v:Value) (w:World) (e:Ending) (w':World):Prop:=e= .returned v/\Below w.heap.size w w'
theorem ret_int {k:IntKind} {a b:Int} (h:a=b):Ending.returned (.int k a)= .returned (.int k b):=by rw [h]
theorem ret_bool {a b:Bool} (h:a=b):Ending.returned (.bool a)= .returned (.bool b):=by rw [h]
theorem ret_str {a b:ByteArray} (h:a=b):Ending.returned (.string a)= .returned (.string b):=by rw [h]
theorem bs_append (a b:List UInt8):(⟨a.toArray⟩++⟨b.toArray⟩:ByteArray)=⟨(a++b).toArray⟩:=by
 apply ByteArray.ext;simp
theorem bs_size (F:List UInt8):(⟨F.toArray⟩:ByteArray).size=F.length:=List.size_toArray
theorem bs_self (s:ByteArray):s=⟨s.data.toList.toArray⟩:=by apply ByteArray.ext;simp
theorem sz (s:ByteArray):s.data.toList.length=s.size:=by rw [Array.length_toList];rfl
theorem bs_take (F:List UInt8) (p:Nat):(⟨F.toArray⟩:ByteArray).extract 0 p=⟨(F.take p).toArray⟩:=by
 apply ByteArray.ext;simp
theorem ext_drop (s:ByteArray) (p:Nat):(s.extract p s.size).data.toList=s.data.toList.drop p:=by
 rw [ByteArray.data_extract,Array.toList_extract];simp only [List.extract];exact List.take_of_length_le (by rw [List.length_drop,Array.length_toList];exact Nat.le_refl _)
theorem bs_drop (F:List UInt8) (p:Nat):(⟨F.toArray⟩:ByteArray).extract p F.length=⟨(F.drop p).toArray⟩:=by
 rw [bs_self (ByteArray.extract _ _ _)];have:=ext_drop ⟨F.toArray⟩ p;rw [bs_size] at this;rw [this]
theorem tl_eq (a:List UInt8):(⟨a.toArray⟩:ByteArray).toList=a:=by
 rw [ByteArray.toList_eq]
theorem str_ne {a b:List UInt8} (h:a≠b):((⟨a.toArray⟩:ByteArray).toList==(⟨b.toArray⟩:ByteArray).toList)=false:=by
 rw [tl_eq,tl_eq]
 simpa using h
def pickS (c n:Int):Int:=(if c < 0 then -(c+1) else c) % n
theorem pickS_nonneg {c n:Int} (h:0 < n):0<=pickS c n:=Int.emod_nonneg _ (by omega)
theorem pickS_lt {c n:Int} (h:0 < n):pickS c n < n:=Int.emod_lt_of_pos _ h
theorem beq_no {n m:Nat} (h:n≠m):((n:Int)==(m:Int))=false:=by
 simp;omega
theorem ofName_any (c:UInt8) (w:World):Calls Tryz.prog 61 #[.int .u8 c.toNat] w (fun e w'=>e= .returned (.bool (ofB c))/\w=w'):=by
 unfold ofB;generalize c.toNat=n
 by_cases h:n=95∨n=46∨n=58∨n=45
 ·rcases h with rfl | rfl | rfl | rfl
  all_goals
   go_enter Tryz.func61,Tryz.ntmps61
   go_wp2
   go_ret
   exact ⟨rfl,rfl⟩
 ·have h1:=beq_no (n:=n) (m:=95) (by omega);have h2:=beq_no (n:=n) (m:=46) (by omega);have h3:=beq_no (n:=n) (m:=58) (by omega);have h4:=beq_no (n:=n) (m:=45) (by omega);simp only [Int.cast_ofNat_Int] at h1 h2 h3 h4;have HN:=Lib.hid h;clear h
  go_enter Tryz.func61,Tryz.ntmps61
  go_wp2
  all_goals go_ret
  all_goals exact ⟨ret_bool (by have:=HN.out;rw [Bool.eq_iff_iff];simp;try omega),rfl⟩
theorem run_byte (s:ByteArray) (k:Nat) (h:k < s.size) (c:Nat) (hc:s[k].toNat=c) (u:World):(Instr.index 9 (.string s) (.int .i64 (k:Int))).run Tryz.prog u= .ok (.int .u8 c) u:=by
 rw [run_index_string _ _ _ _ _ Tryz.underlying9];have e1:((k:Int)).toNat=k:=Int.toNat_natCast k;simp [h,hc]
theorem take_at {s:ByteArray} {k:Nat} (h:k < s.size):s.data.toList.take (k+1)=s.data.toList.take k++ [s[k]]:=by
 rw [List.take_add_one,List.getElem?_eq_getElem (by rw [sz];exact h)];rfl
theorem all_snoc (l:List UInt8) (c:UInt8):(l++ [c]).all ofB=(l.all ofB && ofB c):=by simp
theorem Name_any (s:ByteArray) (w:World) (hs:s.size<=9223372036854775000):Calls Tryz.prog 29 #[.string s] w (fun e w'=>e= .returned (.bool (nameB s.data.toList))/\w=w'):=by
 unfold nameB;rw [sz];obtain ⟨B,HB⟩:∃B,Hid (s.data.toList.all ofB=B):=⟨_,rfl⟩;rw [HB.out]
 by_cases h1:1<=s.size
 ·by_cases h2:s.size<=16
  ·rw [show decide (1<=s.size/\s.size<=16)=true by simp [h1,h2],Bool.true_and]
   go_enter Tryz.func29,Tryz.ntmps29
   go_wp2
   go_loop [14] (fun i=>∃k:Nat,k<=s.size/\i= .int .i64 k/\Hid ((s.data.toList.take k).all ofB=true)) (fun i=>s.size - (intOf i).toNat)
   case atStart=>exact ⟨0,Nat.zero_le _,rfl,rfl⟩
   case round=>
    obtain ⟨k,hk,rfl,HK⟩:=hrel
    by_cases hlt:k < s.size
    ·have hx:∀u:World,(Instr.index 9 (.string s) (.int .i64 k)).run Tryz.prog u= .ok (.int .u8 s[k].toNat) u:=run_byte s k hlt s[k].toNat rfl;have HD:=Lib.hid (take_at hlt)
     have HM:Hid (s[k]∈s.data.toList):=by
      show s[k]∈s.data.toList;exact Array.mem_toList_iff.2 (Array.getElem_mem hlt)
     generalize hc:s[k]=c at *;clear hc;have C:=Lib.hid (ofName_any c)
     cases hp:ofB c with
     | true=>
       rw [hp] at C;have HP:=Lib.hid hp;clear hp
       go_wp2_with (go_at_call 61;refine (C.out _).mono ?_;rintro e w' ⟨rfl,rfl⟩)
       go_round
       case rel=>exact ⟨k+1,by omega,by go_num,by show _=_;rw [HD.out,all_snoc,HK.out,HP.out];rfl⟩
       case measure=>simp [intOf];omega
     | false=>
       rw [hp] at C
       have HA:Hid (s.data.toList.all ofB=false):=by
        show _=_;rw [Bool.eq_false_iff];intro h;have:=List.all_eq_true.1 h c HM.out;rw [hp] at this
        cases this
       clear hp
       go_wp2_with (go_at_call 61;refine (C.out _).mono ?_;rintro e w' ⟨rfl,rfl⟩)
       go_ret
       exact ⟨ret_bool (HA.out.symm.trans HB.out),rfl⟩
    ·have HE:Hid (s.data.toList.all ofB=true):=by
      show _=_;have:=HK.out
      rwa [List.take_of_length_le (by rw [sz];omega)] at this
     go_wp2
     go_ret
     exact ⟨ret_bool (HE.out.symm.trans HB.out),rfl⟩
  ·rw [show decide (1<=s.size/\s.size<=16)=false by simp;omega,Bool.false_and]
   go_enter Tryz.func29,Tryz.ntmps29
   go_wp2
   go_ret
   exact ⟨rfl,rfl⟩
 ·rw [show decide (1<=s.size/\s.size<=16)=false by simp;omega,Bool.false_and]
  go_enter Tryz.func29,Tryz.ntmps29
  go_wp2
  go_ret
  exact ⟨rfl,rfl⟩
theorem Name_l (l:List UInt8) (w:World) (hs:l.length<=9223372036854775000):Calls Tryz.prog 29 #[.string ⟨l.toArray⟩] w (fun e w'=>e= .returned (.bool (nameB l))/\w=w'):=
 Name_any ⟨l.toArray⟩ w (by rw [bs_size];exact hs)
end Go.Proofs.YtclghelocglnlaaGreatDoor.Tp
namespace Go.Proofs.YtclghelocglnlaaGreatDoor.Tp
open Go.RowKit
def printV:Option (List UInt8)->Value
 | some z=> .tuple #[.string ⟨z.toArray⟩,.int .i64 0]
 | none=> .tuple #[.string ⟨#[]⟩,.int .i64 70]
def reachN:Nat:=140737488355328
def cutS (l:List UInt8):List UInt8×List UInt8×Bool:=if 47∈l then (l.takeWhile (·≠47),(l.dropWhile (·≠47)).drop 1,true) else (l,[],false)
def cutV (x:List UInt8×List UInt8×Bool):Value:= .tuple #[.string ⟨x.1.toArray⟩,.string ⟨x.2.1.toArray⟩,.bool x.2.2]
def RetD (v:Value) (w:World) (e:Ending) (w':World):Prop:=e= .returned v/\∃n,w'=w.drewN n
end Go.Proofs.YtclghelocglnlaaGreatDoor.Tp
namespace Go.Proofs.YtclghelocglnlaaGreatDoor.Tp
open Go.RowKit
structure RowOf (w:World) (b:Nat) (L:List UInt8):Prop where
 cell:∀j (h:j < L.length),w.cell? ⟨b,j,none⟩=some (.int .u8 (L[j].toNat:Int))
 fro:∀j,j < L.length->w.frozen? ⟨b,j,none⟩=false
theorem heap_new (w:World) (o:Obj):(w.alloc o).heap[w.heap.size]?=some o:=by
 show (w.heap.push o)[w.heap.size]?=_;simp
theorem row_laid (u:World) (L:List UInt8):∃cap W,(convert 9 77 (.string ⟨L.toArray⟩)).run Tryz.prog u= .ok (.slice (some ⟨u.heap.size,0,none⟩) L.length cap) W/\
 RowOf W u.heap.size L/\Below u.heap.size u W:=by
 have hr:=run_bytes_of_string (P:=Tryz.prog) u 9 77 5 ⟨L.toArray⟩ Tryz.underlying9 Tryz.underlying77 Tryz.underlying5;rw [bs_size] at hr;refine ⟨_,_,hr,⟨fun j hj=> ?_,fun j hj=> ?_⟩,((Below.refl _ u).drew).alloc (Nat.le_refl _) _⟩
 ·have hh:=heap_new u.drew (.cells (bytesRow ⟨L.toArray⟩ (grownCap u L.length 0 5)) 5 ((bytesRow ⟨L.toArray⟩ (grownCap u L.length 0 5)).size,(bytesRow ⟨L.toArray⟩ (grownCap u L.length 0 5)).size+1));rw [show u.drew.heap.size=u.heap.size from rfl] at hh;unfold World.cell?;rw [hh];show (if _ then _ else _)=_;rw [if_neg (by simp)];unfold bytesRow;rw [Array.getElem?_append_left (by simpa using hj)];simp [hj]
 ·have hh:=heap_new u.drew (.cells (bytesRow ⟨L.toArray⟩ (grownCap u L.length 0 5)) 5 ((bytesRow ⟨L.toArray⟩ (grownCap u L.length 0 5)).size,(bytesRow ⟨L.toArray⟩ (grownCap u L.length 0 5)).size+1));rw [show u.drew.heap.size=u.heap.size from rfl] at hh
  have hsz:L.length<=(bytesRow ⟨L.toArray⟩ (grownCap u L.length 0 5)).size:=by
   unfold bytesRow;simp
  unfold World.frozen?;rw [hh];simp
  omega
theorem RowOf.set {w:World} {b k:Nat} {L:List UInt8} {y:UInt8} (h:RowOf w b L) (hk:k < L.length):RowOf (w.setCell ⟨b,k,none⟩ (.int .u8 (y.toNat:Int))) b (L.set k y):=by
 refine ⟨fun j hj=> ?_,fun j hj=> ?_⟩
 ·rw [List.length_set] at hj
  by_cases hjk:k=j
  ·subst hjk;rw [World.cell?_setCell_same _ _ _ (h.cell k hk)];simp
  ·rw [World.cell?_setCell_other _ _ _ _ (by intro e;cases e;exact hjk rfl),h.cell j hj];simp [hjk]
 ·rw [List.length_set] at hj;rw [World.frozen?_setCell];exact h.fro j hj
theorem RowOf.back {w:World} {b cap:Nat} {L:List UInt8} (h:RowOf w b L):(convert 77 9 (.slice (some ⟨b,0,none⟩) L.length cap)).run Tryz.prog w= .ok (.string ⟨L.toArray⟩) w:=by
 refine run_convert_bytes_back (P:=Tryz.prog) w 77 9 5 ⟨b,0,none⟩ cap L Tryz.underlying77 Tryz.underlying5 Tryz.underlying9 (fun j hj=> ?_);have:=h.cell j hj
 rwa [show (⟨b,0,none⟩:Addr).add j=⟨b,j,none⟩ by simp [Addr.add];omega]
def fitK (l:List UInt8) (k:Nat):List UInt8:=110::((l.take k).map fitB++l.drop k)
theorem fitK_len (l:List UInt8) (k:Nat):(fitK l k).length=l.length+1:=by
 simp [fitK];omega
theorem fitK_all (l:List UInt8):fitK l l.length=110::l.map fitB:=by simp [fitK]
theorem fitK_at (l:List UInt8) (k:Nat) (h:k < l.length) (h2:k+1 < (fitK l k).length):(fitK l k)[k+1]=l[k]:=by
 simp only [fitK,List.getElem_cons_succ];rw [List.getElem_append_right (by simp;omega)];simp only [List.length_map,List.length_take,List.getElem_drop]
 congr 1
 omega
theorem fitK_set (l:List UInt8) (k:Nat) (h:k < l.length):(fitK l k).set (k+1) (fitB l[k])=fitK l (k+1):=by
 simp only [fitK,List.set_cons_succ]
 congr 1
 have e1:l.take (k+1)=l.take k++ [l[k]]:=by
  rw [List.take_add_one,List.getElem?_eq_getElem h];rfl
 have e2:((l.take k).map fitB).length=k:=by simp [Nat.min_eq_left (Nat.le_of_lt h)]
 rw [e1,List.map_append,List.append_assoc,List.drop_eq_getElem_cons h,List.set_append_right _ _ (by omega),e2,Nat.sub_self]
 rfl
theorem run_pickB (c:UInt8) (u:World):(Instr.index 9 (.string ⟨#[97,98,99,120,121,122,65,66,67,88,89,90,48,49,56,57,95,46,58,45]⟩) (.int .i64 ((c.toNat:Int) % 20))).run Tryz.prog u= .ok (.int .u8 (fitB c).toNat) u:=by
 unfold fitB;rw [show ((c.toNat:Int) % 20)=((c.toNat % 20:Nat):Int) by omega];have hm:c.toNat % 20 < 20:=Nat.mod_lt _ (by decide);generalize c.toNat % 20=m at *;rw [run_index_string _ _ _ _ _ Tryz.underlying9];have e1:((m:Int)).toNat=m:=Int.toNat_natCast m;have:m=0∨m=1∨m=2∨m=3∨m=4∨m=5∨m=6∨m=7∨m=8∨m=9∨m=10∨m=11∨m=12∨m=13∨m=14∨m=15∨m=16∨m=17∨m=18∨m=19:=by omega
 rcases this with rfl | rfl | rfl | rfl | rfl | rfl | rfl | rfl | rfl | rfl | rfl | rfl | rfl | rfl | rfl | rfl | rfl | rfl | rfl | rfl <;> rfl
theorem Fit_any (L:List UInt8) (w:World) (hs:L.length<=reachN):Calls Tryz.prog 18 #[.string ⟨L.toArray⟩] w (Ret (.string ⟨(fitL L).toArray⟩) w):=by
 unfold reachN at hs;obtain ⟨l,hl⟩:∃l,L.take 15=l:=⟨_,rfl⟩;obtain ⟨n,hn⟩:∃n,l.length=n:=⟨_,rfl⟩;have hz:(⟨L.toArray⟩:ByteArray).size=L.length:=bs_size L
 have HT:Hid ((⟨L.toArray⟩:ByteArray).extract 0 n=⟨l.toArray⟩):=by
  show _=_;rw [bs_take,<-hl]
  congr 2
  have:n=min 15 L.length:=by rw [<-hn,<-hl,List.length_take]
  by_cases h:L.length<=15
  ·rw [List.take_of_length_le (by omega),List.take_of_length_le h]
  ·rw [show n=15 by omega]
 have hn15:n=min 15 L.length:=by rw [<-hn,<-hl,List.length_take]
 have HF:Hid (fitL L=fitK l n):=by
  show _=_;unfold fitL;rw [hl,<-hn,fitK_all]
 have HA:Hid ((⟨#[110]⟩:ByteArray)++⟨l.toArray⟩=⟨(fitK l 0).toArray⟩):=bs_append [110] l;have hs1:(⟨#[110]⟩:ByteArray).size=1:=rfl;have hsl:(⟨l.toArray⟩:ByteArray).size=n:=by rw [bs_size,hn]
 have RL:=Lib.hid (fun u=>row_laid u (fitK l 0));rw [fitK_len,hn] at RL;rw [HF.out];have hN:Hid (l.length=n):=hn;clear HF hl hn;have HM:Hid (min ((L.length:Nat):Int) 15=(n:Int)):=by show _=_;omega
 have hn2:n<=15:=by omega
 clear hn15;generalize L.length=q at *;generalize (⟨L.toArray⟩:ByteArray)=s at *;generalize (⟨l.toArray⟩:ByteArray)=sl at *
 go_enter Tryz.func18,Tryz.ntmps18
 go_wp2_with fail
 rw [HM.out,Int.toNat_natCast,HT.out,HA.out];obtain ⟨cap,W,hcv,hrow,hbw⟩:=RL.out w;rw [hcv];have HR:Hid (RowOf W w.heap.size (fitK l 0)):=hrow;have HB:Hid (Below w.heap.size w W):=hbw;clear hcv RL hrow hbw;generalize hE:w.heap.size=b at *;have HE:=Lib.hid hE;clear hE
 go_wp2_with fail
 go_loopw [4] (fun i wr=>∃k:Nat,k<=n/\i= .int .i64 ((k:Int)+1)/\Hid (RowOf wr b (fitK l k))/\Hid (Below b w wr)) (fun i _=>n+1 - (intOf i).toNat)
 case atStart=>exact ⟨0,by omega,rfl,HR,HB⟩
 case round=>
  obtain ⟨k,hk,rfl,HRk,HBk⟩:=hrel
  by_cases hlt:k < n
  ·have hkl:k < l.length:=by rw [hN.out];exact hlt
   have hk2:k+1 < (fitK l k).length:=by rw [fitK_len];omega
   have hc:=HRk.out.cell (k+1) hk2;have hf:=HRk.out.fro (k+1) hk2;rw [fitK_at l k hkl] at hc;have HS:=Lib.hid (fitK_set l k hkl)
   have HRS:Hid (RowOf (wr.setCell ⟨b,k+1,none⟩ (.int .u8 ((fitB l[k]).toNat:Int))) b (fitK l (k+1))):=by
    have:=HRk.out.set (y:=fitB l[k]) hk2
    rwa [HS.out] at this
   have PB:=fun u=>run_pickB l[k] u
   generalize fitB l[k]=y at *;have hm:l[k].toNat<=255:=by have:=l[k].toNat_lt;omega
   generalize l[k].toNat=m at *;clear hkl hk2 HS HRk
   go_wp2_with fail
   go_roundw
   case rel=>exact ⟨k+1,by omega,by go_num,HRS,HBk.out.setCell (p:=⟨b,k+1,none⟩) (Nat.le_refl _) _⟩
   case measure=>simp [intOf];omega
  ·obtain rfl:k=n:=by omega
   have hback:=HRk.out.back (cap:=cap);rw [fitK_len,hN.out] at hback
   go_wp2_with fail
   go_ret
   exact ⟨rfl,by rw [HE.out];exact HBk.out⟩
theorem bcell {W w1:World} (hb:Below W.heap.size W w1):(∀b o,b < W.heap.size->w1.cell? ⟨b,o,none⟩=W.cell? ⟨b,o,none⟩)/\(∀b o,b < W.heap.size->w1.frozen? ⟨b,o,none⟩=W.frozen? ⟨b,o,none⟩):=
 ⟨fun b o h=>hb.cell (p:=⟨b,o,none⟩) h,fun b o h=>hb.frozen (p:=⟨b,o,none⟩) h⟩
end Go.Proofs.YtclghelocglnlaaGreatDoor.Tp
