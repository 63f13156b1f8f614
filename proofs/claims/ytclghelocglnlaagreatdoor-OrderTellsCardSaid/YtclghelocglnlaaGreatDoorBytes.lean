import Derived.Test.YtclghelocglnlaaGreatDoorLex
import Derived.Test.YtclghelocglnlaaGreatDoorQuoB
import Derived.RegionTactic
import Derived.ChangeAlike
set_option maxHeartbeats 0
set_option maxRecDepth 100000
set_option linter.all false
namespace Go.Proofs.YtclghelocglnlaaGreatDoor.Lex
open Go.RowKit
def Ret (v:Value) (w:World) (e:Ending) (w':World):Prop:=e= .returned v/\Below w.heap.size w w'
theorem bcell {W w1:World} (hb:Below W.heap.size W w1):(∀b o,b < W.heap.size->w1.cell? ⟨b,o,none⟩=W.cell? ⟨b,o,none⟩)/\(∀b o,b < W.heap.size->w1.frozen? ⟨b,o,none⟩=W.frozen? ⟨b,o,none⟩):=
 ⟨fun b o h=>hb.cell (p:=⟨b,o,none⟩) h,fun b o h=>hb.frozen (p:=⟨b,o,none⟩) h⟩
theorem ret_int {k:IntKind} {a b:Int} (h:a=b):Ending.returned (.int k a)= .returned (.int k b):=by rw [h]
theorem ret_bool {a b:Bool} (h:a=b):Ending.returned (.bool a)= .returned (.bool b):=by rw [h]
theorem sz (s:ByteArray):s.data.toList.length=s.size:=by rw [Array.length_toList];rfl
theorem bs_self (s:ByteArray):s=⟨s.data.toList.toArray⟩:=by apply ByteArray.ext;simp
theorem bs_take (s:ByteArray) (p:Nat):s.extract 0 p=⟨(s.data.toList.take p).toArray⟩:=by
 apply ByteArray.ext
 rw [ByteArray.data_extract]
 apply Array.ext'
 rw [Array.toList_extract];simp [List.extract]
theorem bs_drop (s:ByteArray) (p:Nat):(s.extract p s.size).data.toList=s.data.toList.drop p:=Quo.ext_drop s p
theorem drop_at {s:ByteArray} {k:Nat} (h:k < s.size):s.data.toList.drop k=s[k]::s.data.toList.drop (k+1):=by
 rw [List.drop_eq_getElem_cons (by rw [sz];exact h)];rfl
theorem drop_end {s:ByteArray} {k:Nat} (h:¬k < s.size):s.data.toList.drop k= []:=List.drop_eq_nil_of_le (by rw [sz];omega)
theorem index_has (l:List UInt8) (c:UInt8):decide (0<=Lib.indexByte l c)=l.contains c:=by
 induction l with
 | nil=>rfl
 | cons b l ih=>
   have hg:=Lib.indexByte_ge l c;unfold Lib.indexByte
   by_cases h:b=c
   ·subst h;simp
   ·have hb:(b==c)=false:=(by simpa using h);rw [List.contains_cons,hb,if_neg (by simp)];have hcb:(c==b)=false:=(by simpa using fun e=>h e.symm);rw [hcb,Bool.false_or,<-ih]
    by_cases h2:Lib.indexByte l c= -1
    ·rw [h2];simp
    ·rw [if_neg (by simpa using h2),Bool.eq_iff_iff];simp only [decide_eq_true_eq]
     omega
theorem isBlank_any (c:UInt8) (w:World):Calls Tryz.prog 95 #[.int .u8 c.toNat] w (fun e w'=>e= .returned (.bool (blankB c))/\w=w'):=by
 have IX:=Lib.hid (fun w=>Tryz.strings_IndexByte ⟨#[32,9,10,13]⟩ (c.toNat:Int) w);rw [show (⟨#[32,9,10,13]⟩:ByteArray).data.toList= [32,9,10,13] from rfl,Int.toNat_natCast,show c.toNat.toUInt8=c by simp] at IX;have HX:=Lib.hid (index_has [32,9,10,13] c);generalize Lib.indexByte [32,9,10,13] c=x at *
 go_enter Tryz.func95,Tryz.ntmps95
 go_wp2_with (go_at_call 128;refine (IX.out _).mono ?_;rintro e w' ⟨rfl,rfl⟩)
 go_ret
 exact ⟨ret_bool HX.out,rfl⟩
theorem isSign_any (c:UInt8) (w:World):Calls Tryz.prog 129 #[.int .u8 c.toNat] w (fun e w'=>e= .returned (.bool (signB c))/\w=w'):=by
 have IX:=Lib.hid (fun w=>Tryz.strings_IndexByte ⟨#[123,125,91,93,44,58]⟩ (c.toNat:Int) w);rw [show (⟨#[123,125,91,93,44,58]⟩:ByteArray).data.toList= [123,125,91,93,44,58] from rfl,Int.toNat_natCast,show c.toNat.toUInt8=c by simp] at IX;have HX:=Lib.hid (index_has [123,125,91,93,44,58] c);generalize Lib.indexByte [123,125,91,93,44,58] c=x at *
 go_enter Tryz.func129,Tryz.ntmps129
 go_wp2_with (go_at_call 128;refine (IX.out _).mono ?_;rintro e w' ⟨rfl,rfl⟩)
 go_ret
 exact ⟨ret_bool HX.out,rfl⟩
theorem isNumeric_any (c:UInt8) (w:World):Calls Tryz.prog 161 #[.int .u8 c.toNat] w (fun e w'=>e= .returned (.bool (numB c))/\w=w'):=by
 have IX:=Lib.hid (fun w=>Tryz.strings_IndexByte ⟨#[48,49,50,51,52,53,54,55,56,57,43,45,46,101,69]⟩ (c.toNat:Int) w);rw [show (⟨#[48,49,50,51,52,53,54,55,56,57,43,45,46,101,69]⟩:ByteArray).data.toList= [48,49,50,51,52,53,54,55,56,57,43,45,46,101,69] from rfl,Int.toNat_natCast,show c.toNat.toUInt8=c by simp] at IX;have HX:=Lib.hid (index_has [48,49,50,51,52,53,54,55,56,57,43,45,46,101,69] c);generalize Lib.indexByte [48,49,50,51,52,53,54,55,56,57,43,45,46,101,69] c=x at *
 go_enter Tryz.func161,Tryz.ntmps161
 go_wp2_with (go_at_call 128;refine (IX.out _).mono ?_;rintro e w' ⟨rfl,rfl⟩)
 go_ret
 exact ⟨ret_bool HX.out,rfl⟩
theorem isDigit_any (c:UInt8) (w:World):Calls Tryz.prog 131 #[.int .u8 c.toNat] w (fun e w'=>e= .returned (.bool (digB c))/\w=w'):=by
 unfold digB;generalize c.toNat=n
 go_enter Tryz.func131,Tryz.ntmps131
 go_wp2
 all_goals go_ret
 all_goals exact ⟨ret_bool (by rw [Bool.eq_iff_iff];simp;try omega),rfl⟩
theorem isLetter_any (c:UInt8) (w:World):Calls Tryz.prog 133 #[.int .u8 c.toNat] w (fun e w'=>e= .returned (.bool (letB c))/\w=w'):=by
 unfold letB;generalize c.toNat=n
 go_enter Tryz.func133,Tryz.ntmps133
 go_wp2
 all_goals go_ret
 all_goals exact ⟨ret_bool (by rw [Bool.eq_iff_iff];simp;try omega),rfl⟩
theorem span_blank (s:ByteArray) (w:World) (hs:s.size<=1000000):
 Calls Tryz.prog 94 #[.string s,.func (.func 95) #[] #[]] w (fun e w'=>e= .returned (.int .i64 (spanN blankB s.data.toList))/\w=w'):=by
 go_enter Tryz.func94,Tryz.ntmps94
 go_wp2
 go_loop [5] (fun i=>∃k:Nat,k<=s.size/\i= .int .i64 k/\Hid (spanN blankB s.data.toList=k+spanN blankB (s.data.toList.drop k))) (fun i=>s.size - (intOf i).toNat)
 case atStart=>exact ⟨0,Nat.zero_le _,rfl,by show _=_;simp⟩
 case round=>
  obtain ⟨k,hk,rfl,HK⟩:=hrel
  by_cases hlt:k < s.size
  ·have hx:∀u:World,(Instr.index 9 (.string s) (.int .i64 k)).run Tryz.prog u= .ok (.int .u8 s[k].toNat) u:=Quo.run_byte s k hlt s[k].toNat rfl;have HD:=Lib.hid (drop_at hlt);generalize hc:s[k]=c at *;have C:=Lib.hid (isBlank_any c);clear hc
   cases hp:blankB c with
   | true=>
     rw [hp] at C
     have HN:Hid (spanN blankB s.data.toList=(k+1)+spanN blankB (s.data.toList.drop (k+1))):=by
      show _=_;rw [HK.out,HD.out,spanN_yes hp];omega
     clear HK HD hp
     go_wp2_with (go_at_call 95;refine (C.out _).mono ?_;rintro e w' ⟨rfl,rfl⟩)
     go_round
     case rel=>exact ⟨k+1,by omega,by go_num,HN⟩
     case measure=>simp [intOf];omega
   | false=>
     rw [hp] at C
     have HN:Hid (spanN blankB s.data.toList=k):=by
      show _=_;rw [HK.out,HD.out,spanN_no hp];rfl
     clear HK HD hp
     go_wp2_with (go_at_call 95;refine (C.out _).mono ?_;rintro e w' ⟨rfl,rfl⟩)
     go_ret
     exact ⟨ret_int (by rw [HN.out]),rfl⟩
  ·have HN:Hid (spanN blankB s.data.toList=k):=by
    show _=_;rw [HK.out,drop_end hlt];rfl
   go_wp2
   go_ret
   exact ⟨ret_int (by rw [HN.out]),rfl⟩
theorem span_num (s:ByteArray) (w:World) (hs:s.size<=1000000):
 Calls Tryz.prog 94 #[.string s,.func (.func 161) #[] #[]] w (fun e w'=>e= .returned (.int .i64 (spanN numB s.data.toList))/\w=w'):=by
 go_enter Tryz.func94,Tryz.ntmps94
 go_wp2
 go_loop [5] (fun i=>∃k:Nat,k<=s.size/\i= .int .i64 k/\Hid (spanN numB s.data.toList=k+spanN numB (s.data.toList.drop k))) (fun i=>s.size - (intOf i).toNat)
 case atStart=>exact ⟨0,Nat.zero_le _,rfl,by show _=_;simp⟩
 case round=>
  obtain ⟨k,hk,rfl,HK⟩:=hrel
  by_cases hlt:k < s.size
  ·have hx:∀u:World,(Instr.index 9 (.string s) (.int .i64 k)).run Tryz.prog u= .ok (.int .u8 s[k].toNat) u:=Quo.run_byte s k hlt s[k].toNat rfl;have HD:=Lib.hid (drop_at hlt);generalize hc:s[k]=c at *;have C:=Lib.hid (isNumeric_any c);clear hc
   cases hp:numB c with
   | true=>
     rw [hp] at C
     have HN:Hid (spanN numB s.data.toList=(k+1)+spanN numB (s.data.toList.drop (k+1))):=by
      show _=_;rw [HK.out,HD.out,spanN_yes hp];omega
     clear HK HD hp
     go_wp2_with (go_at_call 161;refine (C.out _).mono ?_;rintro e w' ⟨rfl,rfl⟩)
     go_round
     case rel=>exact ⟨k+1,by omega,by go_num,HN⟩
     case measure=>simp [intOf];omega
   | false=>
     rw [hp] at C
     have HN:Hid (spanN numB s.data.toList=k):=by
      show _=_;rw [HK.out,HD.out,spanN_no hp];rfl
     clear HK HD hp
     go_wp2_with (go_at_call 161;refine (C.out _).mono ?_;rintro e w' ⟨rfl,rfl⟩)
     go_ret
     exact ⟨ret_int (by rw [HN.out]),rfl⟩
  ·have HN:Hid (spanN numB s.data.toList=k):=by
    show _=_;rw [HK.out,drop_end hlt];rfl
   go_wp2
   go_ret
   exact ⟨ret_int (by rw [HN.out]),rfl⟩
theorem span_let (s:ByteArray) (w:World) (hs:s.size<=1000000):
 Calls Tryz.prog 94 #[.string s,.func (.func 133) #[] #[]] w (fun e w'=>e= .returned (.int .i64 (spanN letB s.data.toList))/\w=w'):=by
 go_enter Tryz.func94,Tryz.ntmps94
 go_wp2
 go_loop [5] (fun i=>∃k:Nat,k<=s.size/\i= .int .i64 k/\Hid (spanN letB s.data.toList=k+spanN letB (s.data.toList.drop k))) (fun i=>s.size - (intOf i).toNat)
 case atStart=>exact ⟨0,Nat.zero_le _,rfl,by show _=_;simp⟩
 case round=>
  obtain ⟨k,hk,rfl,HK⟩:=hrel
  by_cases hlt:k < s.size
  ·have hx:∀u:World,(Instr.index 9 (.string s) (.int .i64 k)).run Tryz.prog u= .ok (.int .u8 s[k].toNat) u:=Quo.run_byte s k hlt s[k].toNat rfl;have HD:=Lib.hid (drop_at hlt);generalize hc:s[k]=c at *;have C:=Lib.hid (isLetter_any c);clear hc
   cases hp:letB c with
   | true=>
     rw [hp] at C
     have HN:Hid (spanN letB s.data.toList=(k+1)+spanN letB (s.data.toList.drop (k+1))):=by
      show _=_;rw [HK.out,HD.out,spanN_yes hp];omega
     clear HK HD hp
     go_wp2_with (go_at_call 133;refine (C.out _).mono ?_;rintro e w' ⟨rfl,rfl⟩)
     go_round
     case rel=>exact ⟨k+1,by omega,by go_num,HN⟩
     case measure=>simp [intOf];omega
   | false=>
     rw [hp] at C
     have HN:Hid (spanN letB s.data.toList=k):=by
      show _=_;rw [HK.out,HD.out,spanN_no hp];rfl
     clear HK HD hp
     go_wp2_with (go_at_call 133;refine (C.out _).mono ?_;rintro e w' ⟨rfl,rfl⟩)
     go_ret
     exact ⟨ret_int (by rw [HN.out]),rfl⟩
  ·have HN:Hid (spanN letB s.data.toList=k):=by
    show _=_;rw [HK.out,drop_end hlt];rfl
   go_wp2
   go_ret
   exact ⟨ret_int (by rw [HN.out]),rfl⟩
end Go.Proofs.YtclghelocglnlaaGreatDoor.Lex
