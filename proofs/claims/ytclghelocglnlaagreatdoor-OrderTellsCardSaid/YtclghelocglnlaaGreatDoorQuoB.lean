import Derived.Test.YtclghelocglnlaaGreatDoorShelf
import Derived.Test.YtclghelocglnlaaGreatDoorChecked
import Derived.WalkKit
import Derived.BigCall
import Derived.Lib.Hide
import Derived.Test.YtclghelocglnlaaGreatDoorQuoA
import Derived.ProofKit
import Derived.Deep.QuietTactic
import Derived.BigQuiet
import Derived.Laws.Cover4
set_option maxHeartbeats 0
set_option maxRecDepth 100000
set_option linter.all false
namespace Go.Proofs.YtclghelocglnlaaGreatDoor.Quo
open Go.RowKit
abbrev BAt (B b:Nat) (bs:List Value) (w:World):Prop:=Lib.BuilderAtF 81 5 B b (.pointer (some ⟨b,0,none⟩)) bs w
abbrev IsB (B b:Nat) (bs:List Value) (w:World):Prop:=Lib.IsBuilderF 81 5 B b bs w
abbrev Kept (b:Nat) (w w':World):Prop:=Lib.OthersKept 5 (some b) w w'
def Left (B b:Nat) (bs:List Value) (w w':World):Prop:=BAt B b bs w'/\Below B w w'/\Kept b w w'
theorem sizeB:∃j,Tryz.prog.info? 81=some j/\j.size=2:=Option.map_eq_some_iff.1 (show (Tryz.prog.info? 81).map (·.size)=some 2 by kernel_rfl)
theorem infoByte:(Tryz.prog.info? 5).map (fun i=>(i.zero,i.size,i.bytes))=some (some (.int .u8 0),1,1):=by kernel_rfl
theorem copyCheck_used (b:Nat) (w:World) (h0:w.cell? ⟨b,0,none⟩=some (.pointer (some ⟨b,0,none⟩))):
 Calls Tryz.prog 115 #[.pointer (some ⟨b,0,none⟩)] w fun e w'=>e= .returned (.tuple #[])/\w=w':=by
 obtain ⟨j,hj,_⟩:=sizeB;have same:(binOp .neq 79 (.pointer (some ⟨b,0,none⟩)) (.pointer (some ⟨b,0,none⟩))).run Tryz.prog w= .ok (.bool false) w:=Lib.run_neq_ptr_same w _ Tryz.underlying79 hj
 go_enter Tryz.func115,Tryz.ntmps115
 go_wp2
 all_goals first | (rw [same];go_wp2) | skip
 all_goals go_end0
 all_goals exact ⟨rfl,rfl⟩
theorem copyCheck_fresh (b:Nat) (w:World) (h0:w.cell? ⟨b,0,none⟩=some (.pointer none)) (hsh:w.shape? b=some (81,2)) (hfz:w.frozen? ⟨b,0,none⟩=false):
 Calls Tryz.prog 115 #[.pointer (some ⟨b,0,none⟩)] w fun e w'=>e= .returned (.tuple #[])/\w.setCell ⟨b,0,none⟩ (.pointer (some ⟨b,0,none⟩))=w':=by
 obtain ⟨j,hj,hjs⟩:=sizeB
 have there:(convert 79 174 (.pointer (some ⟨b,0,none⟩))).run Tryz.prog w= .ok (.pointer (some ⟨b,0,none⟩)) w:=
  Lib.run_to_unsafe w _ Tryz.underlying79 Tryz.underlying174 hj (by omega) hsh (Nat.zero_lt_succ 1)
 have back:(convert 174 79 (.pointer (some ⟨b,0,none⟩))).run Tryz.prog w= .ok (.pointer (some ⟨b,0,none⟩)) w:=
  Lib.run_from_unsafe w _ Tryz.underlying174 Tryz.underlying79 hj hsh (by kernel_rfl)
 have kept:(callFunc 151 #[.pointer (some ⟨b,0,none⟩)]).run Tryz.prog w=_:=
  run_callFunc_extern Tryz.func151 (by kernel_rfl) (by kernel_rfl) (by kernel_rfl) (e:=Extern.AbiNoEscape.same) (by kernel_rfl) _ w
 rw [Lib.run_noEscape] at kept;simp only [Result.andThen] at kept
 go_enter Tryz.func115,Tryz.ntmps115
 go_wp2
 go_end0
 exact ⟨rfl,rfl⟩
theorem copyCheck_any (B b:Nat) (bs:List Value) (w:World) (h:IsB B b bs w):
 Calls Tryz.prog 115 #[.pointer (some ⟨b,0,none⟩)] w fun e w'=>e= .returned (.tuple #[])/\Left B b bs w w':=by
 cases h with
 | inl h=>exact (copyCheck_fresh b w h.cell0 h.shape h.frozen0).mono fun e w' k=>⟨k.1,k.2 ▸ ⟨h.used _,(Below.refl B w).setCell h.1 _,(Lib.OthersKept.refl _ (some b) w).setCell ⟨b,0,none⟩ rfl _⟩⟩
 | inr h=>exact (copyCheck_used b w h.cell0).mono fun e w' k=>⟨k.1,k.2 ▸ ⟨h,Below.refl B _,Lib.OthersKept.refl _ _ _⟩⟩
structure Opened (B b:Nat) (bs:List Value) (v:Value) (w:World):Prop where
 base:B<=b
 block:w.heap[b]?=some (.cells #[.pointer (some ⟨b,0,none⟩),v] 81 (0,0))
 row:w.ownsRowF B 5 1 v bs.length bs
 other:v.ownBlock≠some b
theorem opened {B b:Nat} {bs:List Value} {w:World} (h:BAt B b bs w):∃v,Opened B b bs v w:=by
 obtain ⟨h1,v,h2,h3,h4⟩:=h;exact ⟨v,h1,h2,h3,h4⟩
section
variable {B b:Nat} {bs bs':List Value} {v v':Value} {w w0 w':World}
theorem Opened.lt (h:Opened B b bs v w):b < w.heap.size:=(Array.getElem?_eq_some_iff.1 h.block).1
theorem Opened.buf (h:Opened B b bs v w):w.cell? ⟨b,1,none⟩=some v:=by rw [Lib.cell_of_heap h.block];rfl
theorem Opened.slice (h:Opened B b bs v w):∃ao cap,v= .slice ao bs.length cap:=by
 rcases h.row.2 with ⟨rfl,hn⟩ | ⟨g,cap,_,_,rfl,_⟩
 ·exact ⟨none,0,by rw [hn]⟩
 ·exact ⟨_,cap,rfl⟩
theorem Opened.alloc (h:Opened B b bs v w) (o:Obj):Opened B b bs v (w.alloc o):=
 ⟨h.base,by rw [Lib.alloc_old w o b h.lt];exact h.block,h.row.alloc o,h.other⟩
theorem Opened.still (h:Opened B b bs v w) (hg:w.grownBy w' v.ownBlock):w'.heap[b]?=some (.cells #[.pointer (some ⟨b,0,none⟩),v] 81 (0,0)):=by
 rw [hg.block b h.lt fun e=>h.other e.symm];exact h.block
theorem Opened.buf' (h:Opened B b bs v w) (hg:w.grownBy w' v.ownBlock):w'.cell? ⟨b,1,none⟩=some v:=by rw [Lib.cell_of_heap (h.still hg)];rfl
theorem Opened.free (h:Opened B b bs v w) (hg:w.grownBy w' v.ownBlock):w'.frozen? ⟨b,1,none⟩=false:=Lib.frozen_of_heap (h.still hg) 1
theorem Opened.put (h:Opened B b bs v w) (hg:w.grownBy w' v.ownBlock) (hr:w'.ownsRowF B 5 1 v' bs'.length bs') (hB:B<=w.heap.size) (hb:Below B w0 w) (hk:Kept b w0 w):
 Left B b bs' w0 (w'.setCell ⟨b,1,none⟩ v'):=
 ⟨Lib.BuilderAtF.put h.base (h.still hg) hr (by decide),(hb.grown hg hB fun k e=>(h.row.lt k e).1).setCell h.base _,(hk.grown hg (Lib.ownsRowF_kind h.row)).setCell ⟨b,1,none⟩ rfl _⟩
end
theorem writeByte_any (B b:Nat) (bs:List Value) (c:Int) (w:World) (h:IsB B b bs w) (hlen:bs.length+1<=140737488355328) (hBw:B<=w.heap.size):
 Calls Tryz.prog 85 #[.pointer (some ⟨b,0,none⟩),.int .u8 c] w fun e w'=>e= .returned .nilIface/\Left B b (bs++ [.int .u8 c]) w w':=by
 obtain ⟨i0,hi,hz0,hz1,hz2⟩:=info_parts infoByte
 go_enter Tryz.func85,Tryz.ntmps85
 go_wp2_with (go_at_call 115;refine (copyCheck_any B b bs _ h).mono ?_)
 rintro e w1 ⟨rfl,hB1,hb1,hk1⟩;obtain ⟨v,O⟩:=opened hB1;have hz:B<=w1.heap.size:=Nat.le_trans hBw hb1.size;have hcell:=O.buf;have O1:=O.alloc (.cells #[.int .u8 c] 5)
 go_wp2_with (at_builtin;refine wpList_append_ownF _ rfl _ _ 77 rfl B 5 i0 (.int .u8 0) 1 1 Tryz.underlying77 hi hz0 hz1 hz2 rfl (by decide) _ _ _ rfl O1.row ⟨w1.heap.size,0,none⟩ 1 1 [.int .u8 c] rfl rfl ?cell ?one ?len ?bytes ?from_ ?_)
 case cell=>
  intro j u hj;obtain rfl:j=0:=by have:=(List.getElem?_eq_some_iff.1 hj).1;simp at this;omega
  obtain rfl: .int .u8 c=u:=Option.some.inj hj;simp [Addr.add]
 case one=>intro u hu;rw [List.mem_singleton.1 hu];rfl
 case len=>unfold maxLen;omega
 case bytes=>omega
 case from_=>simp;omega
 intro v2 w2 hr hg _;have hbuf:=O1.buf' hg;have hfree:=O1.free hg;have hL:=O1.put hg (bs':=bs++ [.int .u8 c]) (by rw [List.length_append];exact hr) (by simp;omega) (hb1.alloc hz _) (hk1.alloc _)
 obtain ⟨ao,n2,c2,rfl⟩:∃ao n2 c2,v2= .slice ao n2 c2:=by
  rcases hr.2 with ⟨e,_⟩ | ⟨g,cp,_,_,e,_⟩ <;> exact ⟨_,_,_,e⟩
 go_wp2
 go_ret
 exact ⟨rfl,hL⟩
theorem writeString_any (B b:Nat) (bs:List Value) (s:ByteArray) (w:World) (h:IsB B b bs w) (hlen:bs.length+s.size<=140737488355328) (hBw:B<=w.heap.size):
 Calls Tryz.prog 82 #[.pointer (some ⟨b,0,none⟩),.string s] w fun e w'=>e= .returned (.tuple #[.int .i64 s.size,.nilIface])/\Left B b (bs++Lib.strCells s) w w':=by
 obtain ⟨i0,hi,hz0,hz1,hz2⟩:=info_parts infoByte
 go_enter Tryz.func82,Tryz.ntmps82
 go_wp2_with (go_at_call 115;refine (copyCheck_any B b bs _ h).mono ?_)
 rintro e w1 ⟨rfl,hB1,hb1,hk1⟩;obtain ⟨v,O⟩:=opened hB1;have hz:B<=w1.heap.size:=Nat.le_trans hBw hb1.size;have hcell:=O.buf
 go_wp2_with (at_builtin;refine Lib.wpList_append_own_stringF _ rfl _ _ 77 9 rfl B 5 i0 Tryz.underlying77 Tryz.underlying9 hi hz0 hz1 hz2 _ _ _ rfl O.row s rfl ?len hlen hz ?_)
 case len=>unfold maxLen;omega
 intro v2 w2 hr hg _;have hbuf:=O.buf' hg;have hfree:=O.free hg;have hL:=O.put hg (bs':=bs++Lib.strCells s) (by rw [List.length_append,Lib.strCells_length];exact hr) hz hb1 hk1
 obtain ⟨ao,n2,c2,rfl⟩:∃ao n2 c2,v2= .slice ao n2 c2:=by
  rcases hr.2 with ⟨e,_⟩ | ⟨g,cp,_,_,e,_⟩ <;> exact ⟨_,_,_,e⟩
 go_wp2
 go_ret2
 exact ⟨rfl,hL⟩
theorem writeRune_any (B b:Nat) (bs:List Value) (r:Int) (hr0: -2147483648<=r) (hr1:r<=2147483647) (w:World) (h:IsB B b bs w) (hlen:bs.length+4<=140737488355328) (hBw:B<=w.heap.size):
 Calls Tryz.prog 174 #[.pointer (some ⟨b,0,none⟩),.int .i32 r] w fun e w'=>e= .returned (.tuple #[.int .i64 (Lib.runeCells r).length,.nilIface])/\Left B b (bs++Lib.runeCells r) w w':=by
 have hk4:=Lib.runeCells_le r
 go_enter Tryz.func174,Tryz.ntmps174
 go_wp2_with (go_at_call 115;refine (copyCheck_any B b bs _ h).mono ?_)
 rintro e w1 ⟨rfl,hB1,hb1,hk1⟩;obtain ⟨v,O⟩:=opened hB1;obtain ⟨ao,cap,rfl⟩:=O.slice;have hz:B<=w1.heap.size:=Nat.le_trans hBw hb1.size;have hcell:=O.buf
 go_wp2_with (go_at_call 187;refine (Tryz.utf8_AppendRune_row B _ bs.length bs r hr0 hr1 _ O.row hlen hz).mono ?_)
 rintro e w2 ⟨v2,rfl,hr,o,hg⟩;have O1:=O.alloc o;have hbuf:=O1.buf' hg;have hfree:=O1.free hg;have hL:=O1.put hg (bs':=bs++Lib.runeCells r) (by rw [List.length_append];exact hr) (by simp;omega) (hb1.alloc hz _) (hk1.alloc _)
 obtain ⟨a2,c2,rfl⟩:∃a2 c2,v2= .slice a2 (bs.length+(Lib.runeCells r).length) c2:=by
  rcases hr.2 with ⟨_,hn⟩ | ⟨g,cp,_,_,e,_⟩
  ·omega
  ·exact ⟨_,_,e⟩
 go_wp2
 go_ret2
 refine ⟨?_,hL⟩;rw [show (Lib.runeCells r).length=bs.length+(Lib.runeCells r).length - bs.length by omega];simp
 omega
end Go.Proofs.YtclghelocglnlaaGreatDoor.Quo
namespace Go.Proofs.YtclghelocglnlaaGreatDoor.Quo
open Go.RowKit
theorem bcell {W w1:World} (hb:Below W.heap.size W w1):(∀b o,b < W.heap.size->w1.cell? ⟨b,o,none⟩=W.cell? ⟨b,o,none⟩)/\(∀b o,b < W.heap.size->w1.frozen? ⟨b,o,none⟩=W.frozen? ⟨b,o,none⟩):=
 ⟨fun b o h=>hb.cell (p:=⟨b,o,none⟩) h,fun b o h=>hb.frozen (p:=⟨b,o,none⟩) h⟩
theorem ret_int {k:IntKind} {a b:Int} (h:a=b):Ending.returned (.int k a)= .returned (.int k b):=by rw [h]
theorem ret_bool {a b:Bool} (h:a=b):Ending.returned (.bool a)= .returned (.bool b):=by rw [h]
theorem ret_str {a b:ByteArray} (h:a=b):Ending.returned (.string a)= .returned (.string b):=by rw [h]
def Ret (v:Value) (w:World) (e:Ending) (w':World):Prop:=e= .returned v/\Below w.heap.size w w'
theorem bs_append (a b:List UInt8):(⟨a.toArray⟩++⟨b.toArray⟩:ByteArray)=⟨(a++b).toArray⟩:=by
 apply ByteArray.ext;simp
theorem bs_take (F:List UInt8) (p:Nat):(⟨F.toArray⟩:ByteArray).extract 0 p=⟨(F.take p).toArray⟩:=by
 apply ByteArray.ext;simp
theorem bs_size (F:List UInt8):(⟨F.toArray⟩:ByteArray).size=F.length:=List.size_toArray
theorem ext_drop (s:ByteArray) (p:Nat):(s.extract p s.size).data.toList=s.data.toList.drop p:=by
 rw [ByteArray.data_extract,Array.toList_extract];simp only [List.extract];exact List.take_of_length_le (by rw [List.length_drop,Array.length_toList];exact Nat.le_refl _)
theorem bs_self (s:ByteArray):s=⟨s.data.toList.toArray⟩:=by apply ByteArray.ext;simp
theorem sz (s:ByteArray):s.data.toList.length=s.size:=by rw [Array.length_toList];rfl
def pickS (c n:Int):Int:=(if c < 0 then -(c+1) else c) % n
theorem pickS_nonneg {c n:Int} (h:0 < n):0<=pickS c n:=Int.emod_nonneg _ (by omega)
theorem pickS_lt {c n:Int} (h:0 < n):pickS c n < n:=Int.emod_lt_of_pos _ h
theorem broken_any (r:Nat) (s:ByteArray) (w:World):
 Calls Tryz.prog 168 #[.int .i32 r,.string s] w (fun e w'=>e= .returned (.bool (decide (r=65533) && !(Lib.hasPrefix s.data.toList [239,191,189])))/\w=w'):=by
 by_cases h:r=65533
 ·subst h
  go_enter Tryz.func168,Tryz.ntmps168
  go_wp2_with (go_at_call 154;refine (Tryz.strings_HasPrefix _ _ _).mono ?_;rintro e w' ⟨rfl,rfl⟩)
  all_goals go_ret
  all_goals exact ⟨ret_bool (by simp),rfl⟩
 ·have h1:((r:Int)==65533)=false:=by simp;omega
  go_enter Tryz.func168,Tryz.ntmps168
  go_wp2_with (go_at_call 154;refine (Tryz.strings_HasPrefix _ _ _).mono ?_;rintro e w' ⟨rfl,rfl⟩)
  all_goals go_ret
  all_goals exact ⟨ret_bool (by simp [h]),rfl⟩
theorem broken_at (s:ByteArray) (pos:Nat) (h:pos < s.size) (w:World):
 Calls Tryz.prog 168 #[.int .i32 (Utf8.decode s pos).1,.string (s.extract pos s.size)] w (fun e w'=>e= .returned (.bool (badB (s.data.toList.drop pos)))/\w=w'):=by
 refine (broken_any _ _ _).mono ?_;rintro e w' ⟨rfl,rfl⟩;rw [ext_drop,<-Lib.decodeL_drop,broken_iff]
 ·exact ⟨rfl,rfl⟩
 ·intro h0;have:=congrArg List.length h0;rw [List.length_drop,sz] at this;simp at this
  omega
theorem drop_ne {s:ByteArray} {pos:Nat} (h:pos < s.size):s.data.toList.drop pos≠ []:=by
 intro h0;have:=congrArg List.length h0;rw [List.length_drop,sz] at this;simp at this
 omega
theorem drop_end {s:ByteArray} {pos:Nat} (h:¬pos < s.size):s.data.toList.drop pos= []:=List.drop_eq_nil_of_le (by rw [sz];omega)
theorem decode_bounds (s:ByteArray) (pos:Nat) (h:pos < s.size):1<=(Utf8.decode s pos).2/\(badB (s.data.toList.drop pos)=false->pos+(Utf8.decode s pos).2<=s.size):=by
 refine ⟨by rw [<-Lib.decodeL_drop];exact width_pos,fun hb=> ?_⟩;obtain ⟨_,_,_,_,h5⟩:=good_front (drop_ne h) hb;rw [List.length_drop,sz,Lib.decodeL_drop] at h5
 omega
theorem whole_any (s:ByteArray) (w:World) (hs:s.size<=140737488355328):
 Calls Tryz.prog 149 #[.string s] w (Ret (.bool (wholeB s.data.toList)) w):=by
 go_enter Tryz.func149,Tryz.ntmps149
 go_wp2
 go_loopw [] (fun wr=>∃pos:Nat,wr.heap[w.heap.size]?=some (.stringIter s pos)/\Below w.heap.size w wr/\Hid (wholeB s.data.toList=wholeB (s.data.toList.drop pos))) (fun wr=>s.size - wr.iterPos w.heap.size)
 case atStart=>
  refine ⟨0,?_,(Below.refl _ w).alloc (Nat.le_refl _) _,by show _=_;rw [List.drop_zero]⟩;have:=World.iter_heap w s 0
  simpa using this
 case round=>
  obtain ⟨pos,hit,hbw,hacc⟩:=hrel
  by_cases hp:pos < s.size
  ·have hnx:∀ty,(Instr.next (.pointer (some ⟨w.heap.size,0,none⟩)) true ty).run Tryz.prog wr=_:=fun ty=>Lib.run_next_any_at wr w.heap.size s pos ty hit hp
   obtain ⟨hw1,hw2⟩:=decode_bounds s pos hp;have hd1:=decode_le s pos;have hit2:=Lib.iterAt_heap wr w.heap.size s pos (pos+(Utf8.decode s pos).2) hit;have hbw2:=Lib.below_iterAt hbw (k:=w.heap.size) (by omega) s (pos+(Utf8.decode s pos).2);have BR:=Lib.hid (broken_at s pos hp)
   cases hb:badB (s.data.toList.drop pos) with
   | true=>
     rw [hb] at BR
     go_wp2_with (go_at_call 168;refine (BR.out _).mono ?_;rintro e w' ⟨rfl,rfl⟩)
     go_ret
     exact ⟨ret_bool (by rw [hacc.out,wholeB_bad (drop_ne hp) hb]),hbw2⟩
   | false=>
     rw [hb] at BR;have HW:=Lib.hid (wholeB_good (drop_ne hp) hb);rw [Lib.decodeL_drop,List.drop_drop] at HW
     go_wp2_with (go_at_call 168;refine (BR.out _).mono ?_;rintro e w' ⟨rfl,rfl⟩)
     go_roundw
     case rel=>exact ⟨pos+(Utf8.decode s pos).2,hit2,hbw2,hacc.out.trans HW.out⟩
     case measure=>
      simp only [World.iterPos,hit2,hit]
      omega
  ·have hnx:∀ty,(Instr.next (.pointer (some ⟨w.heap.size,0,none⟩)) true ty).run Tryz.prog wr=_:=fun ty=>Lib.run_next_end_at wr w.heap.size s pos ty hit hp
   go_wp2
   go_ret
   exact ⟨ret_bool (by rw [hacc.out,drop_end hp,wholeB_nil]),hbw⟩
end Go.Proofs.YtclghelocglnlaaGreatDoor.Quo
namespace Go.Proofs.YtclghelocglnlaaGreatDoor.Quo
open Go.RowKit
theorem cells_byte (acc:List UInt8) (c:UInt8):Lib.byteCells acc++ [.int .u8 c.toNat]=Lib.byteCells (acc++ [c]):=by
 rw [Lib.byteCells_append];rfl
theorem cells_rune (acc:List UInt8) (r:Nat):Lib.byteCells acc++Lib.runeCells r=Lib.byteCells (acc++enc r):=by
 rw [Lib.byteCells_append];unfold enc;rw [Lib.byteCells_encodeRune]
theorem cells_str (acc:List UInt8) (s:ByteArray):Lib.byteCells acc++Lib.strCells s=Lib.byteCells (acc++s.data.toList):=by
 rw [Lib.byteCells_append];rfl
def Wrote (B b:Nat) (acc:List UInt8) (w:World) (e:Ending) (w':World):Prop:=
 e= .returned (.tuple #[])/\BAt B b (Lib.byteCells acc) w'/\Below B w w'/\Kept b w w'
theorem wq_plain (B b:Nat) (acc:List UInt8) (r:Nat) (w:World) (h:IsB B b (Lib.byteCells acc) w) (hlen:acc.length+6<=140737488355328) (hBw:B<=w.heap.size)
 (h0:32<=r) (h1:r<=2147483647) (h2:r≠34) (h3:r≠92):
 Calls Tryz.prog 157 #[.pointer (some ⟨b,0,none⟩),.int .i32 r] w (Wrote B b (acc++enc r) w):=by
 have k2:((r:Int)==34)=false:=by simp;omega
 have k3:((r:Int)==92)=false:=by simp;omega
 have hl:(Lib.byteCells acc).length+4<=140737488355328:=by rw [Lib.byteCells_length];omega
 go_enter Tryz.func157,Tryz.ntmps157
 go_wp2_with (go_at_call 174;refine (writeRune_any B b _ r (by omega) (by omega) _ h hl hBw).mono ?_;rintro e w1 ⟨rfl,hk1,hb1,hq1⟩)
 all_goals go_end0
 all_goals exact ⟨rfl,by rw [<-cells_rune];exact hk1,hb1,hq1⟩
theorem wq_mark (B b:Nat) (acc:List UInt8) (r:Nat) (w:World) (h:IsB B b (Lib.byteCells acc) w) (hlen:acc.length+6<=140737488355328) (hBw:B<=w.heap.size)
 (h2:r=34∨r=92):
 Calls Tryz.prog 157 #[.pointer (some ⟨b,0,none⟩),.int .i32 r] w (Wrote B b (acc++ [92,r.toUInt8]) w):=by
 have hl:(Lib.byteCells acc).length+1<=140737488355328:=by rw [Lib.byteCells_length];omega
 rcases h2 with rfl | rfl
 all_goals
  go_enter Tryz.func157,Tryz.ntmps157
  go_wp2_with (go_at_call 85;refine (writeByte_any B b _ _ _ h hl hBw).mono ?_;rintro e w1 ⟨rfl,hk1,hb1,hq1⟩)
  have hB1:B<=w1.heap.size:=by have:=hb1.size;omega
  go_wp2_with (go_at_call 174;refine (writeRune_any B b _ _ (by omega) (by omega) _ (.inr hk1) (by rw [List.length_append,Lib.byteCells_length];simp;omega) hB1).mono ?_;rintro e w2 ⟨rfl,hk2,hb2,hq2⟩)
  go_end0
  refine ⟨rfl,?_,hb1.trans hb2,hq1.trans hq2⟩
 ·rw [show acc++ [92,(34:Nat).toUInt8]=acc++ [92]++enc 34 by rw [enc_one (by omega)];simp,<-cells_rune,<-cells_byte];exact hk2
 ·rw [show acc++ [92,(92:Nat).toUInt8]=acc++ [92]++enc 92 by rw [enc_one (by omega)];simp,<-cells_rune,<-cells_byte];exact hk2
theorem wq_letter (B b:Nat) (acc:List UInt8) (r:Nat) (c:UInt8) (w:World) (h:IsB B b (Lib.byteCells acc) w) (hlen:acc.length+6<=140737488355328) (hBw:B<=w.heap.size)
 (h2:(r=8/\c=98)∨(r=9/\c=116)∨(r=10/\c=110)∨(r=12/\c=102)∨(r=13/\c=114)):
 Calls Tryz.prog 157 #[.pointer (some ⟨b,0,none⟩),.int .i32 r] w (Wrote B b (acc++ [92,c]) w):=by
 have hl:(Lib.byteCells acc).length+1<=140737488355328:=by rw [Lib.byteCells_length];omega
 rcases h2 with ⟨rfl,rfl⟩ | ⟨rfl,rfl⟩ | ⟨rfl,rfl⟩ | ⟨rfl,rfl⟩ | ⟨rfl,rfl⟩
 all_goals
  go_enter Tryz.func157,Tryz.ntmps157
  go_wp2_with (go_at_call 175;refine (Tryz.strings_IndexRune_ascii _ _ _ (by omega) (by omega)).mono ?_;rintro e w' ⟨rfl,rfl⟩)
  go_wp2_with (go_at_call 85;refine (writeByte_any B b _ _ _ h hl hBw).mono ?_;rintro e w1 ⟨rfl,hk1,hb1,hq1⟩)
  have hB1:B<=w1.heap.size:=by have:=hb1.size;omega
  go_wp2_with (go_at_call 85;refine (writeByte_any B b _ _ _ (.inr hk1) (by rw [List.length_append,Lib.byteCells_length];simp;omega) hB1).mono ?_;rintro e w2 ⟨rfl,hk2,hb2,hq2⟩)
  go_end0
  refine ⟨rfl,?_,hb1.trans hb2,hq1.trans hq2⟩;rw [List.append_cons,<-cells_byte,<-cells_byte];exact hk2
end Go.Proofs.YtclghelocglnlaaGreatDoor.Quo
namespace Go.Proofs.YtclghelocglnlaaGreatDoor.Quo
open Go.RowKit
theorem wq_low (B b:Nat) (acc:List UInt8) (r:Nat) (w:World) (h:IsB B b (Lib.byteCells acc) w) (hlen:acc.length+6<=140737488355328) (hBw:B<=w.heap.size)
 (h0:r < 32) (h1:r≠8) (h2:r≠9) (h3:r≠10) (h4:r≠12) (h5:r≠13):
 Calls Tryz.prog 157 #[.pointer (some ⟨b,0,none⟩),.int .i32 r] w (Wrote B b (acc++ [92,117,48,48,hexd (r / 16),hexd (r % 16)]) w):=by
 have hix:Lib.indexByte [8,9,10,12,13] (r:Int).toNat.toUInt8= -1:=by
  have:∀r:Nat,r < 32->(r=8∨r=9∨r=10∨r=12∨r=13∨Lib.indexByte [8,9,10,12,13] (r:Int).toNat.toUInt8= -1):=by decide+kernel
  simpa [h1,h2,h3,h4,h5] using this r h0
 have IR:=Lib.hid (fun w=>Tryz.strings_IndexRune_ascii ⟨#[8,9,10,12,13]⟩ (r:Int) w (by omega) (by omega));rw [show (⟨#[8,9,10,12,13]⟩:ByteArray).data.toList= [8,9,10,12,13] from rfl,hix] at IR;clear hix;have hA:(acc++ [92,117,48,48]).length+2<=140737488355328:=by simp;omega
 have e1:∀r:Nat,r < 32->∀h:r / 16 < (⟨#[48,49,50,51,52,53,54,55,56,57,97,98,99,100,101,102]⟩:ByteArray).size,(⟨#[48,49,50,51,52,53,54,55,56,57,97,98,99,100,101,102]⟩:ByteArray)[r / 16]=hexd (r / 16):=fun r _ h=>by
  unfold hexd;rw [List.getD_eq_getElem?_getD,List.getElem?_eq_getElem (by exact h)];rfl
 have e2:∀r:Nat,r < 32->∀h:r % 16 < (⟨#[48,49,50,51,52,53,54,55,56,57,97,98,99,100,101,102]⟩:ByteArray).size,(⟨#[48,49,50,51,52,53,54,55,56,57,97,98,99,100,101,102]⟩:ByteArray)[r % 16]=hexd (r % 16):=fun r _ h=>by
  unfold hexd;rw [List.getD_eq_getElem?_getD,List.getElem?_eq_getElem (by exact h)];rfl
 have HE1:=Lib.hid e1;have HE2:=Lib.hid e2;clear e1 e2
 go_enter Tryz.func157,Tryz.ntmps157
 go_wp2_with (go_at_call 175;refine (IR.out _).mono ?_;rintro e w' ⟨rfl,rfl⟩)
 go_wp2_with (go_at_call 82;refine (writeString_any B b _ _ _ h (by rw [Lib.byteCells_length];show acc.length+4<=_;omega) hBw).mono ?_;rintro e w1 ⟨rfl,hk1,hb1,hq1⟩)
 rw [cells_str] at hk1;have hB1:B<=w1.heap.size:=by have:=hb1.size;omega
 go_wp2_with (go_at_call 85;refine (writeByte_any B b _ _ _ (.inr hk1) (by rw [Lib.byteCells_length];omega) hB1).mono ?_;rintro e w2 ⟨rfl,hk2,hb2,hq2⟩)
 rw [HE1.out r h0,cells_byte] at hk2;have hB2:B<=w2.heap.size:=by have:=hb2.size;omega
 go_wp2_with (go_at_call 85;refine (writeByte_any B b _ _ _ (.inr hk2) (by rw [Lib.byteCells_length,List.length_append];simp at hA⊢;omega) hB2).mono ?_;rintro e w3 ⟨rfl,hk3,hb3,hq3⟩)
 rw [HE2.out r h0,cells_byte] at hk3
 go_end0
 refine ⟨rfl,?_,(hb1.trans hb2).trans hb3,(hq1.trans hq2).trans hq3⟩;rw [show acc++ [92,117,48,48,hexd (r / 16),hexd (r % 16)]=acc++ [92,117,48,48]++ [hexd (r / 16)]++ [hexd (r % 16)] by simp];exact hk3
theorem wq_any (B b:Nat) (acc:List UInt8) (r:Nat) (w:World) (h:IsB B b (Lib.byteCells acc) w) (hlen:acc.length+6<=140737488355328) (hBw:B<=w.heap.size) (hr:r<=2147483647):
 Calls Tryz.prog 157 #[.pointer (some ⟨b,0,none⟩),.int .i32 r] w (Wrote B b (acc++qr r) w):=by
 unfold qr
 split
 ·rename_i h1;subst h1;exact wq_mark B b acc 34 w h hlen hBw (.inl rfl)
 split
 ·rename_i h1;subst h1;exact wq_mark B b acc 92 w h hlen hBw (.inr rfl)
 split
 ·rename_i h1 h2 h3;exact wq_plain B b acc r w h hlen hBw h3 hr h1 h2
 split
 ·rename_i h1;exact wq_letter B b acc r _ w h hlen hBw (by simp [h1])
 split
 ·rename_i h1;exact wq_letter B b acc r _ w h hlen hBw (by simp [h1])
 split
 ·rename_i h1;exact wq_letter B b acc r _ w h hlen hBw (by simp [h1])
 split
 ·rename_i h1;exact wq_letter B b acc r _ w h hlen hBw (by simp [h1])
 split
 ·rename_i h1;exact wq_letter B b acc r _ w h hlen hBw (by simp [h1])
 ·rename_i h3 h4 h5 h6 h7 h8;exact wq_low B b acc r w h hlen hBw (by omega) h4 h5 h6 h7 h8
def quoV (l:List UInt8):Value:= .tuple #[.string ⟨(if wholeB l=true then quoteL l else []).toArray⟩,.bool (wholeB l)]
theorem quote_no (s:ByteArray) (w:World) (hs:s.size<=140737488355328) (h:wholeB s.data.toList=false):
 Calls Tryz.prog 120 #[.string s] w (Ret (quoV s.data.toList) w):=by
 have hw:=Lib.hid (fun w=>whole_any s w hs);unfold quoV;rw [h] at hw⊢;clear h
 go_enter Tryz.func120,Tryz.ntmps120
 go_wp2_with (go_at_call 149;refine (hw.out _).mono ?_;rintro e w1 ⟨rfl,hb1⟩)
 go_ret2
 exact ⟨rfl,hb1⟩
theorem quote_yes (s:ByteArray) (w:World) (hs:s.size<=140737488355328) (hq:(qBody s.data.toList).length+16<=140737488355328) (h:wholeB s.data.toList=true):
 Calls Tryz.prog 120 #[.string s] w (Ret (quoV s.data.toList) w):=by
 have hw:=Lib.hid (fun w=>whole_any s w hs);have HWH:=Lib.hid h;unfold quoV;rw [h] at hw⊢;rw [if_pos rfl];clear h
 go_enter Tryz.func120,Tryz.ntmps120
 go_wp2_with (go_at_call 149;refine (hw.out _).mono ?_;rintro e w1 ⟨rfl,hb1⟩)
 have hI0:IsB w1.heap.size w1.heap.size (Lib.byteCells []) (w1.alloc (.cells #[.pointer none,.slice none 0 0] 81)):=Lib.IsBuilderF.of (Lib.fresh_isBuilder 81 5 w1)
 go_wp2_with (go_at_call 85;refine (writeByte_any w1.heap.size w1.heap.size _ _ _ hI0 (by rw [Lib.byteCells_length];simp) (by simp)).mono ?_;rintro e w2 ⟨rfl,hk2,hb2,hq2⟩)
 have hk2':IsB w1.heap.size w1.heap.size (Lib.byteCells [34]) w2:= .inr (by rw [show ([34]:List UInt8)= []++ [34] from rfl,<-cells_byte];exact hk2);have hz2:w1.heap.size+1<=w2.heap.size:=by have:=hb2.size;simpa using this
 have hbb2:Below w1.heap.size w1 w2:=((Below.refl _ w1).alloc (Nat.le_refl _) _).trans hb2;clear hI0 hk2 hb2 hq2
 go_wp2_with fail
 go_loopw [] (fun wr=>∃(pos:Nat) (acc:List UInt8),IsB w1.heap.size w1.heap.size (Lib.byteCells acc) wr/\wr.heap[w2.heap.size]?=some (.stringIter s pos)/\Below w1.heap.size w1 wr/\Hid (34::qBody s.data.toList=acc++qBody (s.data.toList.drop pos))/\Hid (wholeB (s.data.toList.drop pos)=true)/\pos<=s.size) (fun wr=>s.size - wr.iterPos w2.heap.size)
 case atStart=>
  refine ⟨0,[34],hk2'.alloc _,?_,hbb2.alloc (by omega) _,by show _=_;rw [List.drop_zero];rfl,by show _=_;rw [List.drop_zero];exact HWH.out,by omega⟩;have:=World.iter_heap w2 s 0
  simpa using this
 case round=>
  obtain ⟨pos,acc,hI,hit,hbw,hacc,hwh,hps⟩:=hrel
  have hal:acc.length<=(qBody s.data.toList).length+1:=by
   have:=congrArg List.length hacc.out;rw [List.length_cons,List.length_append] at this
   omega
  have hsz:w2.heap.size < wr.heap.size:=(Array.getElem?_eq_some_iff.1 hit).1
  by_cases hp:pos < s.size
  ·have hnx:∀ty,(Instr.next (.pointer (some ⟨w2.heap.size,0,none⟩)) true ty).run Tryz.prog wr=_:=fun ty=>Lib.run_next_any_at wr w2.heap.size s pos ty hit hp
   obtain ⟨hw1,hw2⟩:=decode_bounds s pos hp;have hd1:=decode_le s pos;have hI2:=hI.iterAt hit (pos+(Utf8.decode s pos).2);have hit2:=Lib.iterAt_heap wr w2.heap.size s pos (pos+(Utf8.decode s pos).2) hit;have hbw2:=Lib.below_iterAt hbw (k:=w2.heap.size) (by omega) s (pos+(Utf8.decode s pos).2);have hsz2:w1.heap.size<=(wr.iterAt w2.heap.size s (pos+(Utf8.decode s pos).2)).heap.size:=by rw [Lib.iterAt_size];omega
   have hbad:badB (s.data.toList.drop pos)=false:=by
    cases hb:badB (s.data.toList.drop pos) with
    | false=>rfl
    | true=>have:=hwh.out;rw [wholeB_bad (drop_ne hp) hb] at this;cases this
   have hwide:=hw2 hbad;obtain ⟨g1,g2,g3,g4,g5⟩:=good_front (drop_ne hp) hbad;have HW:=Lib.hid (wholeB_good (drop_ne hp) hbad);have HQ:=Lib.hid (qBody_step (drop_ne hp));rw [Lib.decodeL_drop,List.drop_drop] at HW HQ;clear g1 g2 g3 g4 g5 hbad hw2
   go_wp2_with (go_at_call 157;refine (wq_any w1.heap.size w1.heap.size acc _ _ hI2 (by omega) hsz2 (by omega)).mono ?_;rintro e W1 ⟨rfl,h1,b1,k1⟩)
   go_roundw
   case rel=>
    refine ⟨pos+(Utf8.decode s pos).2,acc++qr (Utf8.decode s pos).1,.inr h1,k1.iter hit2 (by omega),hbw2.trans b1,?_,?_,by omega⟩
    ·show _=_;rw [hacc.out,HQ.out,List.append_assoc]
    ·show _=_;rw [<-HW.out];exact hwh.out
   case measure=>
    simp only [World.iterPos,k1.iter hit2 (by omega),hit]
    omega
  ·have hnx:∀ty,(Instr.next (.pointer (some ⟨w2.heap.size,0,none⟩)) true ty).run Tryz.prog wr=_:=fun ty=>Lib.run_next_end_at wr w2.heap.size s pos ty hit hp
   have HQ:=Lib.hid (show acc=34::qBody s.data.toList by rw [hacc.out,drop_end hp,qBody_nil,List.append_nil])
   go_wp2_with (go_at_call 85;refine (writeByte_any w1.heap.size w1.heap.size _ _ _ hI (by rw [Lib.byteCells_length];omega) (by omega)).mono ?_;rintro e w3 ⟨rfl,h3,b3,k3⟩)
   have h3':IsB w1.heap.size w1.heap.size (Lib.byteCells (acc++ [34])) w3:= .inr (by rw [<-cells_byte];exact h3);have hz3:w1.heap.size<=w3.heap.size:=by have:=b3.size;omega
   go_wp2_with (go_at_call 47;refine (Tryz.Builder_String_any_k w1.heap.size w1.heap.size _ _ h3' hz3).mono ?_;rintro e w4 ⟨rfl,_,b4,_⟩)
   go_ret2
   refine ⟨?_,(hb1.trans (((hbw.trans b3).trans b4).mono hb1.size))⟩;rw [HQ.out]
   rfl
theorem quote_any (s:ByteArray) (w:World) (hs:s.size<=140737488355328) (hq:(qBody s.data.toList).length+16<=140737488355328):Calls Tryz.prog 120 #[.string s] w (Ret (quoV s.data.toList) w):=by
 cases h:wholeB s.data.toList with
 | true=>exact quote_yes s w hs hq h
 | false=>exact quote_no s w hs h
end Go.Proofs.YtclghelocglnlaaGreatDoor.Quo
namespace Go.Proofs.YtclghelocglnlaaGreatDoor.Quo
open Go.RowKit
def digV (o:Option Nat):Value:=match o with
 | none=> .tuple #[.int .i32 0,.bool false]
 | some d=> .tuple #[.int .i32 d,.bool true]
theorem two_int {a b:Int} {x y:Bool} (h:a=b) (k:x=y):Ending.returned (.tuple #[.int .i32 a,.bool x])= .returned (.tuple #[.int .i32 b,.bool y]):=by rw [h,k]
theorem digit_any (c:UInt8) (w:World):
 Calls Tryz.prog 217 #[.int .u8 c.toNat] w (fun e w'=>e= .returned (digV (digL c))/\w=w'):=by
 have hc:=c.toNat_lt;unfold digL
 by_cases h1:48<=c.toNat/\c.toNat<=57
 ·rw [if_pos h1];obtain ⟨a1,a2⟩:=h1;generalize c.toNat=n at *
  go_enter Tryz.func217,Tryz.ntmps217
  go_wp2
  go_ret2
  exact ⟨two_int (by omega) rfl,rfl⟩
 ·rw [if_neg h1]
  by_cases h2:97<=c.toNat/\c.toNat<=102
  ·rw [if_pos h2];obtain ⟨a1,a2⟩:=h2;clear h1;generalize c.toNat=n at *;have b2:decide ((n:Int)<=57)=false:=by simp;omega
   go_enter Tryz.func217,Tryz.ntmps217
   go_wp2
   go_ret2
   exact ⟨two_int (by omega) rfl,rfl⟩
  ·rw [if_neg h2]
   by_cases h3:65<=c.toNat/\c.toNat<=70
   ·rw [if_pos h3];obtain ⟨a1,a2⟩:=h3;clear h1 h2;generalize c.toNat=n at *;have b2:decide ((n:Int)<=57)=false:=(by simp;omega);have b3:decide (97<=(n:Int))=false:=by simp;omega
    go_enter Tryz.func217,Tryz.ntmps217
    go_wp2
    go_ret2
    exact ⟨two_int (by omega) rfl,rfl⟩
   ·rw [if_neg h3];generalize c.toNat=n at *
    go_enter Tryz.func217,Tryz.ntmps217
    go_wp2
    all_goals first | (exfalso;omega) | skip
    all_goals go_ret2
    all_goals exact ⟨rfl,rfl⟩
theorem isFirst_any (n:Nat) (w:World):Calls Tryz.prog 205 #[.int .i32 n] w (fun e w'=>e= .returned (.bool (isF n))/\w=w'):=by
 go_enter Tryz.func205,Tryz.ntmps205
 go_wp2
 all_goals go_ret
 all_goals refine ⟨ret_bool ?_,rfl⟩
 all_goals unfold isF
 all_goals rw [Bool.eq_iff_iff]
 all_goals simp only [Bool.and_eq_true,decide_eq_true_eq,Bool.false_eq_true,false_iff]
 all_goals omega
theorem isSecond_any (n:Nat) (w:World):Calls Tryz.prog 204 #[.int .i32 n] w (fun e w'=>e= .returned (.bool (isS n))/\w=w'):=by
 go_enter Tryz.func204,Tryz.ntmps204
 go_wp2
 all_goals go_ret
 all_goals refine ⟨ret_bool ?_,rfl⟩
 all_goals unfold isS
 all_goals rw [Bool.eq_iff_iff]
 all_goals simp only [Bool.and_eq_true,decide_eq_true_eq,Bool.false_eq_true,false_iff]
 all_goals omega
theorem unit_short (s:ByteArray) (w:World) (hs:s.size<=140737488355328) (h:s.data.toList.length < 6∨Lib.hasPrefix s.data.toList [92,117]=false):
 Calls Tryz.prog 203 #[.string s] w (fun e w'=>e= .returned (.tuple #[.int .i32 0,.bool false])/\w=w'):=by
 rw [sz] at h;have HP:=Lib.hid (fun w=>Tryz.strings_HasPrefix s ⟨#[92,117]⟩ w);rw [show (⟨#[92,117]⟩:ByteArray).data.toList= [92,117] from rfl] at HP
 by_cases h1:s.size < 6
 ·go_enter Tryz.func203,Tryz.ntmps203
  go_wp2_with fail
  go_ret2
  exact ⟨rfl,rfl⟩
 ·rw [h.resolve_left h1] at HP
  go_enter Tryz.func203,Tryz.ntmps203
  go_wp2_with (go_at_call 154;refine (HP.out _).mono ?_;rintro e w' ⟨rfl,rfl⟩)
  go_ret2
  exact ⟨rfl,rfl⟩
theorem digs_step {l:List UInt8} {k n:Nat} (hk:k < l.length):digs n (l.drop k)=match digL (l.getD k 0) with | none=>none | some d=>digs (n * 16+d) (l.drop (k+1)):=by
 rw [List.drop_eq_getElem_cons hk,List.getD_eq_getElem?_getD,List.getElem?_eq_getElem hk]
 rfl
theorem mid_getD (l:List UInt8) (k:Nat) (hk:k < 4):((l.drop 2).take 4).getD k 0=l.getD (2+k) 0:=by
 simp [List.getD_eq_getElem?_getD,List.getElem?_take,List.getElem?_drop,hk]
theorem byte_getD (s:ByteArray) (k:Nat) (h:k < s.size):s[k]=s.data.toList.getD k 0:=by
 rw [List.getD_eq_getElem?_getD,List.getElem?_eq_getElem (by rw [sz];exact h)]
 rfl
theorem unit_core (s:ByteArray) (w:World) (hs:s.size<=140737488355328) (h:6<=s.size) (hp:Lib.hasPrefix s.data.toList [92,117]=true) (m:List UInt8) (hm:Hid ((s.data.toList.drop 2).take 4=m)):
 Calls Tryz.prog 203 #[.string s] w (fun e w'=>e= .returned (digV (digs 0 m))/\w=w'):=by
 have HP:=Lib.hid (fun w=>Tryz.strings_HasPrefix s ⟨#[92,117]⟩ w);rw [show (⟨#[92,117]⟩:ByteArray).data.toList= [92,117] from rfl,hp] at HP;clear hp;have hml:m.length=4:=by rw [<-hm.out];simp;omega
 have HML:=Lib.hid hml;clear hml
 go_enter Tryz.func203,Tryz.ntmps203
 go_wp2_with (go_at_call 154;refine (HP.out _).mono ?_;rintro e w' ⟨rfl,rfl⟩)
 go_loop [4,5] (fun a i=>∃(k n:Nat),k<=4/\a= .int .i32 n/\i= .int .i64 ((2+k:Nat):Int)/\n < 16 ^ k/\Hid (digs 0 m=digs n (m.drop k))) (fun _ i=>6 - (intOf i).toNat)
 case atStart=>exact ⟨0,0,by omega,rfl,rfl,by simp,by show _=_;rw [List.drop_zero]⟩
 case round=>
  obtain ⟨k,n,hk,rfl,rfl,hn,hacc⟩:=hrel
  by_cases hlt:k < 4
  ·have hn2:n < 4096:=by
    have:16 ^ k<=16 ^ 3:=Nat.pow_le_pow_right (by omega) (by omega)
    omega
   have HG:Hid (m.getD k 0=s[2+k]):=by
    have:=mid_getD s.data.toList k hlt;rw [hm.out] at this;exact this.trans (byte_getD s (2+k) (by omega)).symm
   have HD:=Lib.hid (digs_step (l:=m) (k:=k) (n:=n) (by rw [HML.out];omega));rw [HG.out] at HD;have DA:=Lib.hid (fun w=>digit_any s[2+k] w)
   cases hd:digL s[2+k] with
   | none=>
     rw [hd] at DA HD;have HE:=Lib.hid (hacc.out.trans HD.out);clear HD hacc HG hm hd
     go_wp2_with (go_at_call 217;refine (DA.out _).mono ?_;rintro e w' ⟨rfl,rfl⟩;unfold digV)
     go_ret2
     exact ⟨by rw [HE.out];rfl,rfl⟩
   | some d=>
     have hd16:=(digL_lt hd).1;rw [hd] at DA HD;have HE:=Lib.hid (hacc.out.trans HD.out);clear HD hacc HG hm hd
     go_wp2_with (go_at_call 217;refine (DA.out _).mono ?_;rintro e w' ⟨rfl,rfl⟩;unfold digV)
     go_round
     case rel=>exact ⟨k+1,n * 16+d,by omega,by go_num,by go_num,by rw [Nat.pow_succ];omega,HE.out⟩
     case measure=>simp [intOf];omega
  ·have hk4:k=4:=by omega
   subst hk4
   have HE:Hid (digs 0 m=some n):=by
    show _=_;rw [hacc.out,List.drop_of_length_le (by rw [HML.out];omega)]
    rfl
   clear hacc hm
   go_wp2_with fail
   go_ret2
   exact ⟨by rw [HE.out];rfl,rfl⟩
def unitV (o:Option Nat):Value:=digV o
theorem unit_any (s:ByteArray) (w:World) (hs:s.size<=140737488355328):
 Calls Tryz.prog 203 #[.string s] w (fun e w'=>e= .returned (digV (unitL s.data.toList))/\w=w'):=by
 unfold unitL
 split
 ·rename_i h;exact unit_short s w hs h
 ·rename_i h;refine unit_core s w hs ?_ ?_ _ rfl
  ·rw [sz] at h;omega
  ·cases hh:Lib.hasPrefix s.data.toList [92,117] with
   | true=>rfl
   | false=>exact absurd (.inr hh) h
end Go.Proofs.YtclghelocglnlaaGreatDoor.Quo
namespace Go.Proofs.YtclghelocglnlaaGreatDoor.Quo
open Go.RowKit
def escV (p:Nat×Nat):Value:= .tuple #[.int .i32 p.1,.int .i64 p.2]
theorem two_ii {a b:Int} {x y:Int} (h:a=b) (k:x=y):Ending.returned (.tuple #[.int .i32 a,.int .i64 x])= .returned (.tuple #[.int .i32 b,.int .i64 y]):=by rw [h,k]
theorem numbered_any (s:ByteArray) (w:World) (hs:s.size<=140737488355328):
 Calls Tryz.prog 191 #[.string s] w (fun e w'=>e= .returned (escV (numL s.data.toList))/\w=w'):=by
 have U1:=Lib.hid (fun w=>unit_any s w hs)
 cases hu:unitL s.data.toList with
 | none=>
   rw [show numL s.data.toList=(0,0) by simp [numL,hu]];unfold escV;rw [hu] at U1;clear hu
   go_enter Tryz.func191,Tryz.ntmps191
   go_wp2_with (go_at_call 203;refine (U1.out _).mono ?_;rintro e w' ⟨rfl,rfl⟩;unfold digV)
   go_ret2
   exact ⟨rfl,rfl⟩
 | some f=>
   obtain ⟨hf,hl,_⟩:=unitL_facts hu;rw [sz] at hl;rw [hu] at U1;have S1:=Lib.hid (fun w=>isSecond_any f w)
   cases hS:isS f with
   | true=>
     rw [hS] at S1;rw [show numL s.data.toList=(0,0) by simp [numL,hu,hS]];unfold escV;clear hS hu
     go_enter Tryz.func191,Tryz.ntmps191
     go_wp2_with (first
      | (go_at_call 203;refine (U1.out _).mono ?_;rintro e w' ⟨rfl,rfl⟩;unfold digV)
      | (go_at_call 204;refine (S1.out _).mono ?_;rintro e w' ⟨rfl,rfl⟩))
     go_ret2
     exact ⟨rfl,rfl⟩
   | false=>
     rw [hS] at S1;have F1:=Lib.hid (fun w=>isFirst_any f w)
     cases hF:isF f with
     | false=>
       rw [hF] at F1;rw [show numL s.data.toList=(f,6) by simp [numL,hu,hS,hF]];unfold escV;clear hF hS hu
       go_enter Tryz.func191,Tryz.ntmps191
       go_wp2_with (first
        | (go_at_call 203;refine (U1.out _).mono ?_;rintro e w' ⟨rfl,rfl⟩;unfold digV)
        | (go_at_call 204;refine (S1.out _).mono ?_;rintro e w' ⟨rfl,rfl⟩)
        | (go_at_call 205;refine (F1.out _).mono ?_;rintro e w' ⟨rfl,rfl⟩))
       go_ret2
       exact ⟨rfl,rfl⟩
     | true=>
       rw [hF] at F1;have hfb:55296<=f/\f < 56320:=(by simpa [isF] using hF);obtain ⟨hf0,hf1⟩:=hfb;clear hf;have U2:=Lib.hid (fun w=>unit_any (s.extract 6 s.size) w (by rw [ByteArray.size_extract];omega));rw [ext_drop] at U2
       cases hu2:unitL (s.data.toList.drop 6) with
       | none=>
         rw [hu2] at U2;rw [show numL s.data.toList=(0,0) by simp [numL,hu,hS,hF,hu2]];unfold escV;clear hu2 hu hS hF
         go_enter Tryz.func191,Tryz.ntmps191
         go_wp2_with (first
          | (go_at_call 203;(with_reducible refine (U1.out _).mono ?_);rintro e w' ⟨rfl,rfl⟩;unfold digV)
          | (go_at_call 203;(with_reducible refine (U2.out _).mono ?_);rintro e w' ⟨rfl,rfl⟩;unfold digV)
          | (go_at_call 204;refine (S1.out _).mono ?_;rintro e w' ⟨rfl,rfl⟩)
          | (go_at_call 205;refine (F1.out _).mono ?_;rintro e w' ⟨rfl,rfl⟩))
         go_ret2
         exact ⟨rfl,rfl⟩
       | some g=>
         obtain ⟨hg,_,_⟩:=unitL_facts hu2;rw [hu2] at U2;have S2:=Lib.hid (fun w=>isSecond_any g w)
         cases hS2:isS g with
         | false=>
           rw [hS2] at S2;rw [show numL s.data.toList=(0,0) by simp [numL,hu,hS,hF,hu2,hS2]];unfold escV;clear hS2 hu2 hu hS hF
           go_enter Tryz.func191,Tryz.ntmps191
           go_wp2_with (first
            | (go_at_call 203;(with_reducible refine (U1.out _).mono ?_);rintro e w' ⟨rfl,rfl⟩;unfold digV)
            | (go_at_call 203;(with_reducible refine (U2.out _).mono ?_);rintro e w' ⟨rfl,rfl⟩;unfold digV)
            | (go_at_call 204;(with_reducible refine (S1.out _).mono ?_);rintro e w' ⟨rfl,rfl⟩)
            | (go_at_call 204;(with_reducible refine (S2.out _).mono ?_);rintro e w' ⟨rfl,rfl⟩)
            | (go_at_call 205;refine (F1.out _).mono ?_;rintro e w' ⟨rfl,rfl⟩))
           go_ret2
           exact ⟨rfl,rfl⟩
         | true=>
           rw [hS2] at S2;have hgb:56320<=g/\g < 57344:=(by simpa [isS] using hS2);obtain ⟨hg0,hg1⟩:=hgb;rw [show numL s.data.toList=(65536+(f - 55296) * 1024+(g - 56320),12) by simp [numL,hu,hS,hF,hu2,hS2]];unfold escV;clear hS2 hu2 hu hS hF
           go_enter Tryz.func191,Tryz.ntmps191
           go_wp2_with (first
            | (go_at_call 203;(with_reducible refine (U1.out _).mono ?_);rintro e w' ⟨rfl,rfl⟩;unfold digV)
            | (go_at_call 203;(with_reducible refine (U2.out _).mono ?_);rintro e w' ⟨rfl,rfl⟩;unfold digV)
            | (go_at_call 204;(with_reducible refine (S1.out _).mono ?_);rintro e w' ⟨rfl,rfl⟩)
            | (go_at_call 204;(with_reducible refine (S2.out _).mono ?_);rintro e w' ⟨rfl,rfl⟩)
            | (go_at_call 205;refine (F1.out _).mono ?_;rintro e w' ⟨rfl,rfl⟩))
           go_ret2
           exact ⟨two_ii (by simp;omega) rfl,rfl⟩
theorem u8_ne {c:UInt8} (n:Nat) (hn:n < 256) (h:c≠n.toUInt8):((c.toNat:Int)==(n:Int))=false:=by
 have:c.toNat≠n:=fun e=>h (by rw [<-e];simp)
 simp;omega
theorem run_byte (s:ByteArray) (k:Nat) (h:k < s.size) (c:Nat) (hc:s[k].toNat=c) (u:World):(Instr.index 9 (.string s) (.int .i64 (k:Int))).run Tryz.prog u= .ok (.int .u8 c) u:=by
 rw [run_index_string _ _ _ _ _ Tryz.underlying9];have e1:((k:Int)).toNat=k:=Int.toNat_natCast k;simp [h,hc]
theorem esc_class (c:UInt8):(c=34∨c=92∨c=47)∨c=117∨c=98∨c=116∨c=110∨c=102∨c=114∨
 ((c.toNat:Int)==34)=false/\((c.toNat:Int)==92)=false/\((c.toNat:Int)==47)=false/\((c.toNat:Int)==117)=false/\Lib.indexByte [98,116,110,102,114] c= -1/\¬(c=34∨c=92∨c=47)/\c≠117/\c≠98/\c≠116/\c≠110/\c≠102/\c≠114:=by
 have:∀n:Nat,n < 256->(n.toUInt8=34∨n.toUInt8=92∨n.toUInt8=47)∨n.toUInt8=117∨n.toUInt8=98∨n.toUInt8=116∨n.toUInt8=110∨n.toUInt8=102∨n.toUInt8=114∨
  ((n.toUInt8.toNat:Int)==34)=false/\((n.toUInt8.toNat:Int)==92)=false/\((n.toUInt8.toNat:Int)==47)=false/\((n.toUInt8.toNat:Int)==117)=false/\Lib.indexByte [98,116,110,102,114] n.toUInt8= -1/\¬(n.toUInt8=34∨n.toUInt8=92∨n.toUInt8=47)/\n.toUInt8≠117/\n.toUInt8≠98/\n.toUInt8≠116/\n.toUInt8≠110/\n.toUInt8≠102/\n.toUInt8≠114:=by decide+kernel
 have h:=this c.toNat c.toNat_lt
 rwa [show c.toNat.toUInt8=c by simp] at h
theorem escape_any (s:ByteArray) (w:World) (hs:s.size<=140737488355328):
 Calls Tryz.prog 177 #[.string s] w (fun e w'=>e= .returned (escV (escL s.data.toList))/\w=w'):=by
 by_cases h:s.size < 2
 ·rw [show escL s.data.toList=(0,0) by unfold escL;rw [if_pos (by rw [sz];exact h)]];unfold escV
  go_enter Tryz.func177,Tryz.ntmps177
  go_wp2_with fail
  go_ret2
  exact ⟨rfl,rfl⟩
 have h2:1 < s.size:=by omega
 have hg:s.data.toList.getD 1 0=s[1]:=(byte_getD s 1 h2).symm;have hn:¬s.data.toList.length < 2:=by rw [sz];exact h
 rcases esc_class s[1] with (hc | hc | hc) | hc | hc | hc | hc | hc | hc | ⟨k1,k2,k3,k4,k5,k6,k7,k8,k9,k10,k11,k12⟩
 ·have hx:∀u:World,(Instr.index 9 (.string s) (.int .i64 1)).run Tryz.prog u= .ok (.int .u8 34) u:=run_byte s 1 h2 34 (by rw [hc];rfl);have he:escL s.data.toList=(34,2):=by unfold escL;rw [if_neg hn,hg,hc];simp
  rw [he];unfold escV;clear he hc hg hn
  go_enter Tryz.func177,Tryz.ntmps177
  go_wp2_with fail
  go_ret2
  exact ⟨rfl,rfl⟩
 ·have hx:∀u:World,(Instr.index 9 (.string s) (.int .i64 1)).run Tryz.prog u= .ok (.int .u8 92) u:=run_byte s 1 h2 92 (by rw [hc];rfl);have he:escL s.data.toList=(92,2):=by unfold escL;rw [if_neg hn,hg,hc];simp
  rw [he];unfold escV;clear he hc hg hn
  go_enter Tryz.func177,Tryz.ntmps177
  go_wp2_with fail
  go_ret2
  exact ⟨rfl,rfl⟩
 ·have hx:∀u:World,(Instr.index 9 (.string s) (.int .i64 1)).run Tryz.prog u= .ok (.int .u8 47) u:=run_byte s 1 h2 47 (by rw [hc];rfl);have he:escL s.data.toList=(47,2):=by unfold escL;rw [if_neg hn,hg,hc];simp
  rw [he];unfold escV;clear he hc hg hn
  go_enter Tryz.func177,Tryz.ntmps177
  go_wp2_with fail
  go_ret2
  exact ⟨rfl,rfl⟩
 ·have hx:∀u:World,(Instr.index 9 (.string s) (.int .i64 1)).run Tryz.prog u= .ok (.int .u8 117) u:=run_byte s 1 h2 117 (by rw [hc];rfl);have he:escL s.data.toList=numL s.data.toList:=by unfold escL;rw [if_neg hn,hg,hc,if_neg (by decide),if_pos rfl]
  have NU:=Lib.hid (fun w=>numbered_any s w hs);rw [he];generalize numL s.data.toList=nl at *;unfold escV at NU⊢;clear he hc hg hn
  go_enter Tryz.func177,Tryz.ntmps177
  go_wp2_with (go_at_call 191;refine (NU.out _).mono ?_;rintro e w' ⟨rfl,rfl⟩)
  go_ret2
  exact ⟨rfl,rfl⟩
 ·have hx:∀u:World,(Instr.index 9 (.string s) (.int .i64 1)).run Tryz.prog u= .ok (.int .u8 98) u:=run_byte s 1 h2 98 (by rw [hc];rfl);have he:escL s.data.toList=(8,2):=by unfold escL;rw [if_neg hn,hg,hc];simp
  rw [he];unfold escV;clear he hc hg hn;have IX:=Lib.hid (fun w=>Tryz.strings_IndexByte ⟨#[98,116,110,102,114]⟩ 98 w);rw [show Lib.indexByte (⟨#[98,116,110,102,114]⟩:ByteArray).data.toList (98:Int).toNat.toUInt8=0 by decide+kernel] at IX
  go_enter Tryz.func177,Tryz.ntmps177
  go_wp2_with (go_at_call 128;refine (IX.out _).mono ?_;rintro e w' ⟨rfl,rfl⟩)
  go_ret2
  exact ⟨two_ii (by decide+kernel) rfl,rfl⟩
 ·have hx:∀u:World,(Instr.index 9 (.string s) (.int .i64 1)).run Tryz.prog u= .ok (.int .u8 116) u:=run_byte s 1 h2 116 (by rw [hc];rfl);have he:escL s.data.toList=(9,2):=by unfold escL;rw [if_neg hn,hg,hc];simp
  rw [he];unfold escV;clear he hc hg hn;have IX:=Lib.hid (fun w=>Tryz.strings_IndexByte ⟨#[98,116,110,102,114]⟩ 116 w);rw [show Lib.indexByte (⟨#[98,116,110,102,114]⟩:ByteArray).data.toList (116:Int).toNat.toUInt8=1 by decide+kernel] at IX
  go_enter Tryz.func177,Tryz.ntmps177
  go_wp2_with (go_at_call 128;refine (IX.out _).mono ?_;rintro e w' ⟨rfl,rfl⟩)
  go_ret2
  exact ⟨two_ii (by decide+kernel) rfl,rfl⟩
 ·have hx:∀u:World,(Instr.index 9 (.string s) (.int .i64 1)).run Tryz.prog u= .ok (.int .u8 110) u:=run_byte s 1 h2 110 (by rw [hc];rfl);have he:escL s.data.toList=(10,2):=by unfold escL;rw [if_neg hn,hg,hc];simp
  rw [he];unfold escV;clear he hc hg hn;have IX:=Lib.hid (fun w=>Tryz.strings_IndexByte ⟨#[98,116,110,102,114]⟩ 110 w);rw [show Lib.indexByte (⟨#[98,116,110,102,114]⟩:ByteArray).data.toList (110:Int).toNat.toUInt8=2 by decide+kernel] at IX
  go_enter Tryz.func177,Tryz.ntmps177
  go_wp2_with (go_at_call 128;refine (IX.out _).mono ?_;rintro e w' ⟨rfl,rfl⟩)
  go_ret2
  exact ⟨two_ii (by decide+kernel) rfl,rfl⟩
 ·have hx:∀u:World,(Instr.index 9 (.string s) (.int .i64 1)).run Tryz.prog u= .ok (.int .u8 102) u:=run_byte s 1 h2 102 (by rw [hc];rfl);have he:escL s.data.toList=(12,2):=by unfold escL;rw [if_neg hn,hg,hc];simp
  rw [he];unfold escV;clear he hc hg hn;have IX:=Lib.hid (fun w=>Tryz.strings_IndexByte ⟨#[98,116,110,102,114]⟩ 102 w);rw [show Lib.indexByte (⟨#[98,116,110,102,114]⟩:ByteArray).data.toList (102:Int).toNat.toUInt8=3 by decide+kernel] at IX
  go_enter Tryz.func177,Tryz.ntmps177
  go_wp2_with (go_at_call 128;refine (IX.out _).mono ?_;rintro e w' ⟨rfl,rfl⟩)
  go_ret2
  exact ⟨two_ii (by decide+kernel) rfl,rfl⟩
 ·have hx:∀u:World,(Instr.index 9 (.string s) (.int .i64 1)).run Tryz.prog u= .ok (.int .u8 114) u:=run_byte s 1 h2 114 (by rw [hc];rfl);have he:escL s.data.toList=(13,2):=by unfold escL;rw [if_neg hn,hg,hc];simp
  rw [he];unfold escV;clear he hc hg hn;have IX:=Lib.hid (fun w=>Tryz.strings_IndexByte ⟨#[98,116,110,102,114]⟩ 114 w);rw [show Lib.indexByte (⟨#[98,116,110,102,114]⟩:ByteArray).data.toList (114:Int).toNat.toUInt8=4 by decide+kernel] at IX
  go_enter Tryz.func177,Tryz.ntmps177
  go_wp2_with (go_at_call 128;refine (IX.out _).mono ?_;rintro e w' ⟨rfl,rfl⟩)
  go_ret2
  exact ⟨two_ii (by decide+kernel) rfl,rfl⟩
 ·have he:escL s.data.toList=(0,0):=by unfold escL;rw [if_neg hn,hg,if_neg k6,if_neg k7,if_neg k8,if_neg k9,if_neg k10,if_neg k11,if_neg k12]
  have IX:=Lib.hid (fun w=>Tryz.strings_IndexByte ⟨#[98,116,110,102,114]⟩ (s[1].toNat:Int) w);rw [show (⟨#[98,116,110,102,114]⟩:ByteArray).data.toList= [98,116,110,102,114] from rfl,Int.toNat_natCast,show s[1].toNat.toUInt8=s[1] by simp,k5] at IX;rw [he];unfold escV;clear he hg hn k5 k6 k7 k8 k9 k10 k11 k12
  go_enter Tryz.func177,Tryz.ntmps177
  go_wp2_with (go_at_call 128;refine (IX.out _).mono ?_;rintro e w' ⟨rfl,rfl⟩)
  go_ret2
  exact ⟨rfl,rfl⟩
end Go.Proofs.YtclghelocglnlaaGreatDoor.Quo
namespace Go.Proofs.YtclghelocglnlaaGreatDoor.Quo
open Go.RowKit
def unqV (p:List UInt8×Nat×Bool):Value:= .tuple #[.string ⟨p.1.toArray⟩,.int .i64 p.2.1,.bool p.2.2]
def comb (acc:List UInt8) (p:Nat) (o:Option (List UInt8×Nat)):List UInt8×Nat×Bool:=match o with
 | some q=>(acc++q.1,p+q.2,true)
 | none=>([],0,false)
theorem comb_map (acc t:List UInt8) (p n:Nat) (o:Option (List UInt8×Nat)):comb acc p (o.map fun q=>(t++q.1,n+q.2))=comb (acc++t) (p+n) o:=by
 cases o with
 | none=>rfl
 | some q=>simp [comb,Nat.add_assoc]
theorem unqS_comb {l:List UInt8} (h:Lib.hasPrefix l [34]=true):unqS l=comb [] 1 (unqB (l.drop 1)):=by
 unfold unqS comb;rw [if_pos h]
 cases unqB (l.drop 1) with
 | none=>rfl
 | some q=>simp [Nat.add_comm]
theorem three {a b:ByteArray} {m n:Int} {x y:Bool} (h1:a=b) (h2:m=n) (h3:x=y):Ending.returned (.tuple #[.string a,.int .i64 m,.bool x])= .returned (.tuple #[.string b,.int .i64 n,.bool y]):=by rw [h1,h2,h3]
theorem dec_head {l:List UInt8} (h:(Lib.decodeL l).1 < 128):(l.getD 0 0).toNat < 128/\(Lib.decodeL l).2=1:=by
 rw [Lib.decodeL_N] at h⊢;rcases Lib.decodeN_shape l.length (l.getD 0 0).toNat (l.getD 1 0).toNat (l.getD 2 0).toNat (l.getD 3 0).toNat with ⟨c,e⟩ | ⟨c1,c2,c3,cv,e⟩ | ⟨c1,c2,c3,c4,cv,cs,e⟩ | ⟨c1,c2,c3,c4,c5,cv,cw,e⟩ | e
 all_goals rw [e] at h⊢
 all_goals simp only at h⊢
 ·exact ⟨c,trivial⟩
 all_goals omega
theorem dec_first {l:List UInt8} (h:(l.getD 0 0).toNat < 128):Lib.decodeL l=((l.getD 0 0).toNat,1):=by
 rw [Lib.decodeL_N];unfold Lib.decodeN;rw [if_pos h]
theorem unquote_no (s:ByteArray) (w:World) (h:Lib.hasPrefix s.data.toList [34]=false):
 Calls Tryz.prog 160 #[.string s] w (Ret (unqV (unqS s.data.toList)) w):=by
 have HP:=Lib.hid (fun w=>Tryz.strings_HasPrefix s ⟨#[34]⟩ w);rw [show (⟨#[34]⟩:ByteArray).data.toList= [34] from rfl,h] at HP;rw [show unqS s.data.toList=([],0,false) by unfold unqS;rw [if_neg (by rw [h];simp)]];unfold unqV;clear h
 go_enter Tryz.func160,Tryz.ntmps160
 go_wp2_with (go_at_call 154;refine (HP.out _).mono ?_;rintro e w' ⟨rfl,rfl⟩)
 go_ret3
 exact ⟨rfl,Below.refl _ _⟩
theorem unquote_yes (s:ByteArray) (w:World) (hs:s.size+8<=140737488355328) (h:Lib.hasPrefix s.data.toList [34]=true):
 Calls Tryz.prog 160 #[.string s] w (Ret (unqV (unqS s.data.toList)) w):=by
 have HP:=Lib.hid (fun w=>Tryz.strings_HasPrefix s ⟨#[34]⟩ w);rw [show (⟨#[34]⟩:ByteArray).data.toList= [34] from rfl,h] at HP;have HS:=Lib.hid (unqS_comb h)
 have hs1:1<=s.size:=by
  obtain ⟨t,ht⟩:=List.isPrefixOf_iff_prefix.1 (show [34].isPrefixOf s.data.toList=true from h);rw [<-sz,<-ht];simp
 have H0:Hid ((s.data.toList.getD 0 0).toNat < 128):=by
  obtain ⟨t,ht⟩:=List.isPrefixOf_iff_prefix.1 (show [34].isPrefixOf s.data.toList=true from h);show _ < _;rw [<-ht];simp
 clear h;generalize unqS s.data.toList=R at *
 go_enter Tryz.func160,Tryz.ntmps160
 go_wp2_with (go_at_call 154;refine (HP.out _).mono ?_;rintro e w' ⟨rfl,rfl⟩)
 have hI0:IsB w'.heap.size w'.heap.size (Lib.byteCells []) (w'.alloc (.cells #[.pointer none,.slice none 0 0] 81)):=Lib.IsBuilderF.of (Lib.fresh_isBuilder 81 5 w')
 go_loopw [6] (fun nv wr=>∃(pos nx:Nat) (acc:List UInt8),nv= .int .i64 nx/\IsB w'.heap.size w'.heap.size (Lib.byteCells acc) wr/\wr.heap[w'.heap.size+1]?=some (.stringIter s pos)/\Below w'.heap.size w' wr/\Hid (R=comb acc (max pos nx) (unqB (s.data.toList.drop (max pos nx))))/\Hid (∀j,pos<=j->j < nx->(s.data.toList.getD j 0).toNat < 128)/\pos<=s.size/\nx<=s.size/\acc.length<=max pos nx) (fun nv wr=>s.size - wr.iterPos (w'.heap.size+1))
 case atStart=>
  refine ⟨0,1,[],rfl,hI0.alloc _,?_,((Below.refl _ w').alloc (Nat.le_refl _) _).alloc (by simp) _,HS.out,?_,by omega,by omega,by simp⟩
  ·have:=World.iter_heap (w'.alloc (.cells #[.pointer none,.slice none 0 0] 81)) s 0
   simpa using this
  ·intro j h1 h2;obtain rfl:j=0:=by omega
   exact H0.out
 case round=>
  obtain ⟨pos,nx,acc,rfl,hI,hit,hbw,hacc,hasc,hps,hnx0,hal⟩:=hrel;have hsz:w'.heap.size+1 < wr.heap.size:=(Array.getElem?_eq_some_iff.1 hit).1
  by_cases hp:pos < s.size
  ·have hnx:∀ty,(Instr.next (.pointer (some ⟨w'.heap.size+1,0,none⟩)) true ty).run Tryz.prog wr=_:=fun ty=>Lib.run_next_any_at wr (w'.heap.size+1) s pos ty hit hp
   obtain ⟨hw1,hw2⟩:=decode_bounds s pos hp;have hd1:=decode_le s pos;have hI2:=hI.iterAt hit (pos+(Utf8.decode s pos).2);have hit2:=Lib.iterAt_heap wr (w'.heap.size+1) s pos (pos+(Utf8.decode s pos).2) hit;have hbw2:=Lib.below_iterAt hbw (k:=w'.heap.size+1) (by omega) s (pos+(Utf8.decode s pos).2);have hsz2:w'.heap.size<=(wr.iterAt (w'.heap.size+1) s (pos+(Utf8.decode s pos).2)).heap.size:=by rw [Lib.iterAt_size];omega
   have BR:=Lib.hid (broken_at s pos hp);have HDE:=Lib.hid (Lib.decodeL_drop s pos);have ES:=Lib.hid (fun w=>escape_any (s.extract pos s.size) w (by rw [ByteArray.size_extract];omega));rw [ext_drop] at ES;have HNE:=Lib.hid (drop_ne hp);have HLD:Hid ((s.data.toList.drop pos).length+pos=s.size):=by show _=_;rw [List.length_drop,sz];omega
   have HGD:Hid (∀k,(s.data.toList.drop pos).getD k 0=s.data.toList.getD (pos+k) 0):=fun k=>Lib.getD_dropU _ _ _
   by_cases hlt:pos < nx
   ·-- a byte that is taken already
    have hone:(Utf8.decode s pos).2=1:=by
     have:=dec_first (l:=s.data.toList.drop pos) (by rw [Lib.getD_dropU];exact hasc.out pos (Nat.le_refl _) hlt);rw [Lib.decodeL_drop] at this;rw [this]
    rw [hone] at hit2 hbw2 hI2 hsz2 hnx;clear hone hw2
    go_wp2_with fail
    go_roundw
    case rel=>
     refine ⟨pos+1,nx,acc,rfl,hI2,hit2,hbw2,?_,fun j h1 h2=>hasc.out j (by omega) h2,by omega,hnx0,by omega⟩;have e:max (pos+1) nx=max pos nx:=(by omega);show _=_;rw [e];exact hacc.out
    case measure=>
     simp only [World.iterPos,hit2,hit]
     omega
   ·have hmx:max pos nx=pos:=(by omega);rw [hmx] at hacc hal;generalize hLd:s.data.toList.drop pos=L at *;generalize hdc:Utf8.decode s pos=dc at *;obtain ⟨r,wd⟩:=dc;simp only at hw1 hw2 hd1 hI2 hit2 hbw2 hsz2;have HL:=Lib.hid hLd
    have HB:Hid (badB L=false->wd=(enc r).length/\L=enc r++L.drop wd):=fun hb=>by
     have hg:=good_front HNE.out hb;rw [HDE.out] at hg;exact ⟨hg.2.1.symm,hg.2.2.1⟩
    have HW2:=Lib.hid hw2;clear hLd hdc hw2
    by_cases h34:r=34
    ·-- the string's end
     subst h34
     have HE:Hid (R=(acc,pos+1,true)):=by
      show _=_;rw [hacc.out,unqB_end HNE.out (by rw [HDE.out])];simp [comb]
     go_wp2_with (go_at_call 47;refine (Tryz.Builder_String_any_k w'.heap.size w'.heap.size acc _ hI2 hsz2).mono ?_;rintro e W1 ⟨rfl,_,b1,_⟩)
     go_ret3
     exact ⟨by rw [HE.out];exact three rfl (by simp) rfl,hbw2.trans b1⟩
    have k34:((r:Int)==34)=false:=by simp;omega
    by_cases h92:r=92
    ·subst h92
     have hwd1:wd=1:=by
      have:=(dec_head (l:=L) (by rw [HDE.out];simp)).2
      rwa [HDE.out] at this
     subst hwd1;have h0:Hid ((L.getD 0 0).toNat < 128):=(dec_head (l:=L) (by rw [HDE.out];simp)).1
     by_cases hz:(escL L).2=0
     ·have HE:Hid (R=([],0,false)):=by
       show _=_;rw [hacc.out,unqB_esc0 HNE.out (by rw [HDE.out]) hz]
       rfl
      generalize escL L=ep at *;obtain ⟨er,en⟩:=ep;simp only at hz;subst hz;unfold escV at ES
      go_wp2_with (go_at_call 177;(with_reducible refine (ES.out _).mono ?_);rintro e W1 ⟨rfl,rfl⟩)
      go_ret3
      exact ⟨by rw [HE.out];rfl,hbw2⟩
     ·obtain ⟨f1,f2,f3,f4⟩:=escL_facts h0.out hz
      have HE:Hid (R=comb (acc++enc (escL L).1) (pos+(escL L).2) (unqB (s.data.toList.drop (pos+(escL L).2)))):=by
       show _=_;rw [hacc.out,unqB_esc HNE.out (by rw [HDE.out]) hz,comb_map,<-HL.out,List.drop_drop]
      generalize escL L=ep at *;obtain ⟨er,en⟩:=ep;simp only at hz f1 f2 f3 f4 HE;have hv:er<=1114111:=(by unfold vr at f1;omega);have hsl:pos+en<=s.size:=(by have:=HLD.out;omega);have kz:((en:Int)==0)=false:=(by simp;omega);have F3:=Lib.hid f3;unfold escV at ES;clear f1 f3 f2
      go_wp2_with (first
       | (go_at_call 177;(with_reducible refine (ES.out _).mono ?_);rintro e W0 ⟨rfl,rfl⟩)
       | (go_at_call 174;refine (writeRune_any w'.heap.size w'.heap.size _ er (by omega) (by omega) _ hI2 (by rw [Lib.byteCells_length];omega) hsz2).mono ?_;rintro e W1 ⟨rfl,h1,b1,k1⟩))
      rw [cells_rune] at h1
      go_roundw
      case rel=>
       refine ⟨pos+1,pos+en,acc++enc er,by go_num,.inr h1,k1.iter hit2 (by omega),hbw2.trans b1,?_,fun j j1 j2=> ?_,by omega,hsl,by rw [List.length_append];omega⟩
       ·show _=_;rw [HE.out,show max (pos+1) (pos+en)=pos+en by omega]
       ·have:=F3.out (j - pos) (by omega)
        rwa [HGD.out,show pos+(j - pos)=j by omega] at this
      case measure=>
       simp only [World.iterPos,k1.iter hit2 (by omega),hit]
       omega
    have k92:((r:Int)==92)=false:=by simp;omega
    by_cases hlow:r < 32
    ·have HE:Hid (R=([],0,false)):=by
      show _=_;rw [hacc.out,unqB_low HNE.out (by rw [HDE.out];exact h34) (by rw [HDE.out];exact h92) (.inl (by rw [HDE.out];exact hlow))]
      rfl
     go_wp2_with fail
     go_ret3
     exact ⟨by rw [HE.out];rfl,hbw2⟩
    cases hb:badB L with
    | true=>
      rw [hb] at BR
      have HE:Hid (R=([],0,false)):=by
       show _=_;rw [hacc.out,unqB_low HNE.out (by rw [HDE.out];exact h34) (by rw [HDE.out];exact h92) (.inr hb)]
       rfl
      go_wp2_with (go_at_call 168;(with_reducible refine (BR.out _).mono ?_);rintro e W0 ⟨rfl,rfl⟩)
      go_ret3
      exact ⟨by rw [HE.out];rfl,hbw2⟩
    | false=>
      rw [hb] at BR;obtain ⟨hwe,hLe⟩:=HB.out hb;have hwide:=HW2.out hb
      have HE:Hid (R=comb (acc++enc r) (pos+wd) (unqB (s.data.toList.drop (pos+wd)))):=by
       show _=_;have e:=unqB_plain HNE.out (by rw [HDE.out];exact h34) (by rw [HDE.out];exact h92) (by rw [HDE.out];show 32<=r;omega) hb;rw [HDE.out] at e;rw [hacc.out,e,comb_map,<-HL.out,List.drop_drop]
      have HWE:=Lib.hid hwe;clear hwe hLe hb
      go_wp2_with (first
       | (go_at_call 168;(with_reducible refine (BR.out _).mono ?_);rintro e W0 ⟨rfl,rfl⟩)
       | (go_at_call 174;refine (writeRune_any w'.heap.size w'.heap.size _ r (by omega) (by omega) _ hI2 (by rw [Lib.byteCells_length];omega) hsz2).mono ?_;rintro e W1 ⟨rfl,h1,b1,k1⟩))
      rw [cells_rune] at h1
      go_roundw
      case rel=>
       refine ⟨pos+wd,nx,acc++enc r,rfl,.inr h1,k1.iter hit2 (by omega),hbw2.trans b1,?_,fun j j1 j2=>by omega,hwide,hnx0,by rw [List.length_append,<-HWE.out];omega⟩;show _=_;rw [HE.out,show max (pos+wd) nx=pos+wd by omega]
      case measure=>
       simp only [World.iterPos,k1.iter hit2 (by omega),hit]
       omega
  ·have hnx:∀ty,(Instr.next (.pointer (some ⟨w'.heap.size+1,0,none⟩)) true ty).run Tryz.prog wr=_:=fun ty=>Lib.run_next_end_at wr (w'.heap.size+1) s pos ty hit hp
   have HE:Hid (R=([],0,false)):=by
    show _=_;rw [hacc.out,drop_end (by omega),unqB_nil];rfl
   go_wp2_with fail
   go_ret3
   exact ⟨by rw [HE.out];rfl,hbw⟩
theorem unquote_any (s:ByteArray) (w:World) (hs:s.size+8<=140737488355328):Calls Tryz.prog 160 #[.string s] w (Ret (unqV (unqS s.data.toList)) w):=by
 cases h:Lib.hasPrefix s.data.toList [34] with
 | true=>exact unquote_yes s w hs h
 | false=>exact unquote_no s w h
end Go.Proofs.YtclghelocglnlaaGreatDoor.Quo
namespace Go.Proofs.YtclghelocglnlaaGreatDoor.Quo
open Go.RowKit
def IntsAt (w:World) (v:Value) (zs:List Int):Prop:=
 (∃ao cap,v= .slice ao 0 cap/\zs= [])∨
 (∃b off cap,v= .slice (some ⟨b,off,none⟩) zs.length cap/\0 < zs.length/\zs.length<=9223372036854775807/\b < w.heap.size/\
   (∀j,j < zs.length->w.cell? ⟨b,off+j,none⟩=some (.int .i64 (zs.getD j 0)))/\(∀j,j < zs.length-> -9223372036854775808<=zs.getD j 0/\zs.getD j 0<=9223372036854775807))
theorem IntsAt.below {w w':World} {v:Value} {zs:List Int} (h:IntsAt w v zs) (hb:Below w.heap.size w w'):IntsAt w' v zs:=by
 rcases h with h | ⟨b,off,cap,h1,h2,h3,h4,h5,h6⟩
 ·exact .inl h
 ·exact .inr ⟨b,off,cap,h1,h2,h3,Nat.lt_of_lt_of_le h4 hb.size,fun j hj=>by rw [(bcell hb).1 _ _ h4];exact h5 j hj,h6⟩
def fixS (v:Int):Nat:=if 55296<=v/\v<=57343 then 120 else v.toNat
def chrS (n:Int):Nat:=
 if pickS n 5=0∨pickS n 5=1 then fixS (pickS (n.tdiv 5) 128) else if pickS n 5=2 then fixS (pickS (n.tdiv 5) 2048)
 else if pickS n 5=3 then fixS (pickS (n.tdiv 5) 65536) else fixS (pickS (n.tdiv 5) 1114112)
def textR (zs:List Int):List Nat:=(zs.take 200).map chrS
end Go.Proofs.YtclghelocglnlaaGreatDoor.Quo
