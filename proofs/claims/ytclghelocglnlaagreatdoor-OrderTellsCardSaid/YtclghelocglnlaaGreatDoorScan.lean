import Derived.Test.YtclghelocglnlaaGreatDoorFirst2
import Derived.Laws.OwnMore
import Derived.Deep.AppendLies
import Derived.OwnWalk
set_option maxHeartbeats 0
set_option maxRecDepth 100000
set_option linter.all false
namespace Go.Proofs.YtclghelocglnlaaGreatDoor.Lex
open Go.RowKit
theorem tok_info:(Tryz.prog.info? 109).map (fun i=>(i.zero,i.size,i.bytes))=some (some (tokV tok0),5,48):=by kernel_rfl
def ToksOwn (w:World) (base:Nat) (v:Value) (l:List Tok):Prop:=w.ownsRow base 109 5 v l.length (l.flatMap cellsT)
theorem ToksOwn.nil (w:World) (base:Nat):ToksOwn w base (.slice none 0 0) []:=⟨by simp,.inl ⟨rfl,rfl⟩⟩
theorem ToksOwn.below {w w':World} {base:Nat} {v:Value} {l:List Tok} (h:ToksOwn w base v l) {B:Nat} (hb:Below B w w') (hB:w.heap.size<=B):ToksOwn w' base v l:=by
 refine ⟨h.1,?_⟩;rcases h.2 with hn | ⟨g,cap,cur,hv,hbg,hg,hr⟩
 ·exact .inl hn
 ·refine .inr ⟨g,cap,cur,hv,hbg,?_,hr⟩
  have hlt:g < w.heap.size:=by
   rcases Nat.lt_or_ge g w.heap.size with h' | h'
   ·exact h'
   ·rw [Array.getElem?_eq_none h'] at hg;cases hg
  rw [hb.block g (by omega)];exact hg
theorem cellsT_one (x:Tok):∀u∈cellsT x,u.oneCell'=true:=by
 intro u hu;unfold cellsT at hu;simp only [List.mem_cons,List.not_mem_nil,or_false] at hu;rcases hu with rfl | rfl | rfl | rfl | rfl <;> rfl
theorem two_new (w:World) (o1 o2:Obj):((w.alloc o1).alloc o2).heap[w.heap.size+1]?=some o2:=by simpa using heap_alloc_new (w.alloc o1) o2
theorem append_tok {W:World} {ops:Array Oper} {rest:List Oper} {o:Oper} {a:Act} {Q:Exit->Act->World->Prop} (hgd:o.guard=none) (s x:Operand)
 (ho:o.op= .call { callee:= .builtin .append,args:=#[s,x],argTypes:=#[101,101] }) (base:Nat) (v:Value) (acc:List Tok) (hs:a.eval s=v) (hown:ToksOwn W base v acc)
 (B c:Nat) (hx:a.eval x= .slice (some ⟨B,0,none⟩) 1 c) (t:Tok) (hB:W.heap[B]?=some (.cells (cellsT t).toArray 109 (0,0))) (hlen:acc.length<=1000000) (hbase:base<=W.heap.size)
 (h:∀v' w',ToksOwn w' base v' (acc++ [t])->Below base W w'->wpList Tryz.prog ops Q rest (a.put o.dst v') w'):wpList Tryz.prog ops Q (o::rest) a W:=by
 obtain ⟨i0,hi0,hz0,hz1,hz2⟩:=info_parts tok_info;refine wpList_append_own W hgd s x 101 ho base 109 i0 _ 5 48 Tryz.underlying101 hi0 hz0 hz1 hz2 rfl (by decide) v acc.length (acc.flatMap cellsT) hs hown ⟨B,0,none⟩ 1 c (cellsT t) hx rfl ?_ (cellsT_one t) (by unfold maxLen;omega) (by omega) hbase ?_
 ·intro j u hu;rw [show (⟨B,0,none⟩:Addr).add j=⟨B,j,none⟩ by simp only [Addr.add];split <;> simp_all,cell_of_row W B j _ _ _ hB]
  simpa using hu
 ·intro v' w' h2 h3 _;refine h v' w' ?_ ((Below.refl _ _).grown h3 hbase (fun k hk=>(World.ownsRow.lt hown k hk).1));unfold ToksOwn;rw [List.length_append,List.flatMap_append]
  simpa using h2
def ScanRet (R:Res) (w:World) (e:Ending) (w':World):Prop:=
 ∃v,e= .returned (.tuple #[v,.int .i64 (errR R),.int .i64 (placeR R)])/\ToksOwn w' w.heap.size v (toksR R)/\Below w.heap.size w w'
theorem scan_long (s:ByteArray) (w:World) (hs:20000 < s.size) (hm:s.size<=maxLen):Calls Tryz.prog 66 #[.string s] w (ScanRet (.inl 0) w):=by
 unfold maxLen at hm
 go_enter Tryz.func66,Tryz.ntmps66
 go_wp2
 go_ret3
 exact ⟨_,rfl,ToksOwn.nil _ _,Below.refl _ _⟩
theorem scan_short (s:ByteArray) (w:World) (hs:s.size<=20000):Calls Tryz.prog 66 #[.string s] w (ScanRet (scanL s.data.toList 0) w):=by
 obtain ⟨i0,hi0,hz0,hz1,hz2⟩:=info_parts tok_info;obtain ⟨R,HR⟩:∃R,Hid (scanL s.data.toList 0=R):=⟨_,rfl⟩;rw [HR.out];have hsp:spanN blankB s.data.toList<=s.size:=by have:=spanN_le blankB s.data.toList;rw [sz] at this;exact this
 have S0:=Lib.hid (fun w=>span_blank s w (by omega));have H0:=Lib.hid (scanL_span s.data.toList 0);rw [HR.out,Nat.zero_add] at H0;have HB:=Lib.hid (drop_span_head blankB s.data.toList);generalize spanN blankB s.data.toList=k0 at *;have ht:decide ((20000:Int) < (s.size:Int))=false:=decide_eq_false (by omega);have hs':s.size<=1000000:=by omega
 have HS:=Lib.hid hs;clear hs
 go_enter Tryz.func66,Tryz.ntmps66
 go_wp2_with (go_at_call 94;(with_reducible refine (S0.out _).mono ?_);rintro e1 w1 ⟨rfl,rfl⟩)
 go_loopw [5,6] (fun toks i wr=>∃(k:Nat) (acc:List Tok),k<=s.size/\i= .int .i64 k/\ToksOwn wr w.heap.size toks acc/\Below w.heap.size w wr/\acc.length<=k/\
  Hid (R=combR acc (scanL (s.data.toList.drop k) k))/\Hid (s.data.toList.drop k≠ []->blankB ((s.data.toList.drop k).getD 0 0)=false)) (fun _ i _=>s.size - (intOf i).toNat)
 case atStart=>exact ⟨k0,[],hsp,rfl,ToksOwn.nil _ _,Below.refl _ _,Nat.zero_le _,by show _=_;rw [combR_nil];exact H0.out,HB⟩
 case round=>
  obtain ⟨k,acc,hk,rfl,hown,hbw,hla,HK,HN⟩:=hrel;clear S0 H0 HB HR
  by_cases hlt:k < s.size
  ·have hne:s.data.toList.drop k≠ []:=by rw [drop_at hlt];simp
   have hnb:=HN.out hne;have hex:(s.extract k s.size).size=s.size - k:=by simp
   have F:=Lib.hid (fun w=>first_any (s.extract k s.size) w (by omega) (by omega));rw [bs_drop] at F;have hfl:=firstL_le (s.data.toList.drop k);rw [List.length_drop,sz] at hfl;obtain ⟨⟨⟨K,T,M,E,Q⟩,n⟩,HF⟩:∃r,Hid (firstL (s.data.toList.drop k)=r):=⟨_,rfl⟩;rw [HF.out] at F hfl;simp only at hfl;unfold firV tokV at F;clear HN hex
   by_cases h0:n=0
   ·subst h0;have hr:R= .inl k:=(by rw [HK.out,scanL_bad hne hnb (by rw [HF.out])];rfl);subst hr;clear HK HF hne hnb
    go_wp2_with (go_at_call 96;(with_reducible refine (F.out _).mono ?_);rintro e1 w1 ⟨rfl,hb⟩)
    go_ret3
    exact ⟨_,rfl,ToksOwn.nil _ _,(hbw.trans (hb.mono hbw.size)).alloc (Nat.le_trans hbw.size hb.size) _⟩
   ·have b0:((n:Int)==0)=false:=(by simp;omega);have hsz:=hbw.size
    go_wp2_with (first | (go_at_call 96;(with_reducible refine (F.out _).mono ?_);rintro e1 w1 ⟨rfl,hb⟩) | (at_builtin;have hsz1:=hb.size;(refine append_tok rfl _ _ rfl w.heap.size _ acc rfl (ToksOwn.below hown ((hb.alloc hb.size _).alloc (by simp;omega) _) (Nat.le_refl _)) _ _ rfl ⟨K,T,M,E,k⟩ (two_new _ _ _) (by omega) (by simp;omega) ?_);intro v' w2 hown2 hb2))
    have hex2:(s.extract (k+n) s.size).size=s.size - (k+n):=by simp
    (with_reducible refine (span_blank (s.extract (k+n) s.size) _ (by omega)).mono ?_)
    rintro e1 w3 ⟨rfl,rfl⟩;rw [bs_drop]
    have hj:spanN blankB (s.data.toList.drop (k+n))<=s.size - (k+n):=by
     have:=spanN_le blankB (s.data.toList.drop (k+n));rw [List.length_drop,sz] at this;exact this
    have HR2:Hid (R=combR (acc++ [⟨K,T,M,E,k⟩]) (scanL (s.data.toList.drop (k+n+spanN blankB (s.data.toList.drop (k+n)))) (k+n+spanN blankB (s.data.toList.drop (k+n))))):=by
     show _=_;rw [HK.out,scanL_tok hne hnb (by rw [HF.out];exact h0),HF.out,combR_cons,scanL_span];simp only [List.drop_drop,Tok.at_]
    have HB2:Hid (s.data.toList.drop (k+n+spanN blankB (s.data.toList.drop (k+n)))≠ []->blankB ((s.data.toList.drop (k+n+spanN blankB (s.data.toList.drop (k+n)))).getD 0 0)=false):=by
     have:=drop_span_head blankB (s.data.toList.drop (k+n));rw [List.drop_drop] at this;exact this
    have hbb:Below w.heap.size w w2:=((hbw.trans (hb.mono hsz)).alloc (by omega) _ |>.alloc (by simp;omega) _).trans hb2;clear HK HF hne hnb F hown hbw hb hb2;generalize spanN blankB (s.data.toList.drop (k+n))=j at *
    go_wp2_with fail
    go_roundw
    case rel=>exact ⟨k+n+j,acc++ [⟨K,T,M,E,k⟩],by omega,by go_num,hown2,hbb,by simp;omega,HR2,HB2⟩
    case measure=>simp [intOf];omega
  ·have hr:R= .inr (acc++ [⟨5,[],0,0,k⟩]):=by rw [HK.out,drop_end hlt,scanL_nil];rfl
   subst hr;clear HK HN;have hsz:=hbw.size
   go_wp2_with (at_builtin;refine append_tok rfl _ _ rfl w.heap.size _ acc rfl (hown.alloc _) _ _ rfl ⟨5,[],0,0,k⟩ (heap_alloc_new wr _) (by omega) (by simp;omega) ?_;intro v' w2 hown2 hb2)
   go_ret3
   exact ⟨_,rfl,hown2,(hbw.alloc hsz _).trans hb2⟩
theorem scan_any (s:ByteArray) (w:World) (hm:s.size<=maxLen):Calls Tryz.prog 66 #[.string s] w (ScanRet (scanS s.data.toList) w):=by
 unfold scanS;rw [sz]
 by_cases h:20000 < s.size
 ·rw [if_pos h];exact scan_long s w h hm
 ·rw [if_neg h];exact scan_short s w (by omega)
end Go.Proofs.YtclghelocglnlaaGreatDoor.Lex
