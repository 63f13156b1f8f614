import Derived.Test.YtclghelocglnlaaGreatDoorBytes
import Derived.Laws.DeepStrings4
set_option maxHeartbeats 0
set_option maxRecDepth 100000
set_option linter.all false
namespace Go.Proofs.YtclghelocglnlaaGreatDoor.Lex
open Go.RowKit
def firV (r:Tok×Nat):Value:= .tuple #[tokV r.1,.int .i64 r.2]
structure TokAt (w:World) (b:Nat) (x:Tok):Prop where
 c0:w.cell? ⟨b,0,none⟩=some (.int .i64 x.k)
 c1:w.cell? ⟨b,1,none⟩=some (.string ⟨x.t.toArray⟩)
 c2:w.cell? ⟨b,2,none⟩=some (.int .i64 x.m)
 c3:w.cell? ⟨b,3,none⟩=some (.int .i64 x.e)
 c4:w.cell? ⟨b,4,none⟩=some (.int .i64 x.p)
 fz:∀o,w.frozen? ⟨b,o,none⟩=false
 lt:b < w.heap.size
theorem TokAt.below {w w':World} {b:Nat} {x:Tok} (h:TokAt w b x) (hb:Below w.heap.size w w'):TokAt w' b x:=
 ⟨by rw [(bcell hb).1 _ _ h.lt];exact h.c0,by rw [(bcell hb).1 _ _ h.lt];exact h.c1,by rw [(bcell hb).1 _ _ h.lt];exact h.c2,by rw [(bcell hb).1 _ _ h.lt];exact h.c3,by rw [(bcell hb).1 _ _ h.lt];exact h.c4,
  fun o=>by rw [(bcell hb).2 _ _ h.lt];exact h.fz o,Nat.lt_of_lt_of_le h.lt hb.size⟩
theorem TokAt.alloc {w:World} {b:Nat} {x:Tok} (h:TokAt w b x) (o:Obj):TokAt (w.alloc o) b x:=h.below ((Below.refl _ _).alloc (Nat.le_refl _) o)
theorem TokAt.new (w:World) (x:Tok) (t:TypeId):TokAt (w.alloc (.cells #[.int .i64 x.k,.string ⟨x.t.toArray⟩,.int .i64 x.m,.int .i64 x.e,.int .i64 x.p] t)) w.heap.size x:=
 ⟨by simp,by simp,by simp,by simp,by simp,fun o=>by simp,by simp⟩
theorem below_call {w w1:World} {o:Obj} (hb:Below (w.alloc o).heap.size (w.alloc o) w1):Below w.heap.size w w1:=
 ((Below.refl _ _).alloc (Nat.le_refl _) o).trans (hb.mono (by simp))
theorem unq_any (s:ByteArray) (w:World) (hs:s.size<=1000000):Calls Tryz.prog 160 #[.string s] w (Ret (Quo.unqV (Quo.unqS s.data.toList)) w):=Quo.unquote_any s w (by omega)
theorem par_any (l:List UInt8) (w:World) (hl:l.length<=1000000):Calls Tryz.prog 162 #[.string ⟨l.toArray⟩] w (Ret (Dec.mkV (Dec.parseS l)) w):=Dec.parse_any l w (by omega)
theorem text_any (s:ByteArray) (w:World) (hs:s.size<=1000000):Calls Tryz.prog 130 #[.string s] w (Ret (firV (textL s.data.toList)) w):=by
 have U:=Lib.hid (fun w=>unq_any s w hs);unfold textL;generalize Quo.unqS s.data.toList=u at *;obtain ⟨T,n,ok⟩:=u;unfold Quo.unqV at U
 cases ok with
 | true=>
   rw [if_pos rfl]
   go_enter Tryz.func130,Tryz.ntmps130
   go_wp2_with fail
   (with_reducible refine (U.out _).mono ?_)
   rintro e1 w1 ⟨rfl,hb⟩;obtain ⟨c0,c1,c2,c3,c4,fz,lt⟩:=(TokAt.new w tok0 109).below hb;have hbb:=below_call hb;clear hb
   go_wp2_with fail
   exact bodyPost_ret (v:=firV (⟨2,T,0,0,0⟩,n)) (by simp [firV,tokV,results,Tryz.results130,go_sem,c0,c1,c2,c3,c4]) rfl ⟨rfl,by repeat (first | exact hbb | refine Below.setCell ?_ (by simp) _)⟩
 | false=>
   rw [if_neg (by simp)]
   go_enter Tryz.func130,Tryz.ntmps130
   go_wp2_with fail
   (with_reducible refine (U.out _).mono ?_)
   rintro e1 w1 ⟨rfl,hb⟩;obtain ⟨c0,c1,c2,c3,c4,fz,lt⟩:=(TokAt.new w tok0 109).below hb;have hbb:=below_call hb;clear hb
   go_wp2_with fail
   exact bodyPost_ret (v:=firV (tok0,0)) (by simp [firV,tokV,tok0,results,Tryz.results130,go_sem,c0,c1,c2,c3,c4]) rfl ⟨rfl,by repeat (first | exact hbb | refine Below.setCell ?_ (by simp) _)⟩
theorem word_any (s:ByteArray) (w:World) (hs:s.size<=1000000):Calls Tryz.prog 134 #[.string s] w (Ret (firV (wordL s.data.toList)) w):=by
 have S:=Lib.hid (fun w=>span_let s w hs);have hle:spanN letB s.data.toList<=s.size:=by have:=spanN_le letB s.data.toList;rw [sz] at this;exact this
 have HT:=bs_take s (spanN letB s.data.toList);rw [take_spanN] at HT;obtain ⟨R,HR⟩:∃R,Hid (wordL s.data.toList=R):=⟨_,rfl⟩;rw [HR.out];unfold wordL at HR;generalize s.data.toList.takeWhile letB=W at *;generalize spanN letB s.data.toList=n at *
 cases h1:(W== [116,114,117,101]) with
 | true=>
   obtain rfl:(⟨4,W,0,0,0⟩,n)=R:=by rw [<-HR.out];exact (if_pos (by unfold threeB;simp [*])).symm
   clear HR
   go_enter Tryz.func134,Tryz.ntmps134
   go_wp2_with (go_at_call 94;(with_reducible refine (S.out _).mono ?_);rintro e1 w1 ⟨rfl,rfl⟩)
   exact bodyPost_ret (v:=firV (⟨4,W,0,0,0⟩,n)) (by simp [firV,tokV,results,Tryz.results134,go_sem]) rfl ⟨rfl,by repeat (first | exact (Below.refl _ _).alloc (Nat.le_refl _) _ | refine Below.setCell ?_ (by simp) _)⟩
 | false=>
   cases h2:(W== [102,97,108,115,101]) with
   | true=>
     obtain rfl:(⟨4,W,0,0,0⟩,n)=R:=by rw [<-HR.out];exact (if_pos (by unfold threeB;simp [*])).symm
     clear HR
     go_enter Tryz.func134,Tryz.ntmps134
     go_wp2_with (go_at_call 94;(with_reducible refine (S.out _).mono ?_);rintro e1 w1 ⟨rfl,rfl⟩)
     exact bodyPost_ret (v:=firV (⟨4,W,0,0,0⟩,n)) (by simp [firV,tokV,results,Tryz.results134,go_sem]) rfl ⟨rfl,by repeat (first | exact (Below.refl _ _).alloc (Nat.le_refl _) _ | refine Below.setCell ?_ (by simp) _)⟩
   | false=>
     cases h3:(W== [110,117,108,108]) with
     | true=>
       obtain rfl:(⟨4,W,0,0,0⟩,n)=R:=by rw [<-HR.out];exact (if_pos (by unfold threeB;simp [*])).symm
       clear HR
       go_enter Tryz.func134,Tryz.ntmps134
       go_wp2_with (go_at_call 94;(with_reducible refine (S.out _).mono ?_);rintro e1 w1 ⟨rfl,rfl⟩)
       exact bodyPost_ret (v:=firV (⟨4,W,0,0,0⟩,n)) (by simp [firV,tokV,results,Tryz.results134,go_sem]) rfl ⟨rfl,by repeat (first | exact (Below.refl _ _).alloc (Nat.le_refl _) _ | refine Below.setCell ?_ (by simp) _)⟩
     | false=>
       obtain rfl:(tok0,0)=R:=by rw [<-HR.out];exact (if_neg (by unfold threeB;simp [*])).symm
       clear HR
       go_enter Tryz.func134,Tryz.ntmps134
       go_wp2_with (go_at_call 94;(with_reducible refine (S.out _).mono ?_);rintro e1 w1 ⟨rfl,rfl⟩)
       exact bodyPost_ret (v:=firV (tok0,0)) (by simp [firV,tokV,tok0,results,Tryz.results134,go_sem]) rfl ⟨rfl,by repeat (first | exact (Below.refl _ _).alloc (Nat.le_refl _) _ | refine Below.setCell ?_ (by simp) _)⟩
end Go.Proofs.YtclghelocglnlaaGreatDoor.Lex
