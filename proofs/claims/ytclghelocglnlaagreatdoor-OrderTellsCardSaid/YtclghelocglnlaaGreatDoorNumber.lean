import Derived.Test.YtclghelocglnlaaGreatDoorFirst
set_option maxHeartbeats 0
set_option maxRecDepth 100000
set_option linter.all false
namespace Go.Proofs.YtclghelocglnlaaGreatDoor.Lex
open Go.RowKit
theorem number_any (s:ByteArray) (w:World) (hs:s.size<=1000000):Calls Tryz.prog 132 #[.string s] w (Ret (firV (numberL s.data.toList)) w):=by
 have S:=Lib.hid (fun w=>span_num s w hs);have hle:spanN numB s.data.toList<=s.size:=by have:=spanN_le numB s.data.toList;rw [sz] at this;exact this
 have HT:=bs_take s (spanN numB s.data.toList);rw [take_spanN] at HT;have P:=Lib.hid (fun w=>par_any (s.data.toList.takeWhile numB) w (by show spanN numB s.data.toList<=_;omega));obtain ⟨R,HR⟩:∃R,Hid (numberL s.data.toList=R):=⟨_,rfl⟩;rw [HR.out];unfold numberL at HR;generalize s.data.toList.takeWhile numB=W at *;generalize spanN numB s.data.toList=n at *;generalize Dec.parseS W=u at *;obtain ⟨m,x,ok⟩:=u;unfold Dec.mkV at P
 cases ok with
 | true=>
   obtain rfl:(⟨3,W,m,x,0⟩,n)=R:=HR.out;clear HR
   go_enter Tryz.func132,Tryz.ntmps132
   go_wp2_with (go_at_call 94;(with_reducible refine (S.out _).mono ?_);rintro e1 w1 ⟨rfl,rfl⟩)
   (with_reducible refine (P.out _).mono ?_)
   rintro e1 w1 ⟨rfl,hb⟩;obtain ⟨c0,c1,c2,c3,c4,fz,lt⟩:=((TokAt.new w tok0 109).below hb).alloc (.cells #[.int .i64 m,.int .i64 x] 46);have hbb:=below_call hb;clear hb
   go_wp2_with fail
   go_region
   go_wp2_with fail
   exact bodyPost_ret (v:=firV (⟨3,W,m,x,0⟩,n)) (by simp [firV,tokV,results,Tryz.results132,go_sem,c0,c1,c2,c3,c4]) rfl ⟨rfl,((((((hbb.alloc hbb.size _).setCell (by simp) _).setCell (by simp) _).setCell (by simp) _).setCell (by simp) _).setCell (by simp) _).drew⟩
 | false=>
   obtain rfl:(tok0,0)=R:=HR.out;clear HR
   go_enter Tryz.func132,Tryz.ntmps132
   go_wp2_with (go_at_call 94;(with_reducible refine (S.out _).mono ?_);rintro e1 w1 ⟨rfl,rfl⟩)
   (with_reducible refine (P.out _).mono ?_)
   rintro e1 w1 ⟨rfl,hb⟩;obtain ⟨c0,c1,c2,c3,c4,fz,lt⟩:=((TokAt.new w tok0 109).below hb).alloc (.cells #[.int .i64 m,.int .i64 x] 46);have hbb:=below_call hb;clear hb
   go_wp2_with fail
   exact bodyPost_ret (v:=firV (tok0,0)) (by simp [firV,tokV,tok0,results,Tryz.results132,go_sem,c0,c1,c2,c3,c4]) rfl ⟨rfl,by repeat (first | exact hbb.alloc hbb.size _ | refine Below.setCell ?_ (by simp) _)⟩
end Go.Proofs.YtclghelocglnlaaGreatDoor.Lex
