import Derived.Test.YtclghelocglnlaaGreatDoorNumber
set_option maxHeartbeats 0
set_option maxRecDepth 100000
set_option linter.all false
namespace Go.Proofs.YtclghelocglnlaaGreatDoor.Lex
open Go.RowKit
theorem first_core (s:ByteArray) (w:World) (c:UInt8) (r:List UInt8) (hs:s.size<=1000000) (h0:0 < s.size) (hc:s[0]=c) (HL:Hid (s.data.toList=c::r)) (R:Tok×Nat)
 (HR:Hid (firstL (c::r)=R)):Calls Tryz.prog 96 #[.string s] w (Ret (firV R) w):=by
 have hx:∀u:World,(Instr.index 9 (.string s) (.int .i64 (0:Nat))).run Tryz.prog u= .ok (.int .u8 c.toNat) u:=Quo.run_byte s 0 h0 c.toNat (by rw [hc]);rw [show (((0:Nat):Int))=0 from rfl] at hx;clear hc;have TX:=Lib.hid (fun w=>text_any s w hs);have NX:=Lib.hid (fun w=>number_any s w hs);have WX:=Lib.hid (fun w=>word_any s w hs);rw [HL.out] at TX NX WX;have C1:=Lib.hid (isSign_any c);have C2:=Lib.hid (isDigit_any c);have C3:=Lib.hid (isLetter_any c);unfold firstL at HR
 cases hsg:signB c with
 | true=>
   obtain rfl:(⟨1,[c],0,0,0⟩,1)=R:=by rw [<-HR.out];simp [hsg]
   rw [hsg] at C1;have HT:s.extract 0 1=⟨#[c]⟩:=by rw [bs_take,HL.out];rfl
   clear HL HR TX NX WX
   go_enter Tryz.func96,Tryz.ntmps96
   go_wp2_with (first
    | (go_at_call 129;(with_reducible refine (C1.out _).mono ?_);rintro e1 w1 ⟨rfl,rfl⟩)
    | (go_at_call 131;(with_reducible refine (C2.out _).mono ?_);rintro e1 w1 ⟨rfl,rfl⟩)
    | (go_at_call 133;(with_reducible refine (C3.out _).mono ?_);rintro e1 w1 ⟨rfl,rfl⟩))
   exact bodyPost_ret (v:=firV (⟨1,[c],0,0,0⟩,1)) (by simp [firV,tokV,tok0,results,Tryz.results96,go_sem]) rfl ⟨rfl,by repeat (first | exact (Below.refl _ _).alloc (Nat.le_refl _) _ | refine Below.setCell ?_ (by simp) _)⟩
 | false=>
   rw [hsg] at C1
   by_cases h34:c.toNat=34
   ·have hr:textL (c::r)=R:=(by rw [<-HR.out];simp [hsg,h34]);have b1:((c.toNat:Int)==34)=true:=(by simp [h34]);rw [hr] at TX;clear hr NX WX h34;obtain ⟨⟨K,T,M,E,Q⟩,n⟩:=R;unfold firV tokV at TX;clear HL HR
    go_enter Tryz.func96,Tryz.ntmps96
    go_wp2_with (first
     | (go_at_call 129;(with_reducible refine (C1.out _).mono ?_);rintro e1 w1 ⟨rfl,rfl⟩)
     | (go_at_call 131;(with_reducible refine (C2.out _).mono ?_);rintro e1 w1 ⟨rfl,rfl⟩)
     | (go_at_call 133;(with_reducible refine (C3.out _).mono ?_);rintro e1 w1 ⟨rfl,rfl⟩))
    (with_reducible refine (TX.out _).mono ?_)
    rintro e1 w1 ⟨rfl,hb⟩;obtain ⟨c0,c1,c2,c3,c4,fz,lt⟩:=(TokAt.new w tok0 109).below hb;have hbb:=below_call hb;clear hb
    go_wp2_with fail
    exact bodyPost_ret (v:=firV (⟨K,T,M,E,Q⟩,n)) (by simp [firV,tokV,results,Tryz.results96,go_sem,c0,c1,c2,c3,c4]) rfl ⟨rfl,((((hbb.setCell (by simp) _).setCell (by simp) _).setCell (by simp) _).setCell (by simp) _).setCell (by simp) _⟩
   ·have b1:((c.toNat:Int)==34)=false:=by simp;omega
    by_cases h45:c.toNat=45
    ·have hr:numberL (c::r)=R:=(by rw [<-HR.out];simp [hsg,h34,h45]);have b2:((c.toNat:Int)==45)=true:=(by simp [h45]);rw [hr] at NX;clear hr TX WX h34 h45;obtain ⟨⟨K,T,M,E,Q⟩,n⟩:=R;unfold firV tokV at NX;clear HL HR
     go_enter Tryz.func96,Tryz.ntmps96
     go_wp2_with (first
      | (go_at_call 129;(with_reducible refine (C1.out _).mono ?_);rintro e1 w1 ⟨rfl,rfl⟩)
      | (go_at_call 131;(with_reducible refine (C2.out _).mono ?_);rintro e1 w1 ⟨rfl,rfl⟩)
      | (go_at_call 133;(with_reducible refine (C3.out _).mono ?_);rintro e1 w1 ⟨rfl,rfl⟩))
     (with_reducible refine (NX.out _).mono ?_)
     rintro e1 w1 ⟨rfl,hb⟩;obtain ⟨c0,c1,c2,c3,c4,fz,lt⟩:=(TokAt.new w tok0 109).below hb;have hbb:=below_call hb;clear hb
     go_wp2_with fail
     exact bodyPost_ret (v:=firV (⟨K,T,M,E,Q⟩,n)) (by simp [firV,tokV,results,Tryz.results96,go_sem,c0,c1,c2,c3,c4]) rfl ⟨rfl,((((hbb.setCell (by simp) _).setCell (by simp) _).setCell (by simp) _).setCell (by simp) _).setCell (by simp) _⟩
    ·have b2:((c.toNat:Int)==45)=false:=by simp;omega
     cases hdg:digB c with
     | true=>
       have hr:numberL (c::r)=R:=(by rw [<-HR.out];simp [hsg,h34,h45,hdg]);rw [hr] at NX;rw [hdg] at C2;clear hr TX WX h34 h45;obtain ⟨⟨K,T,M,E,Q⟩,n⟩:=R;unfold firV tokV at NX;clear HL HR
       go_enter Tryz.func96,Tryz.ntmps96
       go_wp2_with (first
        | (go_at_call 129;(with_reducible refine (C1.out _).mono ?_);rintro e1 w1 ⟨rfl,rfl⟩)
        | (go_at_call 131;(with_reducible refine (C2.out _).mono ?_);rintro e1 w1 ⟨rfl,rfl⟩)
        | (go_at_call 133;(with_reducible refine (C3.out _).mono ?_);rintro e1 w1 ⟨rfl,rfl⟩))
       (with_reducible refine (NX.out _).mono ?_)
       rintro e1 w1 ⟨rfl,hb⟩;obtain ⟨c0,c1,c2,c3,c4,fz,lt⟩:=(TokAt.new w tok0 109).below hb;have hbb:=below_call hb;clear hb
       go_wp2_with fail
       exact bodyPost_ret (v:=firV (⟨K,T,M,E,Q⟩,n)) (by simp [firV,tokV,results,Tryz.results96,go_sem,c0,c1,c2,c3,c4]) rfl ⟨rfl,((((hbb.setCell (by simp) _).setCell (by simp) _).setCell (by simp) _).setCell (by simp) _).setCell (by simp) _⟩
     | false=>
       rw [hdg] at C2
       cases hlt:letB c with
       | true=>
         have hr:wordL (c::r)=R:=(by rw [<-HR.out];simp [hsg,h34,h45,hdg,hlt]);rw [hr] at WX;rw [hlt] at C3;clear hr TX NX h34 h45;obtain ⟨⟨K,T,M,E,Q⟩,n⟩:=R;unfold firV tokV at WX;clear HL HR
         go_enter Tryz.func96,Tryz.ntmps96
         go_wp2_with (first
          | (go_at_call 129;(with_reducible refine (C1.out _).mono ?_);rintro e1 w1 ⟨rfl,rfl⟩)
          | (go_at_call 131;(with_reducible refine (C2.out _).mono ?_);rintro e1 w1 ⟨rfl,rfl⟩)
          | (go_at_call 133;(with_reducible refine (C3.out _).mono ?_);rintro e1 w1 ⟨rfl,rfl⟩))
         (with_reducible refine (WX.out _).mono ?_)
         rintro e1 w1 ⟨rfl,hb⟩;obtain ⟨c0,c1,c2,c3,c4,fz,lt⟩:=(TokAt.new w tok0 109).below hb;have hbb:=below_call hb;clear hb
         go_wp2_with fail
         exact bodyPost_ret (v:=firV (⟨K,T,M,E,Q⟩,n)) (by simp [firV,tokV,results,Tryz.results96,go_sem,c0,c1,c2,c3,c4]) rfl ⟨rfl,((((hbb.setCell (by simp) _).setCell (by simp) _).setCell (by simp) _).setCell (by simp) _).setCell (by simp) _⟩
       | false=>
         obtain rfl:(tok0,0)=R:=by rw [<-HR.out];simp [hsg,h34,h45,hdg,hlt]
         rw [hlt] at C3;clear HL HR TX NX WX
         go_enter Tryz.func96,Tryz.ntmps96
         go_wp2_with (first
          | (go_at_call 129;(with_reducible refine (C1.out _).mono ?_);rintro e1 w1 ⟨rfl,rfl⟩)
          | (go_at_call 131;(with_reducible refine (C2.out _).mono ?_);rintro e1 w1 ⟨rfl,rfl⟩)
          | (go_at_call 133;(with_reducible refine (C3.out _).mono ?_);rintro e1 w1 ⟨rfl,rfl⟩))
         exact bodyPost_ret (v:=firV (tok0,0)) (by simp [firV,tokV,tok0,results,Tryz.results96,go_sem]) rfl ⟨rfl,by repeat (first | exact (Below.refl _ _).alloc (Nat.le_refl _) _ | refine Below.setCell ?_ (by simp) _)⟩
theorem first_any (s:ByteArray) (w:World) (hs:s.size<=1000000) (h0:0 < s.size):Calls Tryz.prog 96 #[.string s] w (Ret (firV (firstL s.data.toList)) w):=by
 have h:=drop_at h0;rw [List.drop_zero] at h;rw [h];exact first_core s w _ _ hs h0 rfl h _ rfl
end Go.Proofs.YtclghelocglnlaaGreatDoor.Lex
