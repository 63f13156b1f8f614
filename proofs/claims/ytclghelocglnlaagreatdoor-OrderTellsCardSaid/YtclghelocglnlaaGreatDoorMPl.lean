import Derived.Test.YtclghelocglnlaaGreatDoorToks
import Derived.Test.YtclghelocglnlaaGreatDoorDecR
import Derived.Test.YtclghelocglnlaaGreatDoorQuoR
set_option maxHeartbeats 0
set_option maxRecDepth 100000
set_option linter.all false
namespace Go.Proofs.YtclghelocglnlaaGreatDoor.Lex
open Go.RowKit
theorem ext_take (s:ByteArray) (i n:Nat) (h:i+n<=s.size):s.extract i (i+n)=⟨((s.data.toList.drop i).take n).toArray⟩:=by
 apply ByteArray.ext
 rw [ByteArray.data_extract]
 apply Array.ext'
 rw [Array.toList_extract];simp [List.extract]
theorem u8_eq {c:UInt8} {n:Nat} (hn:n < 256) (h:c.toNat=n):c=UInt8.ofNat n:=by rw [<-h];simp
theorem numB_cases (c:UInt8):(numB c=true/\((48<=(c.toNat:Int)/\(c.toNat:Int)<=57)∨(c.toNat:Int)=43∨(c.toNat:Int)=45∨(c.toNat:Int)=46∨(c.toNat:Int)=101∨(c.toNat:Int)=69))∨
 (numB c=false/\((c.toNat:Int) < 48∨57 < (c.toNat:Int))/\(c.toNat:Int)≠43/\(c.toNat:Int)≠45/\(c.toNat:Int)≠46/\(c.toNat:Int)≠101/\(c.toNat:Int)≠69):=by
 cases h:numB c with
 | true=>
   refine .inl ⟨rfl,?_⟩;simp only [numB,List.contains_eq_mem,decide_eq_true_eq,List.mem_cons,List.not_mem_nil,or_false] at h;rcases h with rfl | rfl | rfl | rfl | rfl | rfl | rfl | rfl | rfl | rfl | rfl | rfl | rfl | rfl | rfl <;> decide
 | false=>
   refine .inr ⟨rfl,?_⟩;have k:∀n:Nat,n < 256->numB (UInt8.ofNat n)=true->c.toNat≠n:=fun n hn hb e=>by rw [<-u8_eq hn e,h] at hb;cases hb
   have h0:=k 48 (by omega) (by decide);have h1:=k 49 (by omega) (by decide);have h2:=k 50 (by omega) (by decide);have h3:=k 51 (by omega) (by decide);have h4:=k 52 (by omega) (by decide);have h5:=k 53 (by omega) (by decide);have h6:=k 54 (by omega) (by decide);have h7:=k 55 (by omega) (by decide);have h8:=k 56 (by omega) (by decide);have h9:=k 57 (by omega) (by decide);have a:=k 43 (by omega) (by decide);have b:=k 45 (by omega) (by decide);have d:=k 46 (by omega) (by decide);have e:=k 101 (by omega) (by decide);have f:=k 69 (by omega) (by decide)
   omega
theorem letB_cases (c:UInt8):(letB c=true/\97<=(c.toNat:Int)/\(c.toNat:Int)<=122)∨(letB c=false/\((c.toNat:Int) < 97∨122 < (c.toNat:Int))):=by
 unfold letB
 by_cases h1:97<=c.toNat
 ·by_cases h2:c.toNat<=122
  ·left;simp [h1,h2];omega
  ·right;simp [h1,h2];omega
 ·right;simp [h1];omega
theorem rword_num (s:ByteArray) (i:Nat) (w:World) (hi:i<=s.size) (hs:s.size<=1000000):
 Calls Tryz.prog 147 #[.string s,.int .i64 i,.bool true] w (fun e w'=>e= .returned (.string ⟨((s.data.toList.drop i).takeWhile numB).toArray⟩)/\w=w'):=by
 obtain ⟨N,HN⟩:∃N,Hid (spanN numB (s.data.toList.drop i)=N):=⟨_,rfl⟩
 have hN:i+N<=s.size:=by
  have:=spanN_le numB (s.data.toList.drop i);rw [HN.out,List.length_drop,sz] at this;omega
 have HE:Hid (s.extract i (i+N)=⟨((s.data.toList.drop i).takeWhile numB).toArray⟩):=by
  show _=_;rw [ext_take s i N hN,<-HN.out,take_spanN]
 obtain ⟨E,hE⟩:∃E,Hid ((⟨((s.data.toList.drop i).takeWhile numB).toArray⟩:ByteArray)=E):=⟨_,rfl⟩;rw [hE.out] at HE⊢;clear hE
 go_enter Tryz.func147,Tryz.ntmps147
 go_wp2
 go_loop [7] (fun x=>∃k:Nat,i+k<=s.size/\x= .int .i64 k/\Hid (N=k+spanN numB (s.data.toList.drop (i+k)))) (fun x=>s.size - (intOf x).toNat)
 case atStart=>exact ⟨0,by omega,rfl,by show _=_;rw [<-HN.out];simp⟩
 case round=>
  obtain ⟨k,hk,rfl,HK⟩:=hrel
  by_cases hlt:i+k < s.size
  ·have hx:∀u:World,(Instr.index 9 (.string s) (.int .i64 ((i:Int)+(k:Int)))).run Tryz.prog u= .ok (.int .u8 s[i+k].toNat) u:=by
    have:=Quo.run_byte s (i+k) hlt s[i+k].toNat rfl
    simpa using this
   have HD:=Lib.hid (drop_at hlt);generalize hc:s[i+k]=c at *;have hC:=numB_cases c;have HY:=Lib.hid (fun h=>spanN_yes (p:=numB) (c:=c) h);have HNo:=Lib.hid (fun h=>spanN_no (p:=numB) (c:=c) h);clear hc;have c0:(0:Int)<=(c.toNat:Int):=by omega
   have c1:(c.toNat:Int) < 256:=by have:=c.toNat_lt;omega
   generalize (c.toNat:Int)=z at *;rcases hC with ⟨hp,hC⟩ | ⟨hp,hC⟩
   ·have HM:Hid (N=(k+1)+spanN numB (s.data.toList.drop (i+(k+1)))):=by
     show _=_;rw [HK.out,HD.out,HY.out hp,show i+k+1=i+(k+1) by omega];omega
    clear HK HD HY HNo hp HE HN;rcases hC with ⟨h1,h2⟩ | h1 | h1 | h1 | h1 | h1
    all_goals
     go_wp2_with fail
     go_round
     case rel=>exact ⟨k+1,by omega,by go_num,HM⟩
     case measure=>simp [intOf];omega
   ·obtain rfl:k=N:=by
     have:=HK.out;rw [HD.out,HNo.out hp] at this;omega
    clear HK HD HY HNo hp HN;rcases hC with ⟨h0 | h0,h1,h2,h3,h4,h5⟩
    all_goals
     have b1:(z==43)=false:=(by simpa using h1);have b2:(z==45)=false:=(by simpa using h2);have b3:(z==46)=false:=(by simpa using h3);have b4:(z==101)=false:=(by simpa using h4);have b5:(z==69)=false:=(by simpa using h5);clear h1 h2 h3 h4 h5
     go_wp2_with fail
     go_ret
     exact ⟨by rw [HE.out];rfl,rfl⟩
  ·obtain rfl:k=N:=by
    have:=HK.out;rw [drop_end hlt] at this;simpa [spanN] using this.symm
   clear HK HN
   go_wp2_with fail
   go_ret
   exact ⟨by rw [HE.out];rfl,rfl⟩
theorem rword_let (s:ByteArray) (i:Nat) (w:World) (hi:i<=s.size) (hs:s.size<=1000000):
 Calls Tryz.prog 147 #[.string s,.int .i64 i,.bool false] w (fun e w'=>e= .returned (.string ⟨((s.data.toList.drop i).takeWhile letB).toArray⟩)/\w=w'):=by
 obtain ⟨N,HN⟩:∃N,Hid (spanN letB (s.data.toList.drop i)=N):=⟨_,rfl⟩
 have hN:i+N<=s.size:=by
  have:=spanN_le letB (s.data.toList.drop i);rw [HN.out,List.length_drop,sz] at this;omega
 have HE:Hid (s.extract i (i+N)=⟨((s.data.toList.drop i).takeWhile letB).toArray⟩):=by
  show _=_;rw [ext_take s i N hN,<-HN.out,take_spanN]
 obtain ⟨E,hE⟩:∃E,Hid ((⟨((s.data.toList.drop i).takeWhile letB).toArray⟩:ByteArray)=E):=⟨_,rfl⟩;rw [hE.out] at HE⊢;clear hE
 go_enter Tryz.func147,Tryz.ntmps147
 go_wp2
 go_loop [7] (fun x=>∃k:Nat,i+k<=s.size/\x= .int .i64 k/\Hid (N=k+spanN letB (s.data.toList.drop (i+k)))) (fun x=>s.size - (intOf x).toNat)
 case atStart=>exact ⟨0,by omega,rfl,by show _=_;rw [<-HN.out];simp⟩
 case round=>
  obtain ⟨k,hk,rfl,HK⟩:=hrel
  by_cases hlt:i+k < s.size
  ·have hx:∀u:World,(Instr.index 9 (.string s) (.int .i64 ((i:Int)+(k:Int)))).run Tryz.prog u= .ok (.int .u8 s[i+k].toNat) u:=by
    have:=Quo.run_byte s (i+k) hlt s[i+k].toNat rfl
    simpa using this
   have HD:=Lib.hid (drop_at hlt);generalize hc:s[i+k]=c at *;have hC:=letB_cases c;have HY:=Lib.hid (fun h=>spanN_yes (p:=letB) (c:=c) h);have HNo:=Lib.hid (fun h=>spanN_no (p:=letB) (c:=c) h);clear hc;have c0:(0:Int)<=(c.toNat:Int):=by omega
   have c1:(c.toNat:Int) < 256:=by have:=c.toNat_lt;omega
   generalize (c.toNat:Int)=z at *;rcases hC with ⟨hp,hC⟩ | ⟨hp,hC⟩
   ·have HM:Hid (N=(k+1)+spanN letB (s.data.toList.drop (i+(k+1)))):=by
     show _=_;rw [HK.out,HD.out,HY.out hp,show i+k+1=i+(k+1) by omega];omega
    clear HK HD HY HNo hp HE HN;rcases hC with ⟨h1,h2⟩
    all_goals
     go_wp2_with fail
     go_round
     case rel=>exact ⟨k+1,by omega,by go_num,HM⟩
     case measure=>simp [intOf];omega
   ·obtain rfl:k=N:=by
     have:=HK.out;rw [HD.out,HNo.out hp] at this;omega
    clear HK HD HY HNo hp HN;rcases hC with h1 | h1
    all_goals
     go_wp2_with fail
     go_ret
     exact ⟨by rw [HE.out];rfl,rfl⟩
  ·obtain rfl:k=N:=by
    have:=HK.out;rw [drop_end hlt] at this;simpa [spanN] using this.symm
   clear HK HN
   go_wp2_with fail
   go_ret
   exact ⟨by rw [HE.out];rfl,rfl⟩
end Go.Proofs.YtclghelocglnlaaGreatDoor.Lex
namespace Go.Proofs.YtclghelocglnlaaGreatDoor.Lex
open Go.RowKit
def atR (r:Tok×Nat) (i:Nat):Tok×Nat:=(if r.1.k=0 then tok0 else r.1.at_ i,r.2)
theorem first_kind {l:List UInt8} (h:(firstL l).2≠0):(firstL l).1.k≠0:=by
 revert h
 unfold firstL
 split
 ·simp
 ·split
  ·simp
  ·split
   ·unfold textL;split <;> simp [tok0]
   ·split
    ·unfold numberL;split <;> simp [tok0]
    ·split
     ·unfold wordL;split <;> simp [tok0]
     ·simp
theorem sign_z {c:UInt8} (h:signB c=true):(c.toNat:Int)=123∨(c.toNat:Int)=125∨(c.toNat:Int)=91∨(c.toNat:Int)=93∨(c.toNat:Int)=44∨(c.toNat:Int)=58:=by
 simp only [signB,List.contains_eq_mem,decide_eq_true_eq,List.mem_cons,List.not_mem_nil,or_false] at h;rcases h with rfl | rfl | rfl | rfl | rfl | rfl <;> decide
theorem sign_no {c:UInt8} (h:signB c=false):((c.toNat:Int)==123)=false/\((c.toNat:Int)==125)=false/\((c.toNat:Int)==91)=false/\((c.toNat:Int)==93)=false/\((c.toNat:Int)==44)=false/\((c.toNat:Int)==58)=false:=by
 have k:∀n:Nat,n < 256->signB (UInt8.ofNat n)=true->((c.toNat:Int)==(n:Int))=false:=fun n hn hb=>by
  by_cases e:c.toNat=n
  ·rw [<-u8_eq hn e,h] at hb;cases hb
  ·simp;omega
 exact ⟨k 123 (by omega) (by decide),k 125 (by omega) (by decide),k 91 (by omega) (by decide),k 93 (by omega) (by decide),k 44 (by omega) (by decide),k 58 (by omega) (by decide)⟩
theorem rpar_any (l:List UInt8) (w:World) (hl:l.length<=1000000):Calls Tryz.prog 148 #[.string ⟨l.toArray⟩] w (Ret (Dec.mkV (Dec.parseS l)) w):=Dec.rparse_any ⟨l.toArray⟩ w (by rw [bs_size];omega)
theorem runq_any (s:ByteArray) (w:World) (hs:s.size<=1000000):Calls Tryz.prog 146 #[.string s] w (Ret (Quo.unqV (Quo.unqS s.data.toList)) w):=Quo.runq_any s w (by omega)
end Go.Proofs.YtclghelocglnlaaGreatDoor.Lex
namespace Go.Proofs.YtclghelocglnlaaGreatDoor.Lex
open Go.RowKit
theorem rtok_sign (s:ByteArray) (i:Nat) (w:World) (c:UInt8) (r:List UInt8) (hs:s.size<=1000000) (hi:i < s.size) (hc:s[i]=c) (HL:Hid (s.data.toList.drop i=c::r)) (hg:signB c=true) (R:Tok×Nat)
 (HR:Hid (firstL (c::r)=R)):Calls Tryz.prog 108 #[.string s,.int .i64 i] w (Ret (firV (atR R i)) w):=by
 have hx:∀u:World,(Instr.index 9 (.string s) (.int .i64 i)).run Tryz.prog u= .ok (.int .u8 c.toNat) u:=Quo.run_byte s i hi c.toNat (by rw [hc]);clear hc;have HT:s.extract i (i+1)=⟨#[c]⟩:=by rw [ext_take s i 1 (by omega),HL.out];rfl
 obtain rfl:(⟨1,[c],0,0,0⟩,1)=R:=by rw [<-HR.out];simp [firstL,hg]
 have hz:=sign_z hg;have hv:firV (atR (⟨1,[c],0,0,0⟩,1) i)=firV (⟨1,[c],0,0,i⟩,1):=rfl;rw [hv];clear HL HR hg hv;generalize (c.toNat:Int)=z at *;rcases hz with rfl | rfl | rfl | rfl | rfl | rfl
 all_goals
  go_enter Tryz.func108,Tryz.ntmps108
  go_wp2_with fail
  exact bodyPost_ret (v:=firV (⟨1,[c],0,0,i⟩,1)) (by simp [firV,tokV,tok0,results,Tryz.results108,go_sem]) rfl ⟨rfl,by repeat (first | exact (Below.refl _ _).alloc (Nat.le_refl _) _ | refine Below.setCell ?_ (by simp) _)⟩
end Go.Proofs.YtclghelocglnlaaGreatDoor.Lex
namespace Go.Proofs.YtclghelocglnlaaGreatDoor.Lex
open Go.RowKit
theorem rtok_text (s:ByteArray) (i:Nat) (w:World) (c:UInt8) (r:List UInt8) (hs:s.size<=1000000) (hi:i < s.size) (hc:s[i]=c) (HL:Hid (s.data.toList.drop i=c::r)) (hg:signB c=false) (h34:c.toNat=34) (R:Tok×Nat)
 (HR:Hid (firstL (c::r)=R)):Calls Tryz.prog 108 #[.string s,.int .i64 i] w (Ret (firV (atR R i)) w):=by
 have hx:∀u:World,(Instr.index 9 (.string s) (.int .i64 i)).run Tryz.prog u= .ok (.int .u8 c.toNat) u:=Quo.run_byte s i hi c.toNat (by rw [hc]);clear hc;have hr:textL (c::r)=R:=by rw [<-HR.out];simp [firstL,hg,h34]
 obtain ⟨d1,d2,d3,d4,d5,d6⟩:=sign_no hg;have b1:((c.toNat:Int)==34)=true:=by simp [h34]
 have U:=Lib.hid (fun w=>runq_any (s.extract i s.size) w (by simp;omega));rw [bs_drop,HL.out] at U;unfold textL at hr;generalize Quo.unqS (c::r)=u at *;obtain ⟨T,n,ok⟩:=u;unfold Quo.unqV at U;clear HL HR hg h34;generalize (c.toNat:Int)=z at *
 cases ok with
 | true=>
   rw [if_pos rfl] at hr;subst hr;rw [show firV (atR (⟨2,T,0,0,0⟩,n) i)=firV (⟨2,T,0,0,i⟩,n) from rfl]
   go_enter Tryz.func108,Tryz.ntmps108
   go_wp2_with fail
   (with_reducible refine (U.out _).mono ?_)
   rintro e1 w1 ⟨rfl,hb⟩;obtain ⟨c0,c1,c2,c3,c4,fz,lt⟩:=(TokAt.new w tok0 109).below hb;have hbb:=below_call hb;clear hb
   go_wp2_with fail
   exact bodyPost_ret (v:=firV (⟨2,T,0,0,i⟩,n)) (by simp [firV,tokV,tok0,results,Tryz.results108,go_sem,c0,c1,c2,c3,c4]) rfl ⟨rfl,by repeat (first | exact hbb | refine Below.setCell ?_ (by simp) _)⟩
 | false=>
   rw [if_neg (by simp)] at hr;subst hr;rw [show firV (atR (tok0,0) i)=firV (tok0,0) from rfl]
   go_enter Tryz.func108,Tryz.ntmps108
   go_wp2_with fail
   (with_reducible refine (U.out _).mono ?_)
   rintro e1 w1 ⟨rfl,hb⟩;obtain ⟨c0,c1,c2,c3,c4,fz,lt⟩:=(TokAt.new w tok0 109).below hb;have hbb:=below_call hb;clear hb
   go_wp2_with fail
   exact bodyPost_ret (v:=firV (tok0,0)) (by simp [firV,tokV,tok0,results,Tryz.results108,go_sem,c0,c1,c2,c3,c4]) rfl ⟨rfl,by repeat (first | exact hbb | refine Below.setCell ?_ (by simp) _)⟩
end Go.Proofs.YtclghelocglnlaaGreatDoor.Lex
namespace Go.Proofs.YtclghelocglnlaaGreatDoor.Lex
open Go.RowKit
theorem rtok_dig (s:ByteArray) (i:Nat) (w:World) (c:UInt8) (r:List UInt8) (hs:s.size<=1000000) (hi:i < s.size) (hc:s[i]=c) (HL:Hid (s.data.toList.drop i=c::r)) (hg:signB c=false) (hd:digB c=true) (R:Tok×Nat)
 (HR:Hid (firstL (c::r)=R)):Calls Tryz.prog 108 #[.string s,.int .i64 i] w (Ret (firV (atR R i)) w):=by
 have hx:∀u:World,(Instr.index 9 (.string s) (.int .i64 i)).run Tryz.prog u= .ok (.int .u8 c.toNat) u:=Quo.run_byte s i hi c.toNat (by rw [hc]);clear hc;have h34:c.toNat≠34:=by intro h;rw [digB,h] at hd;simp at hd
 have hr:numberL (c::r)=R:=by rw [<-HR.out];simp only [firstL];rw [if_neg (by simp [hg]),if_neg h34,if_pos (.inr hd)]
 obtain ⟨d1,d2,d3,d4,d5,d6⟩:=sign_no hg;have b1:((c.toNat:Int)==34)=false:=by simp;omega
 obtain ⟨z1,z2⟩:48<=(c.toNat:Int)/\(c.toNat:Int)<=57:=by unfold digB at hd;simp at hd;omega
 have NX:=Lib.hid (fun w=>rword_num s i w (by omega) hs);rw [HL.out] at NX
 have hW:((c::r).takeWhile numB).length<=1000000:=by
  have h1:=(List.takeWhile_sublist (l:=c::r) numB).length_le;have h2:(c::r).length=s.size - i:=by rw [<-HL.out,List.length_drop,sz]
  omega
 have P:=Lib.hid (fun w=>rpar_any ((c::r).takeWhile numB) w hW);unfold numberL spanN at hr;generalize (c::r).takeWhile numB=W at *;generalize Dec.parseS W=u at *;obtain ⟨m,x,ok⟩:=u;unfold Dec.mkV at P;clear HL HR hg h34 hd;generalize (c.toNat:Int)=z at *
 cases ok with
 | true=>
   rw [if_pos rfl] at hr;subst hr;rw [show firV (atR (⟨3,W,m,x,0⟩,W.length) i)=firV (⟨3,W,m,x,i⟩,W.length) from rfl]
   go_enter Tryz.func108,Tryz.ntmps108
   go_wp2_with (go_at_call 147;(with_reducible refine (NX.out _).mono ?_);rintro e1 w1 ⟨rfl,rfl⟩)
   (with_reducible refine (P.out _).mono ?_)
   rintro e1 w1 ⟨rfl,hb⟩;obtain ⟨c0,c1,c2,c3,c4,fz,lt⟩:=((TokAt.new w tok0 109).below hb).alloc (.cells #[.int .i64 m,.int .i64 x] 46);have hbb:=below_call hb;clear hb
   go_wp2_with fail
   exact bodyPost_ret (v:=firV (⟨3,W,m,x,i⟩,W.length)) (by simp [firV,tokV,tok0,results,Tryz.results108,go_sem,c0,c1,c2,c3,c4,bs_size]) rfl ⟨rfl,by repeat (first | exact hbb.alloc hbb.size _ | refine Below.setCell ?_ (by simp) _)⟩
 | false=>
   rw [if_neg (by simp)] at hr;subst hr;rw [show firV (atR (tok0,0) i)=firV (tok0,0) from rfl]
   go_enter Tryz.func108,Tryz.ntmps108
   go_wp2_with (go_at_call 147;(with_reducible refine (NX.out _).mono ?_);rintro e1 w1 ⟨rfl,rfl⟩)
   (with_reducible refine (P.out _).mono ?_)
   rintro e1 w1 ⟨rfl,hb⟩;obtain ⟨c0,c1,c2,c3,c4,fz,lt⟩:=((TokAt.new w tok0 109).below hb).alloc (.cells #[.int .i64 m,.int .i64 x] 46);have hbb:=below_call hb;clear hb
   go_wp2_with fail
   exact bodyPost_ret (v:=firV (tok0,0)) (by simp [firV,tokV,tok0,results,Tryz.results108,go_sem,c0,c1,c2,c3,c4]) rfl ⟨rfl,by repeat (first | exact hbb.alloc hbb.size _ | refine Below.setCell ?_ (by simp) _)⟩
end Go.Proofs.YtclghelocglnlaaGreatDoor.Lex
namespace Go.Proofs.YtclghelocglnlaaGreatDoor.Lex
open Go.RowKit
theorem rtok_minus (s:ByteArray) (i:Nat) (w:World) (c:UInt8) (r:List UInt8) (hs:s.size<=1000000) (hi:i < s.size) (hc:s[i]=c) (HL:Hid (s.data.toList.drop i=c::r)) (hg:signB c=false) (h45:c.toNat=45) (R:Tok×Nat)
 (HR:Hid (firstL (c::r)=R)):Calls Tryz.prog 108 #[.string s,.int .i64 i] w (Ret (firV (atR R i)) w):=by
 have hx:∀u:World,(Instr.index 9 (.string s) (.int .i64 i)).run Tryz.prog u= .ok (.int .u8 c.toNat) u:=Quo.run_byte s i hi c.toNat (by rw [hc]);clear hc;have h34:c.toNat≠34:=by omega
 have hr:numberL (c::r)=R:=by rw [<-HR.out];simp only [firstL];rw [if_neg (by simp [hg]),if_neg h34,if_pos (.inl h45)]
 obtain ⟨d1,d2,d3,d4,d5,d6⟩:=sign_no hg;have b1:((c.toNat:Int)==34)=false:=by simp;omega
 have z1:(c.toNat:Int)=45:=by omega
 have NX:=Lib.hid (fun w=>rword_num s i w (by omega) hs);rw [HL.out] at NX
 have hW:((c::r).takeWhile numB).length<=1000000:=by
  have h1:=(List.takeWhile_sublist (l:=c::r) numB).length_le;have h2:(c::r).length=s.size - i:=by rw [<-HL.out,List.length_drop,sz]
  omega
 have P:=Lib.hid (fun w=>rpar_any ((c::r).takeWhile numB) w hW);unfold numberL spanN at hr;generalize (c::r).takeWhile numB=W at *;generalize Dec.parseS W=u at *;obtain ⟨m,x,ok⟩:=u;unfold Dec.mkV at P;clear HL HR hg h34 h45;generalize (c.toNat:Int)=z at *
 cases ok with
 | true=>
   rw [if_pos rfl] at hr;subst hr;rw [show firV (atR (⟨3,W,m,x,0⟩,W.length) i)=firV (⟨3,W,m,x,i⟩,W.length) from rfl]
   go_enter Tryz.func108,Tryz.ntmps108
   go_wp2_with (go_at_call 147;(with_reducible refine (NX.out _).mono ?_);rintro e1 w1 ⟨rfl,rfl⟩)
   (with_reducible refine (P.out _).mono ?_)
   rintro e1 w1 ⟨rfl,hb⟩;obtain ⟨c0,c1,c2,c3,c4,fz,lt⟩:=((TokAt.new w tok0 109).below hb).alloc (.cells #[.int .i64 m,.int .i64 x] 46);have hbb:=below_call hb;clear hb
   go_wp2_with fail
   exact bodyPost_ret (v:=firV (⟨3,W,m,x,i⟩,W.length)) (by simp [firV,tokV,tok0,results,Tryz.results108,go_sem,c0,c1,c2,c3,c4,bs_size]) rfl ⟨rfl,by repeat (first | exact hbb.alloc hbb.size _ | refine Below.setCell ?_ (by simp) _)⟩
 | false=>
   rw [if_neg (by simp)] at hr;subst hr;rw [show firV (atR (tok0,0) i)=firV (tok0,0) from rfl]
   go_enter Tryz.func108,Tryz.ntmps108
   go_wp2_with (go_at_call 147;(with_reducible refine (NX.out _).mono ?_);rintro e1 w1 ⟨rfl,rfl⟩)
   (with_reducible refine (P.out _).mono ?_)
   rintro e1 w1 ⟨rfl,hb⟩;obtain ⟨c0,c1,c2,c3,c4,fz,lt⟩:=((TokAt.new w tok0 109).below hb).alloc (.cells #[.int .i64 m,.int .i64 x] 46);have hbb:=below_call hb;clear hb
   go_wp2_with fail
   exact bodyPost_ret (v:=firV (tok0,0)) (by simp [firV,tokV,tok0,results,Tryz.results108,go_sem,c0,c1,c2,c3,c4]) rfl ⟨rfl,by repeat (first | exact hbb.alloc hbb.size _ | refine Below.setCell ?_ (by simp) _)⟩
end Go.Proofs.YtclghelocglnlaaGreatDoor.Lex
namespace Go.Proofs.YtclghelocglnlaaGreatDoor.Lex
open Go.RowKit
theorem rtok_word (s:ByteArray) (i:Nat) (w:World) (c:UInt8) (r:List UInt8) (hs:s.size<=1000000) (hi:i < s.size) (hc:s[i]=c) (HL:Hid (s.data.toList.drop i=c::r)) (hg:signB c=false) (hl:letB c=true) (R:Tok×Nat)
 (HR:Hid (firstL (c::r)=R)):Calls Tryz.prog 108 #[.string s,.int .i64 i] w (Ret (firV (atR R i)) w):=by
 have hx:∀u:World,(Instr.index 9 (.string s) (.int .i64 i)).run Tryz.prog u= .ok (.int .u8 c.toNat) u:=Quo.run_byte s i hi c.toNat (by rw [hc]);clear hc;obtain ⟨z1,z2⟩:97<=(c.toNat:Int)/\(c.toNat:Int)<=122:=by unfold letB at hl;simp at hl;omega
 have hr:wordL (c::r)=R:=by rw [<-HR.out];simp only [firstL];rw [if_neg (by simp [hg]),if_neg (by omega),if_neg (by unfold digB;simp;omega),if_pos hl]
 obtain ⟨d1,d2,d3,d4,d5,d6⟩:=sign_no hg;have b1:((c.toNat:Int)==34)=false:=by simp;omega
 have b2:((c.toNat:Int)==45)=false:=by simp;omega
 have WX:=Lib.hid (fun w=>rword_let s i w (by omega) hs);rw [HL.out] at WX;unfold wordL spanN at hr;generalize (c::r).takeWhile letB=W at *;clear HL HR hg hl;generalize (c.toNat:Int)=z at *
 cases he1:(W== [116,114,117,101]) with
 | true=>
   obtain rfl:(⟨4,W,0,0,0⟩,W.length)=R:=by rw [<-hr];exact (if_pos (by unfold threeB;simp [*])).symm
   rw [show firV (atR (⟨4,W,0,0,0⟩,W.length) i)=firV (⟨4,W,0,0,i⟩,W.length) from rfl];clear hr
   go_enter Tryz.func108,Tryz.ntmps108
   go_wp2_with (go_at_call 147;(with_reducible refine (WX.out _).mono ?_);rintro e1 w1 ⟨rfl,rfl⟩)
   exact bodyPost_ret (v:=firV (⟨4,W,0,0,i⟩,W.length)) (by simp [firV,tokV,tok0,results,Tryz.results108,go_sem,bs_size]) rfl ⟨rfl,by repeat (first | exact (Below.refl _ _).alloc (Nat.le_refl _) _ | refine Below.setCell ?_ (by simp) _)⟩
 | false=>
   cases he2:(W== [102,97,108,115,101]) with
   | true=>
     obtain rfl:(⟨4,W,0,0,0⟩,W.length)=R:=by rw [<-hr];exact (if_pos (by unfold threeB;simp [*])).symm
     rw [show firV (atR (⟨4,W,0,0,0⟩,W.length) i)=firV (⟨4,W,0,0,i⟩,W.length) from rfl];clear hr
     go_enter Tryz.func108,Tryz.ntmps108
     go_wp2_with (go_at_call 147;(with_reducible refine (WX.out _).mono ?_);rintro e1 w1 ⟨rfl,rfl⟩)
     exact bodyPost_ret (v:=firV (⟨4,W,0,0,i⟩,W.length)) (by simp [firV,tokV,tok0,results,Tryz.results108,go_sem,bs_size]) rfl ⟨rfl,by repeat (first | exact (Below.refl _ _).alloc (Nat.le_refl _) _ | refine Below.setCell ?_ (by simp) _)⟩
   | false=>
     cases he3:(W== [110,117,108,108]) with
     | true=>
       obtain rfl:(⟨4,W,0,0,0⟩,W.length)=R:=by rw [<-hr];exact (if_pos (by unfold threeB;simp [*])).symm
       rw [show firV (atR (⟨4,W,0,0,0⟩,W.length) i)=firV (⟨4,W,0,0,i⟩,W.length) from rfl];clear hr
       go_enter Tryz.func108,Tryz.ntmps108
       go_wp2_with (go_at_call 147;(with_reducible refine (WX.out _).mono ?_);rintro e1 w1 ⟨rfl,rfl⟩)
       exact bodyPost_ret (v:=firV (⟨4,W,0,0,i⟩,W.length)) (by simp [firV,tokV,tok0,results,Tryz.results108,go_sem,bs_size]) rfl ⟨rfl,by repeat (first | exact (Below.refl _ _).alloc (Nat.le_refl _) _ | refine Below.setCell ?_ (by simp) _)⟩
     | false=>
       obtain rfl:(tok0,0)=R:=by rw [<-hr];exact (if_neg (by unfold threeB;simp [*])).symm
       rw [show firV (atR (tok0,0) i)=firV (tok0,0) from rfl];clear hr
       go_enter Tryz.func108,Tryz.ntmps108
       go_wp2_with (go_at_call 147;(with_reducible refine (WX.out _).mono ?_);rintro e1 w1 ⟨rfl,rfl⟩)
       exact bodyPost_ret (v:=firV (tok0,0)) (by simp [firV,tokV,tok0,results,Tryz.results108,go_sem]) rfl ⟨rfl,by repeat (first | exact (Below.refl _ _).alloc (Nat.le_refl _) _ | refine Below.setCell ?_ (by simp) _)⟩
end Go.Proofs.YtclghelocglnlaaGreatDoor.Lex
namespace Go.Proofs.YtclghelocglnlaaGreatDoor.Lex
open Go.RowKit
theorem rtok_none (s:ByteArray) (i:Nat) (w:World) (c:UInt8) (r:List UInt8) (hs:s.size<=1000000) (hi:i < s.size) (hc:s[i]=c) (HL:Hid (s.data.toList.drop i=c::r)) (hg:signB c=false) (h34:c.toNat≠34) (h45:c.toNat≠45) (hd:digB c=false) (hl:letB c=false) (R:Tok×Nat)
 (HR:Hid (firstL (c::r)=R)):Calls Tryz.prog 108 #[.string s,.int .i64 i] w (Ret (firV (atR R i)) w):=by
 have hx:∀u:World,(Instr.index 9 (.string s) (.int .i64 i)).run Tryz.prog u= .ok (.int .u8 c.toNat) u:=Quo.run_byte s i hi c.toNat (by rw [hc]);clear hc;obtain rfl:(tok0,0)=R:=by rw [<-HR.out];simp [firstL,hg,h34,h45,hd,hl]
 obtain ⟨d1,d2,d3,d4,d5,d6⟩:=sign_no hg;have b1:((c.toNat:Int)==34)=false:=by simp;omega
 have b2:((c.toNat:Int)==45)=false:=by simp;omega
 have q1:(c.toNat:Int) < 48∨57 < (c.toNat:Int):=by unfold digB at hd;simp at hd;omega
 have q2:(c.toNat:Int) < 97∨122 < (c.toNat:Int):=by unfold letB at hl;simp at hl;omega
 rw [show firV (atR (tok0,0) i)=firV (tok0,0) from rfl];clear HL HR hg h34 h45 hd hl;generalize (c.toNat:Int)=z at *;rcases (show z < 48∨(57 < z/\z < 97)∨122 < z from by omega) with q | ⟨q,q'⟩ | q
 all_goals
  clear q1 q2
  go_enter Tryz.func108,Tryz.ntmps108
  go_wp2_with fail
  exact bodyPost_ret (v:=firV (tok0,0)) (by simp [firV,tokV,tok0,results,Tryz.results108,go_sem]) rfl ⟨rfl,by repeat (first | exact (Below.refl _ _).alloc (Nat.le_refl _) _ | refine Below.setCell ?_ (by simp) _)⟩
end Go.Proofs.YtclghelocglnlaaGreatDoor.Lex
namespace Go.Proofs.YtclghelocglnlaaGreatDoor.Lex
open Go.RowKit
theorem rtoken_any (s:ByteArray) (i:Nat) (w:World) (hs:s.size<=1000000) (hi:i < s.size):Calls Tryz.prog 108 #[.string s,.int .i64 i] w (Ret (firV (atR (firstL (s.data.toList.drop i)) i)) w):=by
 have HL:=Lib.hid (drop_at hi);rw [HL.out];generalize hc:s[i]=c at *
 cases hg:signB c with
 | true=>exact rtok_sign s i w c _ hs hi hc HL hg _ rfl
 | false=>
   by_cases h34:c.toNat=34
   ·exact rtok_text s i w c _ hs hi hc HL hg h34 _ rfl
   ·by_cases h45:c.toNat=45
    ·exact rtok_minus s i w c _ hs hi hc HL hg h45 _ rfl
    ·cases hd:digB c with
     | true=>exact rtok_dig s i w c _ hs hi hc HL hg hd _ rfl
     | false=>
       cases hl:letB c with
       | true=>exact rtok_word s i w c _ hs hi hc HL hg hl _ rfl
       | false=>exact rtok_none s i w c _ hs hi hc HL hg h34 h45 hd hl _ rfl
end Go.Proofs.YtclghelocglnlaaGreatDoor.Lex
namespace Go.Proofs.YtclghelocglnlaaGreatDoor.Lex
open Go.RowKit
theorem blank_z (c:UInt8):(blankB c=true/\((c.toNat:Int)=32∨(c.toNat:Int)=9∨(c.toNat:Int)=10∨(c.toNat:Int)=13))∨
 (blankB c=false/\((c.toNat:Int)==32)=false/\((c.toNat:Int)==9)=false/\((c.toNat:Int)==10)=false/\((c.toNat:Int)==13)=false):=by
 cases h:blankB c with
 | true=>
   refine .inl ⟨rfl,?_⟩;simp only [blankB,List.contains_eq_mem,decide_eq_true_eq,List.mem_cons,List.not_mem_nil,or_false] at h;rcases h with rfl | rfl | rfl | rfl <;> decide
 | false=>
   refine .inr ⟨rfl,?_⟩
   have k:∀n:Nat,n < 256->blankB (UInt8.ofNat n)=true->((c.toNat:Int)==(n:Int))=false:=fun n hn hb=>by
    by_cases e:c.toNat=n
    ·rw [<-u8_eq hn e,h] at hb;cases hb
    ·simp;omega
   exact ⟨k 32 (by omega) (by decide),k 9 (by omega) (by decide),k 10 (by omega) (by decide),k 13 (by omega) (by decide)⟩
theorem rscan_long (s:ByteArray) (w:World) (hs:20000 < s.size) (hm:s.size<=maxLen):Calls Tryz.prog 77 #[.string s] w (ScanRet (.inl 0) w):=by
 unfold maxLen at hm
 go_enter Tryz.func77,Tryz.ntmps77
 go_wp2
 go_ret3
 exact ⟨_,rfl,ToksOwn.nil _ _,Below.refl _ _⟩
theorem rscan_short (s:ByteArray) (w:World) (hs:s.size<=20000):Calls Tryz.prog 77 #[.string s] w (ScanRet (scanL s.data.toList 0) w):=by
 obtain ⟨R,HR⟩:∃R,Hid (scanL s.data.toList 0=R):=⟨_,rfl⟩;rw [HR.out];have ht:decide ((20000:Int) < (s.size:Int))=false:=decide_eq_false (by omega);have hs':s.size<=1000000:=by omega
 have HS:=Lib.hid hs;clear hs
 go_enter Tryz.func77,Tryz.ntmps77
 go_wp2_with fail
 go_loopw [5,6] (fun toks i wr=>∃(k:Nat) (acc:List Tok),k<=s.size/\i= .int .i64 k/\ToksOwn wr w.heap.size toks acc/\Below w.heap.size w wr/\acc.length<=k/\
  Hid (R=combR acc (scanL (s.data.toList.drop k) k))) (fun _ i _=>s.size - (intOf i).toNat)
 case atStart=>exact ⟨0,[],Nat.zero_le _,rfl,ToksOwn.nil _ _,Below.refl _ _,Nat.zero_le _,by show _=_;rw [combR_nil];exact HR.out.symm⟩
 case round=>
  obtain ⟨k,acc,hk,rfl,hown,hbw,hla,HK⟩:=hrel;clear HR;have hsz:=hbw.size
  by_cases hlt:k < s.size
  ·have hx:∀u:World,(Instr.index 9 (.string s) (.int .i64 k)).run Tryz.prog u= .ok (.int .u8 s[k].toNat) u:=Quo.run_byte s k hlt s[k].toNat rfl;have HD:=Lib.hid (drop_at hlt);have F:=Lib.hid (fun w=>rtoken_any s k w hs' hlt);generalize hc:s[k]=c at *;clear hc;rcases blank_z c with ⟨hbl,hz⟩ | ⟨hbl,q1,q2,q3,q4⟩
   ·have HN:Hid (R=combR acc (scanL (s.data.toList.drop (k+1)) (k+1))):=by
     show _=_;rw [HK.out,HD.out,scanL_blank hbl]
    clear HK HD F hbl;generalize (c.toNat:Int)=z at *;rcases hz with rfl | rfl | rfl | rfl
    all_goals
     go_wp2_with fail
     go_roundw
     case rel=>exact ⟨k+1,acc,by omega,by go_num,hown,hbw,by omega,HN⟩
     case measure=>simp [intOf];omega
   ·have hne:s.data.toList.drop k≠ []:=(by rw [HD.out];simp);have hnb:blankB ((s.data.toList.drop k).getD 0 0)=false:=(by rw [HD.out];exact hbl);have hfl:=firstL_le (s.data.toList.drop k);rw [List.length_drop,sz] at hfl;have hfk:=first_kind (l:=s.data.toList.drop k);obtain ⟨⟨⟨K,T,M,E,Q⟩,n⟩,HF⟩:∃r,Hid (firstL (s.data.toList.drop k)=r):=⟨_,rfl⟩;rw [HF.out] at F hfl hfk;simp only at hfl hfk
    by_cases h0:n=0
    ·subst h0;have hr:R= .inl k:=(by rw [HK.out,scanL_bad hne hnb (by rw [HF.out])];rfl);subst hr;unfold atR at F;generalize (if (({ k:=K,t:=T,m:=M,e:=E,p:=Q }:Tok),0).1.k=0 then tok0 else (({ k:=K,t:=T,m:=M,e:=E,p:=Q }:Tok),0).1.at_ k)=X at F;obtain ⟨K',T',M',E',Q'⟩:=X;unfold firV tokV at F;clear HK HF hne hnb HD hbl;generalize (c.toNat:Int)=z at *
     go_wp2_with (go_at_call 108;(with_reducible refine (F.out _).mono ?_);rintro e1 w1 ⟨rfl,hb⟩)
     go_ret3
     exact ⟨_,rfl,ToksOwn.nil _ _,(hbw.trans (hb.mono hbw.size)).alloc (Nat.le_trans hbw.size hb.size) _⟩
    ·have b0:((n:Int)==0)=false:=by simp;omega
     have hX:atR (⟨K,T,M,E,Q⟩,n) k=(⟨K,T,M,E,k⟩,n):=by
      unfold atR;rw [if_neg (hfk h0)];rfl
     rw [hX] at F;unfold firV tokV at F
     have HR2:Hid (R=combR (acc++ [⟨K,T,M,E,k⟩]) (scanL (s.data.toList.drop (k+n)) (k+n))):=by
      show _=_;rw [HK.out,scanL_tok hne hnb (by rw [HF.out];exact h0),HF.out,combR_cons];simp only [List.drop_drop,Tok.at_]
     clear hX hfk HK HF hne hnb HD hbl;generalize (c.toNat:Int)=z at *
     go_wp2_with (first | (go_at_call 108;(with_reducible refine (F.out _).mono ?_);rintro e1 w1 ⟨rfl,hb⟩) | (at_builtin;have hsz1:=hb.size;(refine append_tok rfl _ _ rfl w.heap.size _ acc rfl (ToksOwn.below hown ((hb.alloc hb.size _).alloc (by simp;omega) _) (Nat.le_refl _)) _ _ rfl ⟨K,T,M,E,k⟩ (two_new _ _ _) (by omega) (by simp;omega) ?_);intro v' w2 hown2 hb2))
     have hbb:Below w.heap.size w w2:=((hbw.trans (hb.mono hsz)).alloc (by omega) _ |>.alloc (by simp;omega) _).trans hb2
     go_roundw
     case rel=>exact ⟨k+n,acc++ [⟨K,T,M,E,k⟩],by omega,by go_num,hown2,hbb,by simp;omega,HR2⟩
     case measure=>simp [intOf];omega
  ·have hr:R= .inr (acc++ [⟨5,[],0,0,k⟩]):=by rw [HK.out,drop_end hlt,scanL_nil];rfl
   subst hr;clear HK
   go_wp2_with (at_builtin;refine append_tok rfl _ _ rfl w.heap.size _ acc rfl (hown.alloc _) _ _ rfl ⟨5,[],0,0,k⟩ (heap_alloc_new wr _) (by omega) (by simp;omega) ?_;intro v' w2 hown2 hb2)
   go_ret3
   exact ⟨_,rfl,hown2,(hbw.alloc hsz _).trans hb2⟩
theorem rscan_any (s:ByteArray) (w:World) (hm:s.size<=maxLen):Calls Tryz.prog 77 #[.string s] w (ScanRet (scanS s.data.toList) w):=by
 unfold scanS;rw [sz]
 by_cases h:20000 < s.size
 ·rw [if_pos h];exact rscan_long s w h hm
 ·rw [if_neg h];exact rscan_short s w (by omega)
end Go.Proofs.YtclghelocglnlaaGreatDoor.Lex
