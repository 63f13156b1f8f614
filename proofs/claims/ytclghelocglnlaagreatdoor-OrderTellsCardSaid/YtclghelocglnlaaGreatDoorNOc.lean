import Derived.Test.YtclghelocglnlaaGreatDoorNOb
import Derived.Test.YtclghelocglnlaaGreatDoorMPf
import Derived.Test.YtclghelocglnlaaGreatDoorMPz
set_option maxHeartbeats 0
set_option maxRecDepth 100000
set_option linter.all false
namespace Go.Proofs.YtclghelocglnlaaGreatDoor.Od
open Go.RowKit Js Lex
theorem areNums_any (b o n c:Nat) (l:List Int) (w:World) (hl:l.length=n) (hn:n<=64) (hc:∀q,q < n->w.cell? ⟨b,o+q,none⟩=some (.int .i64 (l.getD q 0))):
 Calls Tryz.prog 28 #[.slice (some ⟨b,o,none⟩) n c] w (fun e w'=>e= .returned (.bool (l.all numB))/\w=w'):=by
 have HC:=Lib.hid hc;have HL:=Lib.hid hl;obtain ⟨R,HR⟩:∃R,Hid (l.all numB=R):=⟨_,rfl⟩;rw [HR.out];clear hc hl
 go_enter Tryz.func28,Tryz.ntmps28
 go_wp2_with fail
 go_loopw [7] (fun i wr=>∃q:Nat,q<=n/\i= .int .i64 q/\w=wr/\Hid (R=(l.drop q).all numB)) (fun i _=>n - (intOf i).toNat)
 case atStart=>exact ⟨0,Nat.zero_le _,rfl,rfl,HR.out.symm⟩
 case round=>
  obtain ⟨q,hq,rfl,rfl,HK⟩:=hrel
  by_cases hlt:q < n
  ·have x1:=HC.out q hlt;have HS:Hid ((l.drop q).all numB=(numB (l.getD q 0) && (l.drop (q+1)).all numB)):=by show _=_;rw [drop_getD0 0 (by rw [HL.out];exact hlt),List.all_cons]
   have i1:(q:Int) < (n:Int):=by omega
   clear HC;generalize l.getD q 0=X at *
   by_cases h0:X < 0
   ·have HB:Hid (numB X=false):=by show _=_;unfold numB;simp;omega
    go_wp2_with fail
    go_ret
    exact ⟨Quo.ret_bool (by rw [HK.out,HS.out,HB.out];rfl),rfl⟩
   ·by_cases h1:1000000000 < X
    ·have HB:Hid (numB X=false):=by show _=_;unfold numB;simp;omega
     go_wp2_with fail
     go_ret
     exact ⟨Quo.ret_bool (by rw [HK.out,HS.out,HB.out];rfl),rfl⟩
    ·have HB:Hid (numB X=true):=by show _=_;unfold numB;simp;omega
     go_wp2_with fail
     go_roundw
     case rel=>exact ⟨q+1,by omega,by go_num,trivial,by show _=_;rw [HK.out,HS.out,HB.out];simp⟩
     case measure=>simp [intOf];omega
  ·have HE:Hid (R=true):=by show _=_;rw [HK.out,List.drop_of_length_le (by rw [HL.out];omega)];rfl
   go_wp2_with fail
   go_ret
   exact ⟨Quo.ret_bool (by rw [HE.out]),rfl⟩
theorem lit_cells {w:World} {b:Nat} {T:TypeId} {fr:Nat×Nat} (l:List Int) (h:w.heap[b]?=some (.cells (l.map fun z=>Value.int .i64 z).toArray T fr)):∀q,q < l.length->w.cell? ⟨b,0+q,none⟩=some (.int .i64 (l.getD q 0)):=fun q hq=>by
 rw [cell_of_row _ _ _ _ _ _ h];simp [List.getD,hq]
theorem nums2 (x y:Int) (b c:Nat) (w:World) (h:w.heap[b]?=some (.cells #[.int .i64 x,.int .i64 y] 3 (0,0))):Calls Tryz.prog 28 #[.slice (some ⟨b,0,none⟩) 2 c] w (fun e w'=>e= .returned (.bool (numB x && numB y))/\w=w'):=by
 have:=areNums_any b 0 2 c [x,y] w rfl (by omega) (lit_cells [x,y] h)
 rwa [show [x,y].all numB=(numB x && numB y) by simp] at this
theorem nums3 (x y z:Int) (b c:Nat) (w:World) (h:w.heap[b]?=some (.cells #[.int .i64 x,.int .i64 y,.int .i64 z] 3 (0,0))):Calls Tryz.prog 28 #[.slice (some ⟨b,0,none⟩) 3 c] w (fun e w'=>e= .returned (.bool (numB x && (numB y && numB z)))/\w=w'):=by
 have:=areNums_any b 0 3 c [x,y,z] w rfl (by omega) (lit_cells [x,y,z] h)
 rwa [show [x,y,z].all numB=(numB x && (numB y && numB z)) by simp] at this
theorem nums4 (x y z u:Int) (b c:Nat) (w:World) (h:w.heap[b]?=some (.cells #[.int .i64 x,.int .i64 y,.int .i64 z,.int .i64 u] 3 (0,0))):Calls Tryz.prog 28 #[.slice (some ⟨b,0,none⟩) 4 c] w (fun e w'=>e= .returned (.bool (numB x && (numB y && (numB z && numB u))))/\w=w'):=by
 have:=areNums_any b 0 4 c [x,y,z,u] w rfl (by omega) (lit_cells [x,y,z,u] h)
 rwa [show [x,y,z,u].all numB=(numB x && (numB y && (numB z && numB u))) by simp] at this
theorem four_last (w:World) (a b c d:Obj):((((w.alloc a).alloc b).alloc c).alloc d).heap[w.heap.size+1+1+1]?=some d:=by
 have:=heap_alloc_new (((w.alloc a).alloc b).alloc c) d
 simpa using this
theorem belowFour (w:World) (a b c d:Obj):Below w.heap.size w ((((w.alloc a).alloc b).alloc c).alloc d):=(belowThree w a b c).alloc (by simp;omega) _
theorem isFirst_any (x:St) (w:World):Calls Tryz.prog 62 #[stV x] w (Ret (.bool (firstB x)) w):=by
 obtain ⟨i,q,r⟩:=x;have AN:=Lib.hid (fun (w':World) (b:Nat) (h:w'.heap[b]?=some (.cells #[.int .i64 i,.int .i64 q] 3 (0,0)))=>nums2 i q b 2 w' h);unfold stV firstB;simp only;rw [<-Bool.and_assoc]
 by_cases hN:(numB i && numB q)=true
 ·rw [hN] at AN⊢;have hq:=numB_iff (show numB q=true by simp at hN;exact hN.2);obtain ⟨hq0,hq1⟩:=hq
  by_cases he:q % 2=0
  ·rw [decide_eq_true he]
   go_enter Tryz.func62,Tryz.ntmps62
   go_wp2_with (go_at_call 28;(with_reducible refine (AN.out _ _ (two_new _ _ _)).mono ?_);rintro e1 w1 ⟨rfl,rfl⟩)
   go_ret
   exact ⟨rfl,belowTwo _ _ _⟩
  ·rw [decide_eq_false he]
   go_enter Tryz.func62,Tryz.ntmps62
   go_wp2_with (go_at_call 28;(with_reducible refine (AN.out _ _ (two_new _ _ _)).mono ?_);rintro e1 w1 ⟨rfl,rfl⟩)
   go_ret
   exact ⟨rfl,belowTwo _ _ _⟩
 ·rw [Bool.not_eq_true] at hN;rw [hN] at AN⊢
  go_enter Tryz.func62,Tryz.ntmps62
  go_wp2_with (go_at_call 28;(with_reducible refine (AN.out _ _ (two_new _ _ _)).mono ?_);rintro e1 w1 ⟨rfl,rfl⟩)
  go_ret
  exact ⟨rfl,belowTwo _ _ _⟩
theorem isStep_any (a e b:St) (w:World) (ha:numB a.seq=true):Calls Tryz.prog 63 #[stV a,stV e,stV b] w (Ret (.bool (stepB a e b)) w):=by
 obtain ⟨ai,aq,ar⟩:=a;obtain ⟨ei,eq,er⟩:=e;obtain ⟨bi,bq,br⟩:=b;have AN:=Lib.hid (fun (w':World) (b:Nat) (h:w'.heap[b]?=some (.cells #[.int .i64 ei,.int .i64 eq,.int .i64 bi,.int .i64 bq] 3 (0,0)))=>nums4 ei eq bi bq b 4 w' h);unfold stV stepB;simp only at ha⊢;obtain ⟨ha0,ha1⟩:=numB_iff ha;clear ha
 by_cases hN:(numB ei && (numB eq && (numB bi && numB bq)))=true
 ·rw [hN] at AN⊢;obtain ⟨he0,he1⟩:=numB_iff (show numB eq=true by simp at hN;exact hN.2.1);clear hN;have w1:(aq+1)<=9223372036854775807:=by omega
  have w2:(eq+1)<=9223372036854775807:=by omega
  by_cases h1:eq=aq+1
  ·by_cases h2:bq=eq+1
   ·subst h2;subst h1;rw [show (aq+1==aq+1)=true by simp,show (aq+1+1==aq+1+1)=true by simp]
    cases br <;> cases er <;> cases ar
    all_goals
     go_enter Tryz.func63,Tryz.ntmps63
     go_wp2_with (go_at_call 28;(with_reducible refine (AN.out _ _ (four_last _ _ _ _ _)).mono ?_);rintro e1 w1 ⟨rfl,rfl⟩)
     go_ret
     exact ⟨rfl,belowFour _ _ _ _ _⟩
   ·subst h1;have h3:(bq==aq+1+1)=false:=(by simpa using h2);rw [show (aq+1==aq+1)=true by simp,h3]
    go_enter Tryz.func63,Tryz.ntmps63
    go_wp2_with (go_at_call 28;(with_reducible refine (AN.out _ _ (four_last _ _ _ _ _)).mono ?_);rintro e1 w1 ⟨rfl,rfl⟩)
    go_ret
    exact ⟨rfl,belowFour _ _ _ _ _⟩
  ·have h3:(eq==aq+1)=false:=by simpa using h1
   rw [h3]
   go_enter Tryz.func63,Tryz.ntmps63
   go_wp2_with (go_at_call 28;(with_reducible refine (AN.out _ _ (four_last _ _ _ _ _)).mono ?_);rintro e1 w1 ⟨rfl,rfl⟩)
   go_ret
   exact ⟨rfl,belowFour _ _ _ _ _⟩
 ·rw [Bool.not_eq_true] at hN;rw [hN] at AN⊢
  go_enter Tryz.func63,Tryz.ntmps63
  go_wp2_with (go_at_call 28;(with_reducible refine (AN.out _ _ (four_last _ _ _ _ _)).mono ?_);rintro e1 w1 ⟨rfl,rfl⟩)
  go_ret
  exact ⟨rfl,belowFour _ _ _ _ _⟩
end Go.Proofs.YtclghelocglnlaaGreatDoor.Od
namespace Go.Proofs.YtclghelocglnlaaGreatDoor.Od
open Go.RowKit Js Lex
theorem mixed8:Tryz.prog.follows .mixedOrders=true:=by kernel_rfl
theorem headD_zero (l:List St):l.headD st0=l.getD 0 st0:=by cases l <;> rfl
theorem stepB_next {a e b:St} (h:stepB a e b=true):numB b.seq=true:=by
 unfold stepB at h;simp only [Bool.and_eq_true] at h;exact h.1.2.2.2
theorem lineB_short {ns es:List St} (h:¬(1<=ns.length/\ns.length<=64/\es.length+1=ns.length)):lineB ns es=false:=by
 unfold lineB;rw [Bool.eq_false_iff];intro h';simp only [Bool.and_eq_true,decide_eq_true_eq] at h';exact h ⟨h'.1,h'.2.1,h'.2.2.1⟩
theorem lineB_long {ns es:List St} (h1:1<=ns.length) (h2:ns.length<=64) (h3:es.length+1=ns.length):lineB ns es=(firstB (ns.getD 0 st0) && stepsB es ns):=by
 unfold lineB;rw [decide_eq_true h1,decide_eq_true h2,decide_eq_true h3,headD_zero]
 rfl
theorem firstB_seq {a:St} (h:firstB a=true):numB a.seq=true:=by
 unfold firstB at h;simp only [Bool.and_eq_true] at h;exact h.2.1
theorem isLine_any (S:Nat->Prop) (an ae:Option Addr) (cn ce:Nat) (ns es:List St) (w:World) (hN:StsAt S w (.slice an ns.length cn) ns) (hE:StsAt S w (.slice ae es.length ce) es):
 Calls Tryz.prog 30 #[.slice an ns.length cn,.slice ae es.length ce] w (Ret (.bool (lineB ns es)) w):=by
 have HN:=Lib.hid hN;have HE:=Lib.hid hE;obtain ⟨-,-,l1⟩:=hN.len;obtain ⟨-,-,l2⟩:=hE.len;clear hN hE
 by_cases hl:1<=ns.length/\ns.length<=64/\es.length+1=ns.length
 ·obtain ⟨h1,h2,h3⟩:=hl;rw [lineB_long h1 h2 h3];obtain ⟨b,off,rfl,-,hb,hg,x0,x1,x2⟩:=HN.out.at_ (k:=0) (by omega);have F:=Lib.hid (fun (w':World)=>isFirst_any (ns.getD 0 st0) w');have HFS:=Lib.hid (@firstB_seq (ns.getD 0 st0));unfold stV at F;obtain ⟨m,HM⟩:∃m,Hid (es.length=m):=⟨_,rfl⟩;obtain ⟨n,HM2⟩:∃n,Hid (ns.length=n):=⟨_,rfl⟩;have h3':m+1=n:=by rw [<-HM.out,<-HM2.out];exact h3
  rw [HM.out] at HE l2⊢;rw [HM2.out] at HN l1 h1 h2⊢;clear h3;have h3:=Lib.hid h3';have j1:¬(n:Int) < 1:=by omega
  have j2:¬(64:Int) < (n:Int):=by omega
  have j3:((m:Int) !=(n:Int) - 1)=false:=by simp;omega
  have j4:(0:Int) < (n:Int):=by omega
  clear h3';have hs0:ns.getD 0 st0=ns.getD 0 st0:=rfl;simp only [Nat.zero_mul,Nat.add_zero] at x0 x1 x2;obtain ⟨s0,HS0⟩:∃s,Hid (ns.getD 0 st0=s):=⟨_,rfl⟩;rw [HS0.out] at F HFS x0 x1 x2⊢;clear hs0 hg;obtain ⟨f,hf⟩:∃f,firstB s0=f:=⟨_,rfl⟩;rw [hf] at F⊢
  cases f with
  | false=>
    go_enter Tryz.func30,Tryz.ntmps30
    go_wp2_with (go_at_call 62;(with_reducible refine (F.out _).mono ?_);rintro e1 w1 ⟨rfl,hb1⟩)
    go_ret
    exact ⟨rfl,hb1⟩
  | true=>
    have HQ:Hid (numB (ns.getD 0 st0).seq=true):=(by show _=_;rw [HS0.out];exact HFS.out hf);clear HFS hf;obtain ⟨R,HR⟩:∃R,Hid (stepsB es ns=R):=⟨_,rfl⟩;rw [HR.out]
    go_enter Tryz.func30,Tryz.ntmps30
    go_wp2_with (go_at_call 62;(with_reducible refine (F.out _).mono ?_);rintro e1 w1 ⟨rfl,hb1⟩)
    have HB1:=Lib.hid hb1;clear F x0 x1 x2 hb1
    go_loopw [30] (fun i wr=>∃k:Nat,k<=m/\i= .int .i64 k/\Below w.heap.size w wr/\Hid (R=stepsB (es.drop k) (ns.drop k))/\Hid (numB (ns.getD k st0).seq=true)) (fun i _=>m - (intOf i).toNat)
    case atStart=>exact ⟨0,Nat.zero_le _,rfl,HB1.out,HR.out.symm,HQ⟩
    case round=>
     clear HB1 HR HQ HS0;obtain ⟨k,hk,rfl,hB,HK,HQ⟩:=hrel
     by_cases hlt:k < m
     ·obtain ⟨be,oe,rfl,-,hbe,hge,y0,y1,y2⟩:=HE.out.at_ (k:=k) (by rw [HM.out];exact hlt);obtain ⟨bn,on,hbo,-,hbn,hgn,z0,z1,z2⟩:=HN.out.at_ (k:=k) (by rw [HM2.out];have:=h3.out;omega)
      cases hbo
      obtain ⟨bn2,on2,hbo,-,-,hgn2,u0,u1,u2⟩:=HN.out.at_ (k:=k+1) (by rw [HM2.out];have:=h3.out;omega)
      cases hbo
      rw [<-hB.cell (p:=⟨be,_,none⟩) hbe] at y0 y1 y2;rw [<-hB.cell (p:=⟨b,_,none⟩) hb] at z0 z1 z2 u0 u1 u2;have HS:=Lib.hid (stepsB_step (es:=es) (ns:=ns) (k:=k) (by rw [HM.out];exact hlt) (by rw [HM2.out];have:=h3.out;omega));have ST:=Lib.hid (fun (w':World)=>isStep_any (ns.getD k st0) (es.getD k st0) (ns.getD (k+1) st0) w' HQ.out);unfold stV at ST;have HNX:=Lib.hid (@stepB_next (ns.getD k st0) (es.getD k st0) (ns.getD (k+1) st0));have q1:(k:Int) < (m:Int):=(by omega);have q2:(k:Int) < (n:Int):=(by have:=h3.out;omega);have q5:(0:Int)<=(k:Int)+1:=(by omega);have q6:¬(k:Int)+1 < 0:=(by omega);have q8:((k:Int)+1).toNat=k+1:=(by omega);have q9:k+1 < n:=(by have:=h3.out;omega);have q4:IntKind.i64.wrap ((k:Int)+1)=(k:Int)+1:=(by rw [IntKind.wrap_i64];omega);have q3:(k:Int)+1 < (n:Int):=(by have:=h3.out;omega);have hsz:=hB.size;have hbe':be < wr.heap.size:=(by omega);have hb':b < wr.heap.size:=(by omega);clear HE HN hge hgn hgn2;generalize ns.getD k st0=sa at *;generalize es.getD k st0=se at *;obtain ⟨sb,HSB⟩:∃s,Hid (ns.getD (k+1) st0=s):=⟨_,rfl⟩;rw [HSB.out] at u0 u1 u2 HS ST HNX;obtain ⟨r,hr⟩:∃r,stepB sa se sb=r:=⟨_,rfl⟩;rw [hr] at ST;obtain ⟨wa,hwa⟩:∃wa,wr.alloc (.cells #[.int .i64 se.id,.int .i64 se.seq,.bool se.rel] 43)=wa:=⟨_,rfl⟩;have hba:Below wr.heap.size wr wa:=(by rw [<-hwa];exact belowOne _ _);have hxn:wa.heap[wr.heap.size]?=some (.cells #[.int .i64 se.id,.int .i64 se.seq,.bool se.rel] 43 (0,0)):=(by rw [<-hwa];exact heap_alloc_new _ _);obtain ⟨⟨v0,v1,v2⟩,-⟩:=three_of hxn;have HBA:=Lib.hid (hB.trans (hba.mono hsz));have C1:=Lib.hid (fun (dd:Nat) (os:Array Obj)=>Calls.regrown_of (w:=wa) (d:=dd) (os:=os) (ST.out _));have v0':=cell_regrown v0;have v1':=cell_regrown v1;have v2':=cell_regrown v2;have z0':=cell_regrown ((hba.cell (p:=⟨b,_,none⟩) hb').trans z0);have z1':=cell_regrown ((hba.cell (p:=⟨b,_,none⟩) hb').trans z1);have z2':=cell_regrown ((hba.cell (p:=⟨b,_,none⟩) hb').trans z2);have u0':=cell_regrown ((hba.cell (p:=⟨b,_,none⟩) hb').trans u0);have u1':=cell_regrown ((hba.cell (p:=⟨b,_,none⟩) hb').trans u1);have u2':=cell_regrown ((hba.cell (p:=⟨b,_,none⟩) hb').trans u2);clear hba hxn v0 v1 v2
      go_upto_region 8 with fail
      clear hwa y0 y1 y2 z0 z1 z2 u0 u1 u2;refine wp_region_quiet_below mixed8 (by kernel_rfl) ?_
      repeat (quiet_step (with_reducible exact C1.out _ _))
      refine wpQuiet_nil ?_;intro _ hw';obtain ⟨⟨dq,osq⟩,hw''⟩:=hw';subst hw'';have HBN:=Lib.hid (HBA.out.trans ((below_regrown wa dq osq).mono HBA.out.size))
      cases r with
      | true=>
        go_wp2_with fail
        go_roundw
        case rel=>exact ⟨k+1,by omega,by go_num,HBN.out,by show _=_;rw [HK.out,HS.out,hr];simp,by show _=_;rw [HSB.out];exact HNX.out hr⟩
        case measure=>simp [intOf];omega
      | false=>
        go_wp2_with fail
        go_ret
        exact ⟨Quo.ret_bool (by rw [HK.out,HS.out,hr];rfl),HBN.out⟩
     ·have HX:Hid (R=true):=by show _=_;rw [HK.out,List.drop_of_length_le (by rw [HM.out];omega),stepsB_nil]
      go_wp2_with fail
      go_ret
      exact ⟨Quo.ret_bool (by rw [HX.out];rfl),hB⟩
 ·rw [lineB_short hl];clear HN HE;generalize ns.length=n at *;generalize es.length=m at *
  by_cases h1:n < 1
  ·obtain rfl:n=0:=by omega
   go_enter Tryz.func30,Tryz.ntmps30
   go_wp2_with fail
   go_ret
   exact ⟨rfl,Below.refl _ _⟩
  ·have i1:¬(n:Int) < 1:=by omega
   by_cases h2:64 < n
   ·have i2:(64:Int) < (n:Int):=by omega
    go_enter Tryz.func30,Tryz.ntmps30
    go_wp2_with fail
    go_ret
    exact ⟨rfl,Below.refl _ _⟩
   ·have i2:¬(64:Int) < (n:Int):=(by omega);have i3:((m:Int) !=(n:Int) - 1)=true:=by simp;omega
    go_enter Tryz.func30,Tryz.ntmps30
    go_wp2_with fail
    go_ret
    exact ⟨rfl,Below.refl _ _⟩
end Go.Proofs.YtclghelocglnlaaGreatDoor.Od
namespace Go.Proofs.YtclghelocglnlaaGreatDoor.Od
open Go.RowKit Js Lex
theorem name_of_l (l:List UInt8) (w:World) (h:l.length<=140737488355328):Calls Tryz.prog 29 #[.string ⟨l.toArray⟩] w (fun e w'=>e= .returned (.bool (Tp.nameB l))/\w=w'):=Tp.Name_l l w (by omega)
def oC (h:Int) (v:List UInt8) (o u:Int) (nv ev:Value):Array Value:=#[.int .i64 h,.string ⟨v.toArray⟩,.int .i64 o,.int .i64 u,nv,ev]
theorem right_any (S:Nat->Prop) (v:Value) (x:O) (w:World) (h:OAt S w v x):Calls Tryz.prog 8 #[v] w (Ret (.bool (rightO Tp.nameB x)) w):=by
 obtain ⟨an,cn,ae,ce,rfl,-,hv,-,-,hN,hE⟩:=h.open_;rw [line_right];obtain ⟨hd,nm,oi,ui,ns,es⟩:=x;simp only at hv hN hE⊢;have AN:=Lib.hid (fun (w':World) (b:Nat) (h:w'.heap[b]?=some (.cells #[.int .i64 hd,.int .i64 oi,.int .i64 ui] 3 (0,0)))=>nums3 hd oi ui b 3 w' h);have NM:=Lib.hid (fun (w':World)=>name_of_l nm w' hv);have LN:=Lib.hid (fun (w':World) (hb:Below w.heap.size w w')=>isLine_any S an ae cn ce ns es w' (hN.below hb (Nat.le_refl _)) (hE.below hb (Nat.le_refl _)));clear h hN hE hv;generalize (numB hd && (numB oi && numB ui))=N at *;generalize Tp.nameB nm=M at *;generalize lineB ns es=L at *;generalize (⟨nm.toArray⟩:ByteArray)=sv at *;generalize ns.length=nl at *;generalize es.length=el at *;have B2:=fun o o'=>belowTwo w o o'
 have HB2:=Lib.hid B2;clear B2
 cases N with
 | false=>
   go_enter Tryz.func8,Tryz.ntmps8
   go_wp2_with (go_at_call 28;(with_reducible refine (AN.out _ _ (two_new _ _ _)).mono ?_);rintro e1 w1 ⟨rfl,rfl⟩)
   go_ret
   exact ⟨rfl,HB2.out _ _⟩
 | true=>
   cases M with
   | false=>
     go_enter Tryz.func8,Tryz.ntmps8
     go_wp2_with (first
      | (go_at_call 28;(with_reducible refine (AN.out _ _ (two_new _ _ _)).mono ?_);rintro e1 w1 ⟨rfl,rfl⟩)
      | (go_at_call 29;(with_reducible refine (NM.out _).mono ?_);rintro e1 w1 ⟨rfl,rfl⟩))
     go_ret
     exact ⟨rfl,HB2.out _ _⟩
   | true=>
     go_enter Tryz.func8,Tryz.ntmps8
     go_wp2_with (first
      | (go_at_call 28;(with_reducible refine (AN.out _ _ (two_new _ _ _)).mono ?_);rintro e1 w1 ⟨rfl,rfl⟩)
      | (go_at_call 29;(with_reducible refine (NM.out _).mono ?_);rintro e1 w1 ⟨rfl,rfl⟩)
      | (go_at_call 30;(with_reducible refine (LN.out _ (HB2.out _ _)).mono ?_);rintro e1 w1 ⟨rfl,hb1⟩))
     go_ret
     exact ⟨rfl,(HB2.out _ _).trans (hb1.mono (HB2.out _ _).size)⟩
theorem eqStop_any (S S':Nat->Prop) (a1 a2:Option Addr) (c1 c2:Nat) (l m:List St) (w:World) (h1:StsAt S w (.slice a1 l.length c1) l) (h2:StsAt S' w (.slice a2 m.length c2) m):Calls Tryz.prog 33 #[.slice a1 l.length c1,.slice a2 m.length c2] w (Ret (.bool (stsB l m)) w):=by
 have H1:=Lib.hid h1;have H2:=Lib.hid h2;obtain ⟨-,-,l1⟩:=h1.len;obtain ⟨-,-,l2⟩:=h2.len;clear h1 h2
 by_cases hl:l.length=m.length
 ·obtain ⟨n,HN⟩:∃n,Hid (l.length=n):=⟨_,rfl⟩;have HN2:Hid (m.length=n):=hl.symm.trans HN.out;clear hl;rw [HN.out] at H1 l1⊢;rw [HN2.out] at H2 l2⊢;obtain ⟨R,HR⟩:∃R,Hid (stsB l m=R):=⟨_,rfl⟩;rw [HR.out]
  go_enter Tryz.func33,Tryz.ntmps33
  go_wp2
  go_loopw [13] (fun i wr=>∃k:Nat,k<=n/\i= .int .i64 k/\Below w.heap.size w wr/\Hid (R=stsB (l.drop k) (m.drop k))) (fun i _=>n - (intOf i).toNat)
  case atStart=>exact ⟨0,Nat.zero_le _,rfl,Below.refl _ _,HR.out.symm⟩
  case round=>
   obtain ⟨k,hk,rfl,hb,HK⟩:=hrel
   by_cases hlt:k < n
   ·obtain ⟨b1,o1,rfl,-,hb1,-,x0,x1,x2⟩:=H1.out.at_ (k:=k) (by rw [HN.out];exact hlt);obtain ⟨b2,o2,rfl,-,hb2,-,y0,y1,y2⟩:=H2.out.at_ (k:=k) (by rw [HN2.out];exact hlt);rw [<-hb.cell (p:=⟨b1,_,none⟩) hb1] at x0 x1 x2;rw [<-hb.cell (p:=⟨b2,_,none⟩) hb2] at y0 y1 y2;have HS:=Lib.hid (stsB_step (l:=l) (m:=m) (k:=k) (by rw [HN.out];exact hlt) (by rw [HN2.out];exact hlt));have i1:(k:Int) < (n:Int):=(by omega);clear H1 H2;generalize l.getD k st0=X at *;generalize m.getD k st0=Y at *
    by_cases hxy:stB X Y=true
    ·have hxy':=stB_iff.1 hxy;subst hxy';have HX:=Lib.hid hxy;clear hxy;obtain ⟨xi,xq,xr⟩:=X;simp only at x0 x1 x2 y0 y1 y2
     go_wp2_with fail
     go_quiet (fail)
     go_wp2_with fail
     go_roundw
     case rel=>exact ⟨k+1,by omega,by go_num,below_drewN hb _,by show _=_;rw [HK.out,HS.out,HX.out];simp⟩
     case measure=>simp [intOf];omega
    ·rw [Bool.not_eq_true] at hxy;have HX:=Lib.hid hxy;unfold stB at hxy;obtain ⟨xi,xq,xr⟩:=X;obtain ⟨yi,yq,yr⟩:=Y;simp only at x0 x1 x2 y0 y1 y2 hxy
     by_cases g1:xi=yi
     ·subst g1
      by_cases g2:xq=yq
      ·subst g2
       cases xr <;> cases yr
       ·simp at hxy
       ·go_wp2_with fail
        go_quiet (fail)
        go_wp2_with fail
        go_ret
        exact ⟨Quo.ret_bool (by rw [HK.out,HS.out,HX.out];rfl),below_drewN hb _⟩
       ·go_wp2_with fail
        go_quiet (fail)
        go_wp2_with fail
        go_ret
        exact ⟨Quo.ret_bool (by rw [HK.out,HS.out,HX.out];rfl),below_drewN hb _⟩
       ·simp at hxy
      ·have g2':(xq==yq)=false:=(by simpa using g2);clear hxy
       go_wp2_with fail
       go_quiet (fail)
       go_wp2_with fail
       go_ret
       exact ⟨Quo.ret_bool (by rw [HK.out,HS.out,HX.out];rfl),below_drewN hb _⟩
     ·have g1':(xi==yi)=false:=(by simpa using g1);clear hxy
      go_wp2_with fail
      go_quiet (fail)
      go_wp2_with fail
      go_ret
      exact ⟨Quo.ret_bool (by rw [HK.out,HS.out,HX.out];rfl),below_drewN hb _⟩
   ·have HE:Hid (R=true):=by show _=_;rw [HK.out,List.drop_of_length_le (by rw [HN.out];omega),List.drop_of_length_le (by rw [HN2.out];omega)];rfl
    go_wp2_with fail
    go_ret
    exact ⟨Quo.ret_bool (by rw [HE.out]),hb⟩
 ·have hl2:((l.length:Int) !=(m.length:Int))=true:=by simp;omega
  rw [stsB_len hl]
  go_enter Tryz.func33,Tryz.ntmps33
  go_wp2
  go_ret
  exact ⟨rfl,Below.refl _ _⟩
end Go.Proofs.YtclghelocglnlaaGreatDoor.Od
namespace Go.Proofs.YtclghelocglnlaaGreatDoor.Od
open Go.RowKit Js Lex
theorem eqWay_any (S S':Nat->Prop) (a1 a2:Option Addr) (c1 c2:Nat) (l m:List St) (w:World) (h1:StsAt S w (.slice a1 l.length c1) l) (h2:StsAt S' w (.slice a2 m.length c2) m):Calls Tryz.prog 34 #[.slice a1 l.length c1,.slice a2 m.length c2] w (Ret (.bool (stsB l m)) w):=by
 have H1:=Lib.hid h1;have H2:=Lib.hid h2;obtain ⟨-,-,l1⟩:=h1.len;obtain ⟨-,-,l2⟩:=h2.len;clear h1 h2
 by_cases hl:l.length=m.length
 ·obtain ⟨n,HN⟩:∃n,Hid (l.length=n):=⟨_,rfl⟩;have HN2:Hid (m.length=n):=hl.symm.trans HN.out;clear hl;rw [HN.out] at H1 l1⊢;rw [HN2.out] at H2 l2⊢;obtain ⟨R,HR⟩:∃R,Hid (stsB l m=R):=⟨_,rfl⟩;rw [HR.out]
  go_enter Tryz.func34,Tryz.ntmps34
  go_wp2
  go_loopw [13] (fun i wr=>∃k:Nat,k<=n/\i= .int .i64 k/\Below w.heap.size w wr/\Hid (R=stsB (l.drop k) (m.drop k))) (fun i _=>n - (intOf i).toNat)
  case atStart=>exact ⟨0,Nat.zero_le _,rfl,Below.refl _ _,HR.out.symm⟩
  case round=>
   obtain ⟨k,hk,rfl,hb,HK⟩:=hrel
   by_cases hlt:k < n
   ·obtain ⟨b1,o1,rfl,-,hb1,-,x0,x1,x2⟩:=H1.out.at_ (k:=k) (by rw [HN.out];exact hlt);obtain ⟨b2,o2,rfl,-,hb2,-,y0,y1,y2⟩:=H2.out.at_ (k:=k) (by rw [HN2.out];exact hlt);rw [<-hb.cell (p:=⟨b1,_,none⟩) hb1] at x0 x1 x2;rw [<-hb.cell (p:=⟨b2,_,none⟩) hb2] at y0 y1 y2;have HS:=Lib.hid (stsB_step (l:=l) (m:=m) (k:=k) (by rw [HN.out];exact hlt) (by rw [HN2.out];exact hlt));have i1:(k:Int) < (n:Int):=(by omega);clear H1 H2;generalize l.getD k st0=X at *;generalize m.getD k st0=Y at *
    by_cases hxy:stB X Y=true
    ·have hxy':=stB_iff.1 hxy;subst hxy';have HX:=Lib.hid hxy;clear hxy;obtain ⟨xi,xq,xr⟩:=X;simp only at x0 x1 x2 y0 y1 y2
     go_wp2_with fail
     go_quiet (fail)
     go_wp2_with fail
     go_roundw
     case rel=>exact ⟨k+1,by omega,by go_num,below_drewN hb _,by show _=_;rw [HK.out,HS.out,HX.out];simp⟩
     case measure=>simp [intOf];omega
    ·rw [Bool.not_eq_true] at hxy;have HX:=Lib.hid hxy;unfold stB at hxy;obtain ⟨xi,xq,xr⟩:=X;obtain ⟨yi,yq,yr⟩:=Y;simp only at x0 x1 x2 y0 y1 y2 hxy
     by_cases g1:xi=yi
     ·subst g1
      by_cases g2:xq=yq
      ·subst g2
       cases xr <;> cases yr
       ·simp at hxy
       ·go_wp2_with fail
        go_quiet (fail)
        go_wp2_with fail
        go_ret
        exact ⟨Quo.ret_bool (by rw [HK.out,HS.out,HX.out];rfl),below_drewN hb _⟩
       ·go_wp2_with fail
        go_quiet (fail)
        go_wp2_with fail
        go_ret
        exact ⟨Quo.ret_bool (by rw [HK.out,HS.out,HX.out];rfl),below_drewN hb _⟩
       ·simp at hxy
      ·have g2':(xq==yq)=false:=(by simpa using g2);clear hxy
       go_wp2_with fail
       go_quiet (fail)
       go_wp2_with fail
       go_ret
       exact ⟨Quo.ret_bool (by rw [HK.out,HS.out,HX.out];rfl),below_drewN hb _⟩
     ·have g1':(xi==yi)=false:=(by simpa using g1);clear hxy
      go_wp2_with fail
      go_quiet (fail)
      go_wp2_with fail
      go_ret
      exact ⟨Quo.ret_bool (by rw [HK.out,HS.out,HX.out];rfl),below_drewN hb _⟩
   ·have HE:Hid (R=true):=by show _=_;rw [HK.out,List.drop_of_length_le (by rw [HN.out];omega),List.drop_of_length_le (by rw [HN2.out];omega)];rfl
    go_wp2_with fail
    go_ret
    exact ⟨Quo.ret_bool (by rw [HE.out]),hb⟩
 ·have hl2:((l.length:Int) !=(m.length:Int))=true:=by simp;omega
  rw [stsB_len hl]
  go_enter Tryz.func34,Tryz.ntmps34
  go_wp2
  go_ret
  exact ⟨rfl,Below.refl _ _⟩
theorem same8_any (S S':Nat->Prop) (a b:Value) (x y:O) (w:World) (hx:OAt S w a x) (hy:OAt S' w b y):Calls Tryz.prog 10 #[a,b] w (Ret (.bool (sameO x y)) w):=by
 obtain ⟨an,cn,ae,ce,rfl,-,-,-,-,hN,hE⟩:=hx.open_;obtain ⟨an',cn',ae',ce',rfl,-,-,-,-,hN',hE'⟩:=hy.open_;obtain ⟨hd,nm,oi,ui,ns,es⟩:=x;obtain ⟨hd',nm',oi',ui',ns',es'⟩:=y;simp only at hN hE hN' hE'⊢;have HB2:=Lib.hid (fun (o o':Obj)=>belowTwo w o o');have E1:=Lib.hid (fun (w':World) (hb:Below w.heap.size w w')=>eqStop_any S S' an an' cn cn' ns ns' w' (hN.below hb (Nat.le_refl _)) (hN'.below hb (Nat.le_refl _)));have E2:=Lib.hid (fun (w':World) (hb:Below w.heap.size w w')=>eqWay_any S S' ae ae' ce ce' es es' w' (hE.below hb (Nat.le_refl _)) (hE'.below hb (Nat.le_refl _)));clear hx hy hN hE hN' hE';unfold sameO;simp only;generalize stsB ns ns'=R1 at *;generalize stsB es es'=R2 at *;generalize ns.length=n1 at *;generalize ns'.length=n2 at *;generalize es.length=m1 at *;generalize es'.length=m2 at *
 by_cases h1:hd=hd'
 ·subst h1
  by_cases h2:nm=nm'
  ·subst h2
   by_cases h3:oi=oi'
   ·subst h3
    by_cases h4:ui=ui'
    ·subst h4;rw [show (hd==hd)=true by simp,show (nm==nm)=true by simp,show (oi==oi)=true by simp,show (ui==ui)=true by simp]
     cases R1 with
     | false=>
       go_enter Tryz.func10,Tryz.ntmps10
       go_wp2_with (go_at_call 33;(with_reducible refine (E1.out _ (HB2.out _ _)).mono ?_);rintro e1 w1 ⟨rfl,hb1⟩)
       go_ret
       exact ⟨rfl,(HB2.out _ _).trans (hb1.mono (HB2.out _ _).size)⟩
     | true=>
       go_enter Tryz.func10,Tryz.ntmps10
       go_wp2_with (first
        | (go_at_call 33;(with_reducible refine (E1.out _ (HB2.out _ _)).mono ?_);rintro e1 w1 ⟨rfl,hb1⟩;have HB1:=Lib.hid ((HB2.out _ _).trans (hb1.mono (HB2.out _ _).size));have x0:=(hb1.block _ (by simp <;> omega)).trans (two_old w _ _);have x1:=(hb1.block _ (by simp)).trans (two_new w _ _);obtain ⟨y0,y1,y2,y3,y4,y5⟩:=six_of x0;obtain ⟨z0,z1,z2,z3,z4,z5⟩:=six_of x1)
        | (go_at_call 34;(with_reducible refine (E2.out _ HB1.out).mono ?_);rintro e2 w2 ⟨rfl,hb2⟩))
       go_ret
       exact ⟨by cases R2 <;> rfl,HB1.out.trans (hb2.mono HB1.out.size)⟩
    ·have h4':(ui==ui')=false:=(by simpa using h4);rw [show (hd==hd)=true by simp,show (nm==nm)=true by simp,show (oi==oi)=true by simp,h4']
     go_enter Tryz.func10,Tryz.ntmps10
     go_wp2_with fail
     go_ret
     exact ⟨rfl,HB2.out _ _⟩
   ·have h3':(oi==oi')=false:=(by simpa using h3);rw [show (hd==hd)=true by simp,show (nm==nm)=true by simp,h3']
    go_enter Tryz.func10,Tryz.ntmps10
    go_wp2_with fail
    go_ret
    exact ⟨rfl,HB2.out _ _⟩
  ·have h2':(nm==nm')=false:=by simpa using h2
   have h2s:=Tp.str_ne h2;rw [show (hd==hd)=true by simp,h2']
   go_enter Tryz.func10,Tryz.ntmps10
   go_wp2_with fail
   go_ret
   exact ⟨rfl,HB2.out _ _⟩
 ·have h1':(hd==hd')=false:=by simpa using h1
  rw [h1']
  go_enter Tryz.func10,Tryz.ntmps10
  go_wp2_with fail
  go_ret
  exact ⟨rfl,HB2.out _ _⟩
theorem base8_any (S:Nat->Prop) (a:Value) (x:O) (w:World) (hx:OAt S w a x):Calls Tryz.prog 12 #[a] w (Ret (.int .i64 (baseO x)) w):=by
 obtain ⟨an,cn,ae,ce,rfl,-,-,-,-,hN,-⟩:=hx.open_;obtain ⟨hd,nm,oi,ui,ns,es⟩:=x;unfold baseO;simp only at hN⊢;obtain ⟨-,-,hlen⟩:=hN.len;have HN:=Lib.hid hN;obtain ⟨n,HL⟩:∃n,Hid (ns.length=n):=⟨_,rfl⟩;obtain ⟨R,HR⟩:∃R,Hid ((ns.filter (·.rel)).length=R):=⟨_,rfl⟩;have HRn:R<=n:=by rw [<-HR.out,<-HL.out];exact List.length_filter_le _ _
 rw [HR.out];rw [HL.out] at HN hlen⊢;clear hx hN
 go_enter Tryz.func12,Tryz.ntmps12
 go_wp2_with fail
 have HB0:=Lib.hid (belowOne w (.cells #[.int .i64 hd,.string ⟨nm.toArray⟩,.int .i64 oi,.int .i64 ui,.slice an n cn,.slice ae es.length ce] 25))
 go_loopw [9,3] (fun i c wr=>∃k m:Nat,k<=n/\i= .int .i64 k/\c= .int .i64 m/\Below w.heap.size w wr/\Hid (R=m+((ns.drop k).filter (·.rel)).length)) (fun i _ _=>n - (intOf i).toNat)
 case atStart=>exact ⟨0,0,Nat.zero_le _,rfl,rfl,HB0.out,by show _=_;rw [List.drop_zero,HR.out];omega⟩
 case round=>
  clear HB0 HR;obtain ⟨k,m,hk,rfl,rfl,hB,HK⟩:=hrel
  by_cases hlt:k < n
  ·obtain ⟨b,off,rfl,-,hb,-,x0,x1,x2⟩:=HN.out.at_ (k:=k) (by rw [HL.out];exact hlt);rw [<-hB.cell (p:=⟨b,_,none⟩) hb] at x0 x1 x2;have HS:=Lib.hid (base_step (l:=ns) (k:=k) (by rw [HL.out];exact hlt));have i1:(k:Int) < (n:Int):=by omega
   have hm:m<=n:=by have:=HK.out;omega
   have hbr:b < wr.heap.size:=Nat.lt_of_lt_of_le hb hB.size;generalize ns.getD k st0=X at *;obtain ⟨xi,xq,xr⟩:=X;simp only at x0 x1 x2 HS;clear HN
   cases xr with
   | false=>
     go_wp2_with fail
     go_roundw
     case rel=>exact ⟨k+1,m,by omega,by go_num,rfl,hB.trans ((belowOne _ _).mono hB.size),by show _=_;rw [HK.out,HS.out];simp⟩
     case measure=>simp [intOf];omega
   | true=>
     go_wp2_with fail
     go_roundw
     case rel=>exact ⟨k+1,m+1,by omega,by go_num,by go_num,hB.trans ((belowOne _ _).mono hB.size),by show _=_;rw [HK.out,HS.out];simp;omega⟩
     case measure=>simp [intOf];omega
  ·have HE:Hid (R=m):=by show _=_;rw [HK.out,List.drop_of_length_le (by rw [HL.out];omega)];rfl
   go_wp2_with fail
   go_ret
   exact ⟨Quo.ret_int (by rw [HE.out]),hB⟩
end Go.Proofs.YtclghelocglnlaaGreatDoor.Od
namespace Go.Proofs.YtclghelocglnlaaGreatDoor.Od
open Go.RowKit Js Lex
theorem rsame8_any (S S':Nat->Prop) (a b:Value) (x y:O) (w:World) (hx:OAt S w a x) (hy:OAt S' w b y):Calls Tryz.prog 11 #[a,b] w (Ret (.bool (sameO x y)) w):=by
 obtain ⟨an,cn,ae,ce,rfl,-,-,-,-,hN,hE⟩:=hx.open_;obtain ⟨an',cn',ae',ce',rfl,-,-,-,-,hN',hE'⟩:=hy.open_;obtain ⟨hd,nm,oi,ui,ns,es⟩:=x;obtain ⟨hd',nm',oi',ui',ns',es'⟩:=y;simp only at hN hE hN' hE'⊢;have HB2:=Lib.hid (fun (o o':Obj)=>belowTwo w o o');have HN:=Lib.hid hN;have HN':=Lib.hid hN';have HE1:=Lib.hid hE;have HE2:=Lib.hid hE';obtain ⟨-,-,b1⟩:=hN.len;obtain ⟨-,-,b2⟩:=hN'.len;obtain ⟨-,-,b3⟩:=hE.len;obtain ⟨-,-,b4⟩:=hE'.len;clear hx hy hN hE hN' hE';unfold sameO;simp only
 by_cases h1:hd=hd'
 ·subst h1
  by_cases h2:nm=nm'
  ·subst h2
   by_cases h3:oi=oi'
   ·subst h3
    by_cases h4:ui=ui'
    ·subst h4;rw [show (hd==hd)=true by simp,show (nm==nm)=true by simp,show (oi==oi)=true by simp,show (ui==ui)=true by simp]
     by_cases h5:ns.length=ns'.length
     ·by_cases h6:es.length=es'.length
      ·obtain ⟨n,HNA⟩:∃n,Hid (ns.length=n):=⟨_,rfl⟩;have HNB:Hid (ns'.length=n):=h5.symm.trans HNA.out;obtain ⟨m,HMA⟩:∃n,Hid (es.length=n):=⟨_,rfl⟩;have HMB:Hid (es'.length=m):=h6.symm.trans HMA.out;clear h5 h6;rw [HNA.out] at HN b1⊢;rw [HNB.out] at HN' b2⊢;rw [HMA.out] at HE1 b3⊢;rw [HMB.out] at HE2 b4⊢;obtain ⟨R1,HR1⟩:∃R,Hid (stsB ns ns'=R):=⟨_,rfl⟩;obtain ⟨R2,HR2⟩:∃R,Hid (stsB es es'=R):=⟨_,rfl⟩;rw [HR1.out,HR2.out]
       go_enter Tryz.func11,Tryz.ntmps11
       go_wp2_with fail
       obtain ⟨w2,hw2⟩:∃w2,((w.alloc (.cells #[.int .i64 hd,.string ⟨nm.toArray⟩,.int .i64 oi,.int .i64 ui,.slice an n cn,.slice ae m ce] 25)).alloc (.cells #[.int .i64 hd,.string ⟨nm.toArray⟩,.int .i64 oi,.int .i64 ui,.slice an' n cn',.slice ae' m ce'] 25))=w2:=⟨_,rfl⟩;have HX0:Hid (w2.heap[w.heap.size]?=some (.cells #[.int .i64 hd,.string ⟨nm.toArray⟩,.int .i64 oi,.int .i64 ui,.slice an n cn,.slice ae m ce] 25 (0,0))):=(by show _=_;rw [<-hw2];exact two_old _ _ _);have HX1:Hid (w2.heap[w.heap.size+1]?=some (.cells #[.int .i64 hd,.string ⟨nm.toArray⟩,.int .i64 oi,.int .i64 ui,.slice an' n cn',.slice ae' m ce'] 25 (0,0))):=(by show _=_;rw [<-hw2];exact two_new _ _ _);have HBW:Hid (Below w.heap.size w w2):=(by show Below _ _ _;rw [<-hw2];exact belowTwo _ _ _);have hl0:=Own.block_lt HX0.out;have hl1:=Own.block_lt HX1.out;have hs2:=HBW.out.size;rw [hw2];clear hw2
       go_loopw [5] (fun i wr=>∃k:Nat,k<=n/\i= .int .i64 k/\Below w2.heap.size w2 wr/\Hid (R1=stsB (ns.drop k) (ns'.drop k))) (fun i _=>n - (intOf i).toNat)
       case atStart=>exact ⟨0,Nat.zero_le _,rfl,Below.refl _ _,HR1.out.symm⟩
       case round=>
        obtain ⟨k,hk,rfl,hb,HK⟩:=hrel;obtain ⟨y0,y1,y2,y3,y4,y5⟩:=six_of ((hb.block _ hl0).trans HX0.out);obtain ⟨z0,z1,z2,z3,z4,z5⟩:=six_of ((hb.block _ hl1).trans HX1.out)
        by_cases hlt:k < n
        ·obtain ⟨p1,o1,e1,-,hp1,-,x0,x1,x2⟩:=HN.out.at_ (k:=k) (by rw [HNA.out];exact hlt);obtain ⟨p2,o2,e2,-,hp2,-,v0,v1,v2⟩:=HN'.out.at_ (k:=k) (by rw [HNB.out];exact hlt);subst e1 e2;have hk1:wr.heap[p1]?=w.heap[p1]?:=(hb.block _ (by omega)).trans (HBW.out.block _ hp1);have hk2:wr.heap[p2]?=w.heap[p2]?:=(hb.block _ (by omega)).trans (HBW.out.block _ hp2);rw [<-World.cell?_of_block (w:=w) (w':=wr) (a:=⟨p1,_,none⟩) hk1] at x0 x1 x2;rw [<-World.cell?_of_block (w:=w) (w':=wr) (a:=⟨p2,_,none⟩) hk2] at v0 v1 v2;have HS:=Lib.hid (stsB_step (l:=ns) (m:=ns') (k:=k) (by rw [HNA.out];exact hlt) (by rw [HNB.out];exact hlt));have i1:(k:Int) < (n:Int):=(by omega);clear HN HN' hk1 hk2;generalize ns.getD k st0=X at *;generalize ns'.getD k st0=Y at *
         by_cases hxy:stB X Y=true
         ·have hxy':=stB_iff.1 hxy;subst hxy';have HX:=Lib.hid hxy;clear hxy;obtain ⟨xi,xq,xr⟩:=X;simp only at x0 x1 x2 v0 v1 v2
          go_wp2_with fail
          go_quiet (fail)
          go_wp2_with fail
          go_roundw
          case rel=>exact ⟨k+1,by omega,by go_num,below_drewN hb _,by show _=_;rw [HK.out,HS.out,HX.out];simp⟩
          case measure=>simp [intOf];omega
         ·rw [Bool.not_eq_true] at hxy;have HX:=Lib.hid hxy;have HRF:Hid (R1=false):=(by show _=_;rw [HK.out,HS.out,HX.out];rfl);unfold stB at hxy;obtain ⟨xi,xq,xr⟩:=X;obtain ⟨yi,yq,yr⟩:=Y;simp only at x0 x1 x2 v0 v1 v2 hxy
          by_cases g1:xi=yi
          ·subst g1
           by_cases g2:xq=yq
           ·subst g2
            cases xr <;> cases yr
            ·simp at hxy
            ·go_wp2_with fail
             go_quiet (fail)
             go_wp2_with fail
             go_ret
             exact ⟨Quo.ret_bool (by rw [HRF.out];rfl),HBW.out.trans ((below_drewN hb _).mono hs2)⟩
            ·go_wp2_with fail
             go_quiet (fail)
             go_wp2_with fail
             go_ret
             exact ⟨Quo.ret_bool (by rw [HRF.out];rfl),HBW.out.trans ((below_drewN hb _).mono hs2)⟩
            ·simp at hxy
           ·have g2':(xq==yq)=false:=(by simpa using g2);clear hxy
            go_wp2_with fail
            go_quiet (fail)
            go_wp2_with fail
            go_ret
            exact ⟨Quo.ret_bool (by rw [HRF.out];rfl),HBW.out.trans ((below_drewN hb _).mono hs2)⟩
          ·have g1':(xi==yi)=false:=(by simpa using g1);clear hxy
           go_wp2_with fail
           go_quiet (fail)
           go_wp2_with fail
           go_ret
           exact ⟨Quo.ret_bool (by rw [HRF.out];rfl),HBW.out.trans ((below_drewN hb _).mono hs2)⟩
        ·have HE:Hid (R1=true):=by show _=_;rw [HK.out,List.drop_of_length_le (by rw [HNA.out];omega),List.drop_of_length_le (by rw [HNB.out];omega)];rfl
         go_wp2_with fail
         have HB1:=Lib.hid hb;have HET:=HE;clear HN HN' y0 y1 y2 y3 y4 y5 z0 z1 z2 z3 z4 z5 hb HK hlt HE hk
         go_loopw [6] (fun i wr=>∃k:Nat,k<=m/\i= .int .i64 k/\Below w2.heap.size w2 wr/\Hid (R2=stsB (es.drop k) (es'.drop k))) (fun i _=>m - (intOf i).toNat)
         case atStart=>exact ⟨0,Nat.zero_le _,rfl,HB1.out,HR2.out.symm⟩
         case round=>
          obtain ⟨k,hk,rfl,hb,HK⟩:=hrel;obtain ⟨y0,y1,y2,y3,y4,y5⟩:=six_of ((hb.block _ hl0).trans HX0.out);obtain ⟨z0,z1,z2,z3,z4,z5⟩:=six_of ((hb.block _ hl1).trans HX1.out)
          by_cases hlt:k < m
          ·obtain ⟨p1,o1,e1,-,hp1,-,x0,x1,x2⟩:=HE1.out.at_ (k:=k) (by rw [HMA.out];exact hlt);obtain ⟨p2,o2,e2,-,hp2,-,v0,v1,v2⟩:=HE2.out.at_ (k:=k) (by rw [HMB.out];exact hlt);subst e1 e2;have hk1:wr.heap[p1]?=w.heap[p1]?:=(hb.block _ (by omega)).trans (HBW.out.block _ hp1);have hk2:wr.heap[p2]?=w.heap[p2]?:=(hb.block _ (by omega)).trans (HBW.out.block _ hp2);rw [<-World.cell?_of_block (w:=w) (w':=wr) (a:=⟨p1,_,none⟩) hk1] at x0 x1 x2;rw [<-World.cell?_of_block (w:=w) (w':=wr) (a:=⟨p2,_,none⟩) hk2] at v0 v1 v2;have HS:=Lib.hid (stsB_step (l:=es) (m:=es') (k:=k) (by rw [HMA.out];exact hlt) (by rw [HMB.out];exact hlt));have i1:(k:Int) < (m:Int):=(by omega);clear HE1 HE2 hk1 hk2;generalize es.getD k st0=X at *;generalize es'.getD k st0=Y at *
           by_cases hxy:stB X Y=true
           ·have hxy':=stB_iff.1 hxy;subst hxy';have HX:=Lib.hid hxy;clear hxy;obtain ⟨xi,xq,xr⟩:=X;simp only at x0 x1 x2 v0 v1 v2
            go_wp2_with fail
            go_quiet (fail)
            go_wp2_with fail
            go_roundw
            case rel=>exact ⟨k+1,by omega,by go_num,below_drewN hb _,by show _=_;rw [HK.out,HS.out,HX.out];simp⟩
            case measure=>simp [intOf];omega
           ·rw [Bool.not_eq_true] at hxy;have HX:=Lib.hid hxy;have HRF:Hid (R2=false):=(by show _=_;rw [HK.out,HS.out,HX.out];rfl);unfold stB at hxy;obtain ⟨xi,xq,xr⟩:=X;obtain ⟨yi,yq,yr⟩:=Y;simp only at x0 x1 x2 v0 v1 v2 hxy
            by_cases g1:xi=yi
            ·subst g1
             by_cases g2:xq=yq
             ·subst g2
              cases xr <;> cases yr
              ·simp at hxy
              ·go_wp2_with fail
               go_quiet (fail)
               go_wp2_with fail
               go_ret
               exact ⟨Quo.ret_bool (by rw [HET.out,HRF.out];rfl),HBW.out.trans ((below_drewN hb _).mono hs2)⟩
              ·go_wp2_with fail
               go_quiet (fail)
               go_wp2_with fail
               go_ret
               exact ⟨Quo.ret_bool (by rw [HET.out,HRF.out];rfl),HBW.out.trans ((below_drewN hb _).mono hs2)⟩
              ·simp at hxy
             ·have g2':(xq==yq)=false:=(by simpa using g2);clear hxy
              go_wp2_with fail
              go_quiet (fail)
              go_wp2_with fail
              go_ret
              exact ⟨Quo.ret_bool (by rw [HET.out,HRF.out];rfl),HBW.out.trans ((below_drewN hb _).mono hs2)⟩
            ·have g1':(xi==yi)=false:=(by simpa using g1);clear hxy
             go_wp2_with fail
             go_quiet (fail)
             go_wp2_with fail
             go_ret
             exact ⟨Quo.ret_bool (by rw [HET.out,HRF.out];rfl),HBW.out.trans ((below_drewN hb _).mono hs2)⟩
          ·have HE:Hid (R2=true):=(by show _=_;rw [HK.out,List.drop_of_length_le (by rw [HMA.out];omega),List.drop_of_length_le (by rw [HMB.out];omega)];rfl);have HE9:=HE
           go_wp2_with fail
           go_ret
           exact ⟨Quo.ret_bool (by rw [HET.out,HE9.out];rfl),HBW.out.trans (hb.mono hs2)⟩
      ·have hf:stsB es es'=false:=stsB_len h6;rw [hf,show (true && (true && (true && (true && (stsB ns ns' && false)))))=false by simp];have h6':((es.length:Int) !=(es'.length:Int))=true:=(by simp;omega);have h5':((ns.length:Int) !=(ns'.length:Int))=false:=(by simp;omega);clear HN HN' HE1 HE2 hf h5 h6;generalize ns.length=n1 at *;generalize ns'.length=n2 at *;generalize es.length=m1 at *;generalize es'.length=m2 at *
       go_enter Tryz.func11,Tryz.ntmps11
       go_wp2_with fail
       go_ret
       exact ⟨rfl,HB2.out _ _⟩
     ·have hf:stsB ns ns'=false:=stsB_len h5;rw [hf,show (true && (true && (true && (true && (false && stsB es es')))))=false by simp];have h5':((ns.length:Int) !=(ns'.length:Int))=true:=(by simp;omega);clear HN HN' HE1 HE2 hf h5;generalize ns.length=n1 at *;generalize ns'.length=n2 at *;generalize es.length=m1 at *;generalize es'.length=m2 at *
      go_enter Tryz.func11,Tryz.ntmps11
      go_wp2_with fail
      go_ret
      exact ⟨rfl,HB2.out _ _⟩
    ·have h4':(ui==ui')=false:=(by simpa using h4);have h4n:(ui !=ui')=true:=(by simpa using h4);rw [show (hd==hd)=true by simp,show (nm==nm)=true by simp,show (oi==oi)=true by simp,h4']
     go_enter Tryz.func11,Tryz.ntmps11
     go_wp2_with fail
     go_ret
     exact ⟨rfl,HB2.out _ _⟩
   ·have h3':(oi==oi')=false:=(by simpa using h3);have h3n:(oi !=oi')=true:=(by simpa using h3);rw [show (hd==hd)=true by simp,show (nm==nm)=true by simp,h3']
    go_enter Tryz.func11,Tryz.ntmps11
    go_wp2_with fail
    go_ret
    exact ⟨rfl,HB2.out _ _⟩
  ·have h2':(nm==nm')=false:=by simpa using h2
   have h2s:=Tp.str_ne h2;rw [show (hd==hd)=true by simp,h2']
   go_enter Tryz.func11,Tryz.ntmps11
   go_wp2_with fail
   go_ret
   exact ⟨rfl,HB2.out _ _⟩
 ·have h1':(hd==hd')=false:=by simpa using h1
  have h1n:(hd !=hd')=true:=by simpa using h1
  rw [h1']
  go_enter Tryz.func11,Tryz.ntmps11
  go_wp2_with fail
  go_ret
  exact ⟨rfl,HB2.out _ _⟩
end Go.Proofs.YtclghelocglnlaaGreatDoor.Od
namespace Go.Proofs.YtclghelocglnlaaGreatDoor.Od
open Go.RowKit Js Lex
theorem tell_with8 {α:Type} (z:α) (f:J->α×Bool) (j:J) (nm:List UInt8):withG (z,false) f (getS j nm)=tellG z f j nm:=by
 unfold withG getS tellG
 split <;> simp
theorem rnum8_any (n:Int) (w:World):Calls Tryz.prog 32 #[.int .i64 n] w (fun e w'=>e= .returned (.bool (numB n))/\w=w'):=by
 obtain ⟨B,hB⟩:∃B,numB n=B:=⟨_,rfl⟩;have HB:=Lib.hid hB;rw [hB];clear hB
 by_cases h0:n < 0
 ·have hb:B=false:=by rw [<-HB.out];unfold Od.numB;simp;omega
  subst hb;clear HB
  go_enter Tryz.func32,Tryz.ntmps32
  go_wp2_with fail
  go_ret
  exact ⟨by first | rfl | (simp;omega),rfl⟩
 ·by_cases h1:1000000000 < n
  ·have hb:B=false:=by rw [<-HB.out];unfold Od.numB;simp;omega
   subst hb;clear HB
   go_enter Tryz.func32,Tryz.ntmps32
   go_wp2_with fail
   go_ret
   exact ⟨by first | rfl | (simp;omega),rfl⟩
  ·have hb:B=true:=by rw [<-HB.out];unfold Od.numB;simp;omega
   subst hb;clear HB
   go_enter Tryz.func32,Tryz.ntmps32
   go_wp2_with fail
   go_ret
   exact ⟨by first | rfl | (simp;omega),rfl⟩
theorem rbase8_any (S:Nat->Prop) (a:Value) (x:O) (w:World) (hx:OAt S w a x):Calls Tryz.prog 13 #[a] w (Ret (.int .i64 (baseO x)) w):=by
 obtain ⟨an,cn,ae,ce,rfl,-,-,-,-,hN,-⟩:=hx.open_;obtain ⟨hd,nm,oi,ui,ns,es⟩:=x;unfold baseO;simp only at hN⊢;obtain ⟨-,-,hlen⟩:=hN.len;have HN:=Lib.hid hN;obtain ⟨n,HL⟩:∃n,Hid (ns.length=n):=⟨_,rfl⟩;obtain ⟨R,HR⟩:∃R,Hid ((ns.filter (·.rel)).length=R):=⟨_,rfl⟩;have HRn:R<=n:=by rw [<-HR.out,<-HL.out];exact List.length_filter_le _ _
 rw [HR.out];rw [HL.out] at HN hlen⊢;clear hx hN
 go_enter Tryz.func13,Tryz.ntmps13
 go_wp2_with fail
 have HB0:=Lib.hid (belowOne w (.cells #[.int .i64 hd,.string ⟨nm.toArray⟩,.int .i64 oi,.int .i64 ui,.slice an n cn,.slice ae es.length ce] 25));have HX0:=Lib.hid (heap_alloc_new w (.cells #[.int .i64 hd,.string ⟨nm.toArray⟩,.int .i64 oi,.int .i64 ui,.slice an n cn,.slice ae es.length ce] 25));generalize w.alloc (.cells #[.int .i64 hd,.string ⟨nm.toArray⟩,.int .i64 oi,.int .i64 ui,.slice an n cn,.slice ae es.length ce] 25)=w1 at *
 go_loopw [4,3] (fun i c wr=>∃k m:Nat,k<=n/\i= .int .i64 k/\c= .int .i64 m/\w1=wr/\Hid (R=m+((ns.drop k).filter (·.rel)).length)) (fun i _ _=>n - (intOf i).toNat)
 case atStart=>exact ⟨0,0,Nat.zero_le _,rfl,rfl,rfl,by show _=_;rw [List.drop_zero,HR.out];omega⟩
 case round=>
  clear HR;obtain ⟨k,m,hk,rfl,rfl,rfl,HK⟩:=hrel;obtain ⟨y0,y1,y2,y3,y4,y5⟩:=six_of HX0.out
  by_cases hlt:k < n
  ·obtain ⟨b,off,rfl,-,hb,-,x0,x1,x2⟩:=HN.out.at_ (k:=k) (by rw [HL.out];exact hlt);rw [<-HB0.out.cell (p:=⟨b,_,none⟩) hb] at x0 x1 x2;have HS:=Lib.hid (base_step (l:=ns) (k:=k) (by rw [HL.out];exact hlt));have i1:(k:Int) < (n:Int):=by omega
   have hm:m<=n:=by have:=HK.out;omega
   have i2:IntKind.i64.wrap ((k:Int)+1)=(k:Int)+1:=by rw [IntKind.wrap_i64];omega
   have i3:IntKind.i64.wrap ((m:Int)+1)=(m:Int)+1:=by rw [IntKind.wrap_i64];omega
   generalize ns.getD k st0=X at *;obtain ⟨xi,xq,xr⟩:=X;simp only at x0 x1 x2 HS;clear HN
   cases xr with
   | false=>
     go_wp2_with fail
     go_roundw
     case rel=>exact ⟨k+1,m,by omega,by go_num,rfl,trivial,by show _=_;rw [HK.out,HS.out];simp⟩
     case measure=>simp [intOf];omega
   | true=>
     go_wp2_with fail
     go_roundw
     case rel=>exact ⟨k+1,m+1,by omega,by go_num,by go_num,trivial,by show _=_;rw [HK.out,HS.out];simp;omega⟩
     case measure=>simp [intOf];omega
  ·have HE:Hid (R=m):=by show _=_;rw [HK.out,List.drop_of_length_le (by rw [HL.out];omega)];rfl
   have i1:¬(k:Int) < (n:Int):=by omega
   go_wp2_with fail
   go_ret
   exact ⟨Quo.ret_int (by rw [HE.out]),HB0.out⟩
theorem rread8_any (S:Nat->Prop) (d:Nat) (v:Value) (j:J) (nm:List UInt8) (w:World) (h:JAt S w d v j):Calls Tryz.prog 44 #[v,.string ⟨nm.toArray⟩] w (Ret (.tuple #[.int .i64 (partT nm j).1.id,.int .i64 (partT nm j).1.seq,.bool (partT nm j).1.rel,.bool (partT nm j).2]) w):=by
 have N0:=Lib.hid (fun (wr:World) (hb:Below w.heap.size w wr)=>(show Calls Tryz.prog 41 #[v,.string ⟨nm.toArray⟩] wr (Ret (.tuple #[.int .i64 (tellG 0 numS j nm).1,.bool (tellG 0 numS j nm).2]) wr) from by have:=rnum_any S d v j nm wr (h.below hb (Nat.le_refl _));rw [tell_with8] at this;exact this));have N1:=Lib.hid (fun (wr:World) (hb:Below w.heap.size w wr)=>(show Calls Tryz.prog 41 #[v,.string ⟨#[115,101,113,117,101,110,99,101,73,100]⟩] wr (Ret (.tuple #[.int .i64 (tellG 0 numS j seqL).1,.bool (tellG 0 numS j seqL).2]) wr) from by have:=rnum_any S d v j seqL wr (h.below hb (Nat.le_refl _));rw [tell_with8] at this;exact this));have N2:=Lib.hid (fun (wr:World) (hb:Below w.heap.size w wr)=>(show Calls Tryz.prog 80 #[v,.string ⟨#[114,101,108,101,97,115,101,100]⟩] wr (Ret (.tuple #[.bool (tellG false flagS j relL).1,.bool (tellG false flagS j relL).2]) wr) from by have:=rflag_any S d v j relL wr (h.below hb (Nat.le_refl _));rw [tell_with8] at this;exact this));obtain ⟨k,m,e,t,an,nn,cn,ai,ni,ci,rfl⟩:=jAt_form h;unfold partT;generalize tellG 0 numS j nm=A at *;generalize tellG 0 numS j seqL=B at *;generalize tellG false flagS j relL=C at *;obtain ⟨a1,a2⟩:=A;obtain ⟨b1,b2⟩:=B;obtain ⟨c1,c2⟩:=C;simp only at N0 N1 N2⊢;clear h;have B0:=Lib.hid (belowOne w (.cells #[.int .i64 k,.int .i64 m,.int .i64 e,.string t,.slice an nn cn,.slice ai ni ci] 49));have X0:=Lib.hid (heap_alloc_new w (.cells #[.int .i64 k,.int .i64 m,.int .i64 e,.string t,.slice an nn cn,.slice ai ni ci] 49))
 go_enter Tryz.func44,Tryz.ntmps44
 cases a2 <;> cases b2 <;> cases c2
 all_goals
  go_wp2_with (first
   | (go_at_call 41;(with_reducible refine (N0.out _ B0.out).mono ?_);rintro e1 w1 ⟨rfl,hb1⟩;have B1:=Lib.hid (B0.out.trans (hb1.mono B0.out.size));have X1:=Lib.hid ((hb1.block _ (Own.block_lt X0.out)).trans X0.out);obtain ⟨y0,y1,y2,y3,y4,y5⟩:=six_of X1.out)
   | (go_at_call 41;(with_reducible refine (N1.out _ B1.out).mono ?_);rintro e2 w2 ⟨rfl,hb2⟩;have B2:=Lib.hid (B1.out.trans (hb2.mono B1.out.size));have X2:=Lib.hid ((hb2.block _ (Own.block_lt X1.out)).trans X1.out);clear y0 y1 y2 y3 y4 y5;obtain ⟨y0,y1,y2,y3,y4,y5⟩:=six_of X2.out)
   | (go_at_call 80;(with_reducible refine (N2.out _ B2.out).mono ?_);rintro e3 w3 ⟨rfl,hb3⟩;have B3:=Lib.hid (B2.out.trans (hb3.mono B2.out.size))))
  first
   | exact bodyPost_ret (v:= .tuple #[.int .i64 a1,.int .i64 b1,.bool c1,.bool true]) (by simp [results,Tryz.results44,go_sem]) rfl ⟨rfl,B3.out⟩
   | exact bodyPost_ret (v:= .tuple #[.int .i64 a1,.int .i64 b1,.bool c1,.bool false]) (by simp [results,Tryz.results44,go_sem]) rfl ⟨rfl,B3.out⟩
end Go.Proofs.YtclghelocglnlaaGreatDoor.Od
