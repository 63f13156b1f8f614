import Derived.Test.YtclghelocglnlaaGreatDoorChecked
import Derived.WalkKit
import Derived.ProofKit
import Derived.Lib.Hide
import Derived.Below
import Derived.Test.YtclghelocglnlaaGreatDoorShelf
import Derived.Lib.QuietBelow
import Derived.Lib.AppendIntMem
import Derived.WalkSmall
import Derived.Deep.QuietTactic
import Derived.BigQuiet
set_option maxHeartbeats 0
set_option maxRecDepth 100000
set_option linter.all false
namespace Go.Proofs.YtclghelocglnlaaGreatDoor.Dec
open Go.RowKit
def cmpI (a b:Int):Int:=if a < b then -1 else if b < a then 1 else 0
theorem cmpI_le {a b:Int} (h:a<=b):cmpI a b<=0:=by unfold cmpI;split <;> (try split) <;> omega
theorem bcell {W w1:World} (hb:Below W.heap.size W w1):(∀b o,b < W.heap.size->w1.cell? ⟨b,o,none⟩=W.cell? ⟨b,o,none⟩)/\(∀b o,b < W.heap.size->w1.frozen? ⟨b,o,none⟩=W.frozen? ⟨b,o,none⟩):=
 ⟨fun b o h=>hb.cell (p:=⟨b,o,none⟩) h,fun b o h=>hb.frozen (p:=⟨b,o,none⟩) h⟩
theorem below_call {w w1:World} {o:Obj} (hb:Below (w.alloc o).heap.size (w.alloc o) w1):Below w.heap.size w w1:=
 ((Below.refl _ _).alloc (Nat.le_refl _) o).trans (hb.mono (by simp))
theorem ret_int {k:IntKind} {a b:Int} (h:a=b):Ending.returned (.int k a)= .returned (.int k b):=by rw [h]
theorem ret_bool {a b:Bool} (h:a=b):Ending.returned (.bool a)= .returned (.bool b):=by rw [h]
theorem compareI_any (a b:Int) (w:World):
 Calls Tryz.prog 122 #[.int .i64 a,.int .i64 b] w fun e w'=>e= .returned (.int .i64 (cmpI a b))/\w=w':=by
 go_enter Tryz.func122,Tryz.ntmps122
 go_wp2
 all_goals go_ret
 all_goals refine ⟨ret_int ?_,rfl⟩
 all_goals unfold cmpI
 all_goals repeat (first | rw [if_pos (by omega)] | rw [if_neg (by omega)])
def withinB (n b:Int):Bool:=decide (-b<=n) && decide (n<=b)
theorem within_any (n b:Int) (w:World) (h0:0<=b) (h1:b<=1000000000000000000):
 Calls Tryz.prog 123 #[.int .i64 n,.int .i64 b] w fun e w'=>e= .returned (.bool (withinB n b))/\w=w':=by
 go_enter Tryz.func123,Tryz.ntmps123
 go_wp2
 all_goals go_ret
 all_goals refine ⟨ret_bool ?_,rfl⟩
 all_goals unfold withinB
 all_goals simp
 all_goals omega
end Go.Proofs.YtclghelocglnlaaGreatDoor.Dec
namespace Go.Proofs.YtclghelocglnlaaGreatDoor.Dec
def strip (m:Int):Int×Nat:=
 if h:m≠0/\m % 10=0 then ((strip (m / 10)).1,(strip (m / 10)).2+1) else (m,0)
termination_by m.natAbs
decreasing_by all_goals omega
def p15:Int:=1000000000000000
def mk (m e:Int):Int×Int×Bool:=
 if m=0 then (0,0,true)
 else if -p15<=(strip m).1/\(strip m).1<=p15/\ -9<=e+(strip m).2/\e+(strip m).2<=9 then ((strip m).1,e+(strip m).2,true)
 else (0,0,false)
def rightB (m e:Int):Bool:=decide ((m=0/\e=0)∨(m % 10≠0/\ -p15<=m/\m<=p15/\ -9<=e/\e<=9))
theorem strip_stop {m:Int} (h:m=0∨m % 10≠0):strip m=(m,0):=by
 rw [strip,dif_neg (by omega)]
theorem strip_step {m:Int} (h0:m≠0) (h:m % 10=0):strip m=((strip (m / 10)).1,(strip (m / 10)).2+1):=by
 rw [strip,dif_pos ⟨h0,h⟩]
theorem strip_mul {m:Int} (h0:m≠0):strip (m * 10)=((strip m).1,(strip m).2+1):=by
 rw [strip_step (by omega) (by omega)];rw [show m * 10 / 10=m by omega]
theorem strip_ne (m:Int) (h:m≠0):(strip m).1 % 10≠0/\(strip m).1≠0:=by
 induction hn:m.natAbs using Nat.strongRecOn generalizing m with
 | _ n ih=>
   by_cases hd:m % 10=0
   ·rw [strip_step h hd];exact ih (m / 10).natAbs (by omega) (m / 10) (by omega) rfl
   ·rw [strip_stop (.inr hd)];exact ⟨hd,h⟩
theorem strip_val (m:Int):m=(strip m).1 * 10 ^ (strip m).2:=by
 induction hn:m.natAbs using Nat.strongRecOn generalizing m with
 | _ n ih=>
   by_cases h:m≠0/\m % 10=0
   ·rw [strip_step h.1 h.2];have:=ih (m / 10).natAbs (by omega) (m / 10) rfl;show m=(strip (m / 10)).1 * 10 ^ ((strip (m / 10)).2+1);rw [Int.pow_succ,<-Int.mul_assoc,<-this]
    omega
   ·rw [strip_stop (by omega)];simp
theorem mk_zero (e:Int):mk 0 e=(0,0,true):=by simp [mk]
theorem mk_mul (m e:Int):mk (m * 10) e=mk m (e+1):=by
 by_cases h:m=0
 ·subst h;simp [mk]
 ·unfold mk;rw [if_neg (by omega),if_neg h,strip_mul h];have:e+(((strip m).2+1:Nat):Int)=e+1+((strip m).2:Int):=by omega
  simp only [this]
theorem mk_pow (m e:Int) (k:Nat):mk (m * 10 ^ k) e=mk m (e+k):=by
 induction k generalizing e with
 | zero=>simp
 | succ k ih=>
   rw [Int.pow_succ,<-Int.mul_assoc,mk_mul,ih]
   congr 1;omega
theorem mk_right (m e:Int) (h:rightB m e=true):mk m e=(m,e,true):=by
 unfold rightB at h;simp only [decide_eq_true_eq] at h;unfold mk
 by_cases hm:m=0
 ·subst hm;simp at h;simp [h]
 ·rw [if_neg hm,strip_stop (by omega)];simp
  omega
theorem mk_is_right (m e:Int) (h:(mk m e).2.2=true):rightB (mk m e).1 (mk m e).2.1=true:=by
 unfold mk at h⊢;unfold rightB;simp only [decide_eq_true_eq]
 split
 ·simp
 ·rename_i h0
  split
  ·rename_i h1;have:=strip_ne m h0
   right
   exact ⟨this.1,h1⟩
  ·rename_i h1;rw [if_neg h0,if_neg h1] at h
   cases h
end Go.Proofs.YtclghelocglnlaaGreatDoor.Dec
namespace Go.Proofs.YtclghelocglnlaaGreatDoor.Dec
theorem tmod10 (q:Int):(q.tmod 10=0)↔q % 10=0:=by
 constructor
 ·intro h;have:=Int.dvd_of_tmod_eq_zero h;omega
 ·intro h;exact Int.tmod_eq_zero_of_dvd (by omega)
theorem tdiv10 {q:Int} (h:q % 10=0):q.tdiv 10=q / 10:=Int.tdiv_eq_ediv_of_dvd (by omega)
theorem tmod10_t {q:Int} (h:q % 10=0):(q.tmod 10==0)=true:=by simp [(tmod10 q).2 h]
theorem tmod10_f {q:Int} (h:q % 10≠0):(q.tmod 10==0)=false:=by
 rw [beq_eq_false_iff_ne];intro h2;exact h ((tmod10 q).1 h2)
end Go.Proofs.YtclghelocglnlaaGreatDoor.Dec
namespace Go.Proofs.YtclghelocglnlaaGreatDoor.Dec
open Go.RowKit
def dv (m e:Int):Value:= .agg #[.int .i64 m,.int .i64 e]
def Ret (v:Value) (w:World) (e:Ending) (w':World):Prop:=e= .returned v/\Below w.heap.size w w'
def mkV (r:Int×Int×Bool):Value:= .tuple #[.agg #[.int .i64 r.1,.int .i64 r.2.1],.bool r.2.2]
def StripTo (m q:Int) (k:Nat):Prop:=strip m=((strip q).1,(strip q).2+k)
theorem stripTo_refl (m:Int):StripTo m m 0:=rfl
theorem stripTo_step {m q:Int} {k:Nat} (h:StripTo m q k) (h0:q≠0) (h1:q % 10=0):StripTo m (q / 10) (k+1):=by
 unfold StripTo at h⊢;rw [h,strip_step h0 h1];simp only [Prod.mk.injEq,true_and]
 omega
theorem withinB_t {n b:Int} (h1: -b<=n) (h2:n<=b):withinB n b=true:=by unfold withinB;simp [h1,h2]
theorem withinB_iff {n b:Int}:withinB n b=true↔ -b<=n/\n<=b:=by unfold withinB;simp
theorem mk_at {m q e:Int} {k:Nat} (hm:m≠0) (hs:StripTo m q k) (hq:q % 10≠0):
 mk m e=if withinB q 1000000000000000=true then (if withinB (e+k) 9=true then (q,e+k,true) else (0,0,false)) else (0,0,false):=by
 unfold StripTo at hs;rw [strip_stop (.inr hq)] at hs;unfold mk;rw [if_neg hm,hs];simp only [withinB_iff,p15,Nat.zero_add]
 by_cases h1: -1000000000000000<=q/\q<=1000000000000000
 ·rw [if_pos h1]
  by_cases h2: -9<=e+(k:Int)/\e+(k:Int)<=9
  ·rw [if_pos h2,if_pos (by omega)]
  ·rw [if_neg h2,if_neg (by omega)]
 ·rw [if_neg h1,if_neg (by omega)]
theorem mk_no {m q e:Int} {k:Nat} (hm:m≠0) (hs:StripTo m q k) (hq:q % 10≠0) (h:¬(q<=1000000000000000/\ -1000000000000000<=q/\e+k<=9/\ -9<=e+k)):mk m e=(0,0,false):=by
 rw [mk_at hm hs hq];simp only [withinB_iff]
 by_cases h1: -1000000000000000<=q/\q<=1000000000000000
 ·rw [if_pos h1,if_neg (by omega)]
 ·rw [if_neg h1]
theorem mk_far {m q e:Int} {k:Nat} (hm:m≠0) (hs:StripTo m q k) (he:9 < e+k):mk m e=(0,0,false):=by
 unfold StripTo at hs;unfold mk;rw [if_neg hm,hs,if_neg];simp only
 omega
theorem mk_great {m e:Int} (hm:m≠0) (he:9 < e):mk m e=(0,0,false):=mk_far hm (stripTo_refl m) (by simpa using he)
theorem make_zero (e:Int) (w:World):
 Calls Tryz.prog 88 #[.int .i64 0,.int .i64 e] w (Ret (mkV (0,0,true)) w):=by
 go_enter Tryz.func88,Tryz.ntmps88
 go_wp2
 exact bodyPost_ret (v:=mkV (0,0,true)) (by simp [mkV,results,Tryz.results88,go_sem]) rfl ⟨rfl,(Below.refl _ _).alloc (Nat.le_refl _) _⟩
theorem make_great (m e:Int) (w:World) (h:(m==0)=false) (he:9 < e):
 Calls Tryz.prog 88 #[.int .i64 m,.int .i64 e] w (Ret (mkV (0,0,false)) w):=by
 go_enter Tryz.func88,Tryz.ntmps88
 go_wp2
 exact bodyPost_ret (v:=mkV (0,0,false)) (by simp [mkV,results,Tryz.results88,go_sem]) rfl ⟨rfl,(Below.refl _ _).alloc (Nat.le_refl _) _⟩
theorem make_small (m e:Int) (w:World) (h:(m==0)=false) (he:e<=9) (he0: -9223372036854775808<=e) (hm0: -9223372036854775808<=m) (hm1:m<=9223372036854775807):
 Calls Tryz.prog 88 #[.int .i64 m,.int .i64 e] w (Ret (mkV (mk m e)) w):=by
 have hne:m≠0:=by simpa using h
 have hc:cmpI e 9<=0:=cmpI_le (by omega)
 go_enter Tryz.func88,Tryz.ntmps88
 go_wp2_with (go_at_call 122;refine (compareI_any _ _ _).mono ?_;rintro e1 w' ⟨rfl,rfl⟩)
 go_loop [0,1] (fun a b=>∃(q:Int) (k:Nat),a= .int .i64 q/\b= .int .i64 (e+k)/\q≠0/\9 * k+q.natAbs<=m.natAbs/\StripTo m q k) (fun a _=>(intOf a).natAbs)
 case atStart=>exact ⟨m,0,rfl,by simp,hne,by omega,stripTo_refl m⟩
 case round=>
  obtain ⟨q,k,rfl,rfl,hq,hk,hs⟩:=hrel
  by_cases h10:q % 10=0
  ·have ht:=tmod10_t h10;have hd:=tdiv10 h10;have H10:=Lib.hid h10;clear h10
   go_wp2
   go_round
   case rel=>exact ⟨q / 10,k+1,rfl,by simp;omega,by have:=H10.out;omega,by have:=H10.out;omega,stripTo_step hs hq H10.out⟩
   case measure=>simp [intOf];have:=H10.out;omega
  ·have ht:=tmod10_f h10;have H10:=Lib.hid h10;clear h10;have a1:=mk_at hne hs H10.out (e:=e);have A1:=Lib.hid a1;clear a1;rcases hw1:withinB q 1000000000000000 with _ | _
   ·go_wp2_with (go_at_call 123;refine (within_any _ _ _ (by omega) (by omega)).mono ?_;rintro e w' ⟨rfl,rfl⟩)
    rw [A1.out,hw1];exact bodyPost_ret (v:=mkV (0,0,false)) (by simp [mkV,results,Tryz.results88,go_sem]) rfl ⟨rfl,(Below.refl _ _).alloc (Nat.le_refl _) _⟩
   ·rcases hw2:withinB (e+k) 9 with _ | _
    ·go_wp2_with (go_at_call 123;refine (within_any _ _ _ (by omega) (by omega)).mono ?_;rintro e w' ⟨rfl,rfl⟩)
     rw [A1.out,hw1,hw2];exact bodyPost_ret (v:=mkV (0,0,false)) (by simp [mkV,results,Tryz.results88,go_sem]) rfl ⟨rfl,(Below.refl _ _).alloc (Nat.le_refl _) _⟩
    ·go_wp2_with (go_at_call 123;refine (within_any _ _ _ (by omega) (by omega)).mono ?_;rintro e w' ⟨rfl,rfl⟩)
     rw [A1.out,hw1,hw2];exact bodyPost_ret (v:=mkV (q,e+k,true)) (by simp [mkV,results,Tryz.results88,go_sem]) rfl ⟨rfl,(Below.refl _ _).alloc (Nat.le_refl _) _⟩
theorem make_any (m e:Int) (w:World) (hm0: -9223372036854775808<=m) (hm1:m<=9223372036854775807) (he0: -9223372036854775808<=e):
 Calls Tryz.prog 88 #[.int .i64 m,.int .i64 e] w (Ret (mkV (mk m e)) w):=by
 by_cases h0:m=0
 ·subst h0;rw [mk_zero];exact make_zero e w
 ·have hb:(m==0)=false:=by simpa using h0
  by_cases he:e<=9
  ·exact make_small m e w hb he he0 hm0 hm1
  ·rw [mk_great h0 (by omega)];exact make_great m e w hb (by omega)
theorem rmake_zero (e:Int) (w:World):
 Calls Tryz.prog 57 #[.int .i64 0,.int .i64 e] w (Ret (mkV (0,0,true)) w):=by
 go_enter Tryz.func57,Tryz.ntmps57
 go_wp2
 exact bodyPost_ret (v:=mkV (0,0,true)) (by simp [mkV,results,Tryz.results57,go_sem]) rfl ⟨rfl,(Below.refl _ _).alloc (Nat.le_refl _) _⟩
theorem rmake_some (m e:Int) (w:World) (h:(m==0)=false) (he0: -9223372036854775808<=e) (he1:e<=9223372036854775807) (hm0: -9223372036854775808<=m) (hm1:m<=9223372036854775807):
 Calls Tryz.prog 57 #[.int .i64 m,.int .i64 e] w (Ret (mkV (mk m e)) w):=by
 have hne:m≠0:=by simpa using h
 go_enter Tryz.func57,Tryz.ntmps57
 go_wp2
 go_loop [0,1] (fun a b=>∃(q:Int) (k:Nat),a= .int .i64 q/\b= .int .i64 (e+k)/\q≠0/\9 * k+q.natAbs<=m.natAbs/\StripTo m q k/\e+k<=9223372036854775807) (fun a _=>(intOf a).natAbs)
 case atStart=>exact ⟨m,0,rfl,by simp,hne,by omega,stripTo_refl m,by omega⟩
 case round=>
  obtain ⟨q,k,rfl,rfl,hq,hk,hs,hek⟩:=hrel
  by_cases h10:q % 10=0
  ·have ht:=tmod10_t h10;have hd:=tdiv10 h10;have H10:=Lib.hid h10;clear h10
   by_cases hbig:e+k<=1099511627776
   ·go_wp2
    go_round
    case rel=>exact ⟨q / 10,k+1,rfl,by simp;omega,by have:=H10.out;omega,by have:=H10.out;omega,stripTo_step hs hq H10.out,by omega⟩
    case measure=>simp [intOf];have:=H10.out;omega
   ·go_wp2
    rw [mk_far hne hs (by omega)];exact bodyPost_ret (v:=mkV (0,0,false)) (by simp [mkV,results,Tryz.results57,go_sem]) rfl ⟨rfl,(Below.refl _ _).alloc (Nat.le_refl _) _⟩
  ·have ht:=tmod10_f h10;have H10:=Lib.hid h10;clear h10;have a1:=mk_at hne hs H10.out (e:=e);have A1:=Lib.hid a1;clear a1
   by_cases hw1:q<=1000000000000000/\ -1000000000000000<=q/\e+k<=9/\ -9<=e+k
   ·obtain ⟨q1,q2,q3,q4⟩:=hw1
    go_wp2
    rw [A1.out,withinB_t q2 q1,withinB_t q4 q3];exact bodyPost_ret (v:=mkV (q,e+k,true)) (by simp [mkV,results,Tryz.results57,go_sem]) rfl ⟨rfl,(Below.refl _ _).alloc (Nat.le_refl _) _⟩
   ·have HW:=Lib.hid hw1;clear hw1;have a2:=mk_no hne hs H10.out HW.out;have A2:=Lib.hid a2;clear a2
    go_wp2
    all_goals first
     | (exfalso;have:=HW.out;omega)
     | (rw [A2.out]
        exact bodyPost_ret (v:=mkV (0,0,false)) (by simp [mkV,results,Tryz.results57,go_sem]) rfl ⟨rfl,(Below.refl _ _).alloc (Nat.le_refl _) _⟩)
theorem rmake_any (m e:Int) (w:World) (hm0: -9223372036854775808<=m) (hm1:m<=9223372036854775807) (he0: -9223372036854775808<=e) (he1:e<=9223372036854775807):
 Calls Tryz.prog 57 #[.int .i64 m,.int .i64 e] w (Ret (mkV (mk m e)) w):=by
 by_cases h0:m=0
 ·subst h0;rw [mk_zero];exact rmake_zero e w
 ·exact rmake_some m e w (by simpa using h0) he0 he1 hm0 hm1
end Go.Proofs.YtclghelocglnlaaGreatDoor.Dec
namespace Go.Proofs.YtclghelocglnlaaGreatDoor.Dec
open Go.RowKit
theorem rightB_zero {m e:Int} (h:m=0):rightB m e=(e==0):=by
 subst h;unfold rightB;rw [Bool.eq_iff_iff];simp
theorem rightB_some {m e:Int} (h:m≠0):rightB m e=(!(m.tmod 10==0) && (withinB m 1000000000000000 && withinB e 9)):=by
 have:=tmod10 m;unfold rightB withinB p15;rw [Bool.eq_iff_iff];simp [this]
 omega
theorem right_any (m e:Int) (w:World):
 Calls Tryz.prog 116 #[.agg #[.int .i64 m,.int .i64 e]] w (Ret (.bool (rightB m e)) w):=by
 by_cases h0:m=0
 ·have hb:(m==0)=true:=by simpa using h0
  rw [rightB_zero h0];clear h0
  go_enter Tryz.func116,Tryz.ntmps116
  go_wp2_with (go_at_call 123;refine (within_any _ _ _ (by omega) (by omega)).mono ?_;rintro e w' ⟨rfl,rfl⟩)
  go_ret
  exact ⟨rfl,(Below.refl _ _).alloc (Nat.le_refl _) _⟩
 ·have hb:(m==0)=false:=by simpa using h0
  rw [rightB_some h0];clear h0;rcases h1:(m.tmod 10==0) with _ | _
  ·have h1':(m.tmod 10 !=0)=true:=by simp [bne,h1]
   rcases h2:withinB m 1000000000000000 with _ | _
   all_goals
    go_enter Tryz.func116,Tryz.ntmps116
    go_wp2_with (go_at_call 123;refine (within_any _ _ _ (by omega) (by omega)).mono ?_;rintro e w' ⟨rfl,rfl⟩)
    go_ret
    exact ⟨ret_bool (by simp),(Below.refl _ _).alloc (Nat.le_refl _) _⟩
  ·have h1':(m.tmod 10 !=0)=false:=by simp [bne,h1]
   go_enter Tryz.func116,Tryz.ntmps116
   go_wp2_with (go_at_call 123;refine (within_any _ _ _ (by omega) (by omega)).mono ?_;rintro e w' ⟨rfl,rfl⟩)
   go_ret
   exact ⟨ret_bool (by simp),(Below.refl _ _).alloc (Nat.le_refl _) _⟩
theorem rightB_mk (m e:Int):rightB m e=((mk m e).2.2 && ((mk m e).1==m && (mk m e).2.1==e)):=by
 rw [Bool.eq_iff_iff]
 constructor
 ·intro h;rw [mk_right m e h];simp
 ·intro h;simp at h;have:=mk_is_right m e h.1;rw [h.2.1,h.2.2] at this;exact this
theorem rright_any (m e:Int) (w:World) (hm0: -9223372036854775808<=m) (hm1:m<=9223372036854775807) (he0: -9223372036854775808<=e) (he1:e<=9223372036854775807):
 Calls Tryz.prog 112 #[.agg #[.int .i64 m,.int .i64 e]] w (Ret (.bool (rightB m e)) w):=by
 rw [rightB_mk];generalize hr:mk m e=r;have HR:=Lib.hid hr;clear hr;obtain ⟨a,b,c⟩:=r
 go_enter Tryz.func112,Tryz.ntmps112
 go_wp2_with fail
 (with_reducible refine (rmake_any _ _ _ hm0 hm1 he0 he1).mono ?_)
 rintro e1 w1 ⟨rfl,hb⟩;rw [HR.out];unfold mkV;obtain ⟨hc,hf⟩:=bcell hb;have hz:w.heap.size < w1.heap.size:=by have:=hb.size;simp at this;omega
 have hbb:=below_call hb;clear hb
 cases c
 ·go_wp2
  go_ret
  exact ⟨ret_bool (by simp),hbb.alloc hbb.size _⟩
 ·go_wp2
  all_goals go_ret
  all_goals exact ⟨ret_bool (by simp [*]),hbb.alloc hbb.size _⟩
end Go.Proofs.YtclghelocglnlaaGreatDoor.Dec
namespace Go.Proofs.YtclghelocglnlaaGreatDoor.Dec
open Go.RowKit
def raiseS (n:Int) (x:Nat) (b:Int):Int×Bool:=if -b<=n * 10 ^ x/\n * 10 ^ x<=b then (n * 10 ^ x,true) else (0,false)
def rsV (r:Int×Bool):Value:= .tuple #[.int .i64 r.1,.bool r.2]
theorem pow_split {n:Int} {j x:Nat} (h:j<=x):n * 10 ^ x=n * 10 ^ j * 10 ^ (x - j):=by
 rw [Int.mul_assoc,<-Int.pow_add,show j+(x - j)=x by omega]
theorem le_mul_pow {q b:Int} (k:Nat) (h:b < q) (hb:0<=b):b < q * 10 ^ k:=by
 have h0:(0:Int) < 10 ^ k:=Int.pow_pos (by decide);have h2:q * 1<=q * 10 ^ k:=Int.mul_le_mul_of_nonneg_left (by omega) (by omega)
 omega
theorem raise_over {n b q:Int} {j x:Nat} (hq:q=n * 10 ^ j) (hj:j<=x) (hb:0<=b) (h:q < -b∨b < q):raiseS n x b=(0,false):=by
 unfold raiseS;rw [if_neg];rw [pow_split hj,<-hq];rcases h with h | h
 ·have:=le_mul_pow (q:= -q) (x - j) (by omega) hb;rw [Int.neg_mul] at this
  omega
 ·have:=le_mul_pow (q:=q) (x - j) h hb
  omega
theorem raise_done {n b q:Int} {x:Nat} (hq:q=n * 10 ^ x) (h1: -b<=q) (h2:q<=b):raiseS n x b=(q,true):=by
 unfold raiseS;rw [<-hq,if_pos ⟨h1,h2⟩]
theorem raise_any (n:Int) (x:Nat) (b:Int) (w:World) (hx:x<=100) (hb0:0<=b) (hb1:b<=1000000000000000000) (hb:b % 10=0) (hn0: -b<=n) (hn1:n<=b):
 Calls Tryz.prog 165 #[.int .i64 n,.int .i64 x,.int .i64 b] w (fun e w'=>e= .returned (rsV (raiseS n x b))/\w=w'):=by
 have HB:=Lib.hid hb;clear hb
 go_enter Tryz.func165,Tryz.ntmps165
 go_wp2
 go_loop [0,9] (fun a i=>∃(j:Nat) (q:Int),a= .int .i64 q/\i= .int .i64 j/\j<=x/\ -b<=q/\q<=b/\Hid (q=n * 10 ^ j)) (fun _ i=>x - (intOf i).toNat)
 case atStart=>exact ⟨0,n,rfl,rfl,by omega,hn0,hn1,by show n=n * 10 ^ 0;simp⟩
 case round=>
  obtain ⟨j,q,rfl,rfl,hj,h1,h2,hq⟩:=hrel
  by_cases hlt:j < x
  ·rcases hwb:withinB q (b / 10) with _ | _
   ·have a1:raiseS n x b=(0,false):=raise_over (q:=q * 10) (j:=j+1) (by rw [hq.out,Int.pow_succ,Int.mul_assoc]) (by omega) hb0 (by
     have:=HB.out;have h3:¬withinB q (b / 10)=true:=(by rw [hwb];simp);rw [withinB_iff] at h3
     omega)
    have A1:=Lib.hid a1;clear a1
    go_wp2_with (go_at_call 123;refine (within_any _ _ _ (by omega) (by omega)).mono ?_;rintro e w' ⟨rfl,rfl⟩)
    go_ret2
    exact ⟨by rw [A1.out];rfl,rfl⟩
   ·have hw2:=withinB_iff.1 hwb;obtain ⟨g1,g2⟩:=hw2
    go_wp2_with (go_at_call 123;refine (within_any _ _ _ (by omega) (by omega)).mono ?_;rintro e w' ⟨rfl,rfl⟩)
    go_round
    case rel=>exact ⟨j+1,q * 10,rfl,by go_num,by omega,by have:=HB.out;omega,by have:=HB.out;omega,by show _=_;rw [hq.out,Int.pow_succ,Int.mul_assoc]⟩
    case measure=>simp [intOf];omega
  ·have a1:raiseS n x b=(q,true):=by
    have:j=x:=(by omega);subst this;exact raise_done hq.out h1 h2
   have A1:=Lib.hid a1;clear a1
   go_wp2
   go_ret2
   exact ⟨by rw [A1.out];rfl,rfl⟩
def intS (m e:Int):Int×Bool:=if rightB m e=true/\0<=e then raiseS m e.toNat 1000000000000000000 else (0,false)
theorem rightB_bounds {m e:Int} (h:rightB m e=true): -1000000000000000<=m/\m<=1000000000000000/\ -9<=e/\e<=9:=by
 unfold rightB p15 at h;simp only [decide_eq_true_eq] at h
 omega
theorem int_any (m e:Int) (w:World):
 Calls Tryz.prog 141 #[.agg #[.int .i64 m,.int .i64 e]] w (Ret (rsV (intS m e)) w):=by
 rcases hr:rightB m e with _ | _
 ·have a1:intS m e=(0,false):=by unfold intS;rw [if_neg];simp [hr]
  rw [a1];clear a1
  go_enter Tryz.func141,Tryz.ntmps141
  go_wp2_with fail
  (with_reducible refine (right_any _ _ _).mono ?_)
  rintro e1 w1 ⟨rfl,hb⟩;obtain ⟨hc,hf⟩:=bcell hb;have hbb:=below_call hb;clear hb
  go_wp2
  go_ret2
  exact ⟨rfl,hbb⟩
 ·obtain ⟨b1,b2,b3,b4⟩:=rightB_bounds hr
  by_cases he:0<=e
  ·obtain ⟨x,rfl⟩:=Int.eq_ofNat_of_zero_le he;have a1:intS m x=raiseS m x 1000000000000000000:=by unfold intS;rw [if_pos ⟨hr,he⟩];rfl
   rw [a1];clear a1;generalize hg:raiseS m x 1000000000000000000=r;have HG:=Lib.hid hg;clear hg;obtain ⟨r1,r2⟩:=r
   go_enter Tryz.func141,Tryz.ntmps141
   go_wp2_with fail
   (with_reducible refine (right_any _ _ _).mono ?_)
   rintro e1 w1 ⟨rfl,hb⟩;obtain ⟨hc,hf⟩:=bcell hb;have hbb:=below_call hb;clear hb
   go_wp2_with fail
   (with_reducible refine (raise_any m x _ _ (by omega) (by omega) (by omega) (by omega) (by omega) (by omega)).mono ?_)
   rintro e2 w2 ⟨rfl,rfl⟩;rw [HG.out];unfold rsV
   go_wp2
   go_ret2
   exact ⟨rfl,hbb⟩
  ·have a1:intS m e=(0,false):=by unfold intS;rw [if_neg];simp [he]
   rw [a1];clear a1
   go_enter Tryz.func141,Tryz.ntmps141
   go_wp2_with fail
   (with_reducible refine (right_any _ _ _).mono ?_)
   rintro e1 w1 ⟨rfl,hb⟩;obtain ⟨hc,hf⟩:=bcell hb;have hbb:=below_call hb;clear hb
   go_wp2
   go_ret2
   exact ⟨rfl,hbb⟩
theorem rint_any (m e:Int) (w:World) (hm0: -9223372036854775808<=m) (hm1:m<=9223372036854775807) (he0: -9223372036854775808<=e) (he1:e<=9223372036854775807):
 Calls Tryz.prog 79 #[.agg #[.int .i64 m,.int .i64 e]] w (Ret (rsV (intS m e)) w):=by
 rcases hr:rightB m e with _ | _
 ·have a1:intS m e=(0,false):=by unfold intS;rw [if_neg];simp [hr]
  rw [a1];clear a1
  go_enter Tryz.func79,Tryz.ntmps79
  go_wp2_with fail
  (with_reducible refine (rright_any _ _ _ hm0 hm1 he0 he1).mono ?_)
  rintro e1 w1 ⟨rfl,hb⟩;obtain ⟨hc,hf⟩:=bcell hb;have hbb:=below_call hb;clear hb
  go_wp2
  go_ret2
  exact ⟨rfl,hbb⟩
 ·obtain ⟨b1,b2,b3,b4⟩:=rightB_bounds hr
  by_cases he:0<=e
  ·obtain ⟨x,rfl⟩:=Int.eq_ofNat_of_zero_le he;have a1:intS m x=raiseS m x 1000000000000000000:=by unfold intS;rw [if_pos ⟨hr,he⟩];rfl
   rw [a1];clear a1
   go_enter Tryz.func79,Tryz.ntmps79
   go_wp2_with fail
   (with_reducible refine (rright_any _ _ _ hm0 hm1 he0 he1).mono ?_)
   rintro e1 w1 ⟨rfl,hb⟩;obtain ⟨hc,hf⟩:=bcell hb;have hbb:=below_call hb;clear hb
   go_wp2
   go_loop [5,6] (fun a i=>∃(j:Nat) (q:Int),a= .int .i64 q/\i= .int .i64 j/\j<=x/\ -1000000000000000000<=q/\q<=1000000000000000000/\Hid (q=m * 10 ^ j)) (fun _ i=>x - (intOf i).toNat)
   case atStart=>exact ⟨0,m,rfl,rfl,by omega,by omega,by omega,by show m=m * 10 ^ 0;simp⟩
   case round=>
    obtain ⟨j,q,rfl,rfl,hj,h1,h2,hq⟩:=hrel
    by_cases hlt:j < x
    ·by_cases hwb:q<=100000000000000000/\ -100000000000000000<=q
     ·obtain ⟨g1,g2⟩:=hwb
      go_wp2
      go_round
      case rel=>exact ⟨j+1,10 * q,rfl,by go_num,by omega,by omega,by omega,by show _=_;rw [hq.out,Int.pow_succ];rw [Int.mul_comm 10,Int.mul_assoc]⟩
      case measure=>simp [intOf];omega
     ·have a1:raiseS m x 1000000000000000000=(0,false):=raise_over (q:=q * 10) (j:=j+1) (by rw [hq.out,Int.pow_succ,Int.mul_assoc]) (by omega) (by omega) (by omega);have A1:=Lib.hid a1;clear a1;have HW:=Lib.hid hwb;clear hwb
      go_wp2
      all_goals first
       | (exfalso;have:=HW.out;omega)
       | (go_ret2;exact ⟨by rw [A1.out];rfl,hbb⟩)
    ·have a1:raiseS m x 1000000000000000000=(q,true):=by
      have:j=x:=(by omega);subst this;exact raise_done hq.out h1 h2
     have A1:=Lib.hid a1;clear a1
     go_wp2
     go_ret2
     exact ⟨by rw [A1.out];rfl,hbb⟩
  ·have a1:intS m e=(0,false):=by unfold intS;rw [if_neg];simp [he]
   rw [a1];clear a1
   go_enter Tryz.func79,Tryz.ntmps79
   go_wp2_with fail
   (with_reducible refine (rright_any _ _ _ hm0 hm1 he0 he1).mono ?_)
   rintro e1 w1 ⟨rfl,hb⟩;obtain ⟨hc,hf⟩:=bcell hb;have hbb:=below_call hb;clear hb
   go_wp2
   go_ret2
   exact ⟨rfl,hbb⟩
end Go.Proofs.YtclghelocglnlaaGreatDoor.Dec
namespace Go.Proofs.YtclghelocglnlaaGreatDoor.Dec
open Go.RowKit
def pickS (c n:Int):Int:=(if c < 0 then -(c+1) else c) % n
theorem pickS_nonneg {c n:Int} (h:0 < n):0<=pickS c n:=Int.emod_nonneg _ (by omega)
theorem pickS_lt {c n:Int} (h:0 < n):pickS c n < n:=Int.emod_lt_of_pos _ h
def fitM (mant:Int):Int:=(strip (pickS mant 2000000000000001 - 1000000000000000)).1
def fitE (mant ex:Int):Int:=if fitM mant=0 then 0 else pickS ex 19 - 9
end Go.Proofs.YtclghelocglnlaaGreatDoor.Dec
namespace Go.Proofs.YtclghelocglnlaaGreatDoor.Dec
open Go.RowKit
def Tab (w:World):Prop:=Lib.TabIs Tryz.prog w "internal/strconv.uint64pow10" .u64 Lib.pow10Tab
theorem gpow:Tryz.prog.globalNamed "internal/strconv.uint64pow10"=some 1:=by kernel_rfl
theorem Tab.below {w w':World} (h:Tab w) (hb:Below w.heap.size w w'):Tab w':=by
 unfold Tab Lib.TabIs at h⊢;refine var?_below hb gpow ?_ h;rcases Nat.lt_or_ge 1 w.heap.size with hlt | hge
 ·exact hlt
 ·exfalso
  unfold World.var? at h;simp only [gpow,Option.bind_some,Array.getElem?_eq_none hge] at h
  cases h
theorem Tab.alloc {w:World} (h:Tab w) (o:Obj):Tab (w.alloc o):=h.below ((Below.refl _ _).alloc (Nat.le_refl _) o)
theorem itoa_any (n:Int) (w:World) (ht:Tab w) (h0: -9223372036854775808<=n) (h1:n<=9223372036854775807):
 Calls Tryz.prog 117 #[.int .i64 n] w (Ret (.string ⟨(Lib.itoa n).toArray⟩) w):=
 (Tryz.strconv_Itoa n h0 h1 w ht).mono fun _ _ ⟨he,k,os,hw⟩=>⟨he,by rw [hw];exact Lib.below_grow _ _ (Nat.le_refl _) _ _⟩
def zeros (k:Nat):List UInt8:=List.replicate k 48
theorem zeros_length (k:Nat):(zeros k).length=k:=by simp [zeros]
theorem repeatL_zero (c:Nat):Lib.repeatL [48] c=zeros c:=by
 have:=Lib.repeatL_replicate 48 1 c
 simpa [zeros] using this
theorem repeat_any (c:Nat) (w:World) (hc:c<=100):
 Calls Tryz.prog 118 #[.string ⟨#[48]⟩,.int .i64 c] w (Ret (.string ⟨(zeros c).toArray⟩) w):=
 (Tryz.strings_Repeat ⟨#[48]⟩ c w (by omega) (by show 1 * c<=_;omega)).mono fun _ _ ⟨he,hb⟩=>⟨by rw [he,<-repeatL_zero],hb⟩
theorem repeat_int (n:Int) (w:World) (h0:0<=n) (hn:n<=100):
 Calls Tryz.prog 118 #[.string ⟨#[48]⟩,.int .i64 n] w (Ret (.string ⟨(zeros n.toNat).toArray⟩) w):=by
 obtain ⟨c,rfl⟩:=Int.eq_ofNat_of_zero_le h0;exact repeat_any c w (by omega)
theorem digits_any (m e:Int) (w:World) (ht:Tab w) (h0: -1000000000000000<=m) (h1:m<=1000000000000000):
 Calls Tryz.prog 119 #[.agg #[.int .i64 m,.int .i64 e]] w (Ret (.string ⟨(Lib.decDigits m.natAbs).toArray⟩) w):=by
 have hd:Lib.itoa (max m (-m))=Lib.decDigits m.natAbs:=by
  unfold Lib.itoa;rw [if_neg (by omega),show (max m (-m)).toNat=m.natAbs by omega]
 have HD:=Lib.hid hd;clear hd;have HT:=Lib.hid ht;clear ht
 go_enter Tryz.func119,Tryz.ntmps119
 go_wp2_with fail
 (with_reducible refine (itoa_any _ _ (HT.out.alloc _) (by omega) (by omega)).mono ?_)
 rintro e1 w1 ⟨rfl,hb⟩;rw [HD.out]
 go_wp2
 go_ret
 exact ⟨rfl,below_call hb⟩
end Go.Proofs.YtclghelocglnlaaGreatDoor.Dec
namespace Go.Proofs.YtclghelocglnlaaGreatDoor.Dec
open Go.RowKit Go.Sort
def figsL (m e:Int):List UInt8:=zeros (1 - e - (Lib.decDigits m.natAbs).length).toNat++Lib.decDigits m.natAbs
def printS (m e:Int):List UInt8:=
 if rightB m e=true then
  if 0<=e then Lib.itoa m++zeros e.toNat
  else (if m < 0 then [45] else [])++((figsL m e).take ((figsL m e).length - (-e).toNat)++46::(figsL m e).drop ((figsL m e).length - (-e).toNat))
 else []
theorem mixed:Tryz.prog.follows .mixedOrders=true:=by kernel_rfl
theorem nDigits_le:∀(k u:Nat),u < 10 ^ (k+1)->Lib.nDigits u<=k+1
 | 0,u,h=>by rw [Lib.nDigits_small (by omega)];omega
 | k+1,u,h=>by
   by_cases hu:u < 10
   ·rw [Lib.nDigits_small hu];omega
   ·rw [Lib.nDigits_big hu];have:=nDigits_le k (u / 10) (by rw [Nat.pow_succ] at h;omega)
    omega
theorem decDigits_le {m:Int} (h0: -1000000000000000<=m) (h1:m<=1000000000000000):(Lib.decDigits m.natAbs).length<=16:=by
 rw [Lib.decDigits_length];exact nDigits_le 15 _ (by omega)
theorem itoa_length (m:Int):(Lib.itoa m).length<=1+Lib.nDigits m.natAbs:=by
 unfold Lib.itoa
 split
 ·simp [Lib.decDigits_length];omega
 ·rw [Lib.decDigits_length,show m.toNat=m.natAbs by omega];omega
theorem print_no (m e:Int) (w:World) (hr:rightB m e=false):
 Calls Tryz.prog 83 #[.agg #[.int .i64 m,.int .i64 e]] w (Ret (.string ⟨#[]⟩) w):=by
 go_enter Tryz.func83,Tryz.ntmps83
 go_wp2_with fail
 (with_reducible refine (right_any _ _ _).mono ?_)
 rintro e1 w1 ⟨rfl,hb⟩;obtain ⟨hc,hf⟩:=bcell hb;have hbb:=below_call hb;clear hb
 go_wp2
 go_ret
 exact ⟨rfl,hbb⟩
theorem print_whole (m:Int) (x:Nat) (w:World) (ht:Tab w) (hr:rightB m x=true) (L:List UInt8) (hL:Hid (Lib.itoa m=L)) (hl:L.length<=100):
 Calls Tryz.prog 83 #[.agg #[.int .i64 m,.int .i64 x]] w (Ret (.string ⟨(L++zeros x).toArray⟩) w):=by
 obtain ⟨b1,b2,b3,b4⟩:=rightB_bounds hr;have HT:=Lib.hid ht;clear ht
 go_enter Tryz.func83,Tryz.ntmps83
 go_wp2_with fail
 (with_reducible refine (right_any _ _ _).mono ?_)
 rintro e1 w1 ⟨rfl,hb⟩;obtain ⟨hc,hf⟩:=bcell hb;have hz:w.heap.size < w1.heap.size:=by have:=hb.size;simp at this;omega
 have c0:w1.cell? ⟨w.heap.size,0,none⟩=some (.int .i64 m):=by rw [hc _ _ (by simp)];simp
 have c1:w1.cell? ⟨w.heap.size,1,none⟩=some (.int .i64 x):=by rw [hc _ _ (by simp)];simp
 have ht1:Tab w1:=(HT.out.alloc _).below hb;have hbb:=below_call hb;clear hb hc hf;have HT1:=Lib.hid ht1;clear ht1
 have cI:∀d os,Calls Tryz.prog 117 #[.int .i64 m] (grow (redrawn w1 d) os) fun e w''=>e= .returned (.string ⟨L.toArray⟩)/\∃p:Regrown,w''=grow (redrawn w1 p.d) p.os:=
  fun d os=>Calls.regrown_of (hL.out ▸ itoa_any m _ (HT1.out.below (below_regrown w1 d os)) (by omega) (by omega))
 have cR:∀d os,Calls Tryz.prog 118 #[.string ⟨#[48]⟩,.int .i64 x] (grow (redrawn w1 d) os) fun e w''=>e= .returned (.string ⟨(zeros x).toArray⟩)/\∃p:Regrown,w''=grow (redrawn w1 p.d) p.os:=
  fun d os=>Calls.regrown_of (repeat_any x _ (by omega))
 have k0:=cell_regrown c0;have k1:=cell_regrown c1;have CI:=Lib.hid cI;have CR:=Lib.hid cR;clear cI cR;have hzl:(zeros x).length<=9:=by rw [zeros_length];omega
 generalize zeros x=Z at *;have n1:¬9223372036854775807 < L.length+Z.length:=by omega
 go_wp2_with fail
 refine wp_region_quiet_below mixed (by kernel_rfl) ?_
 repeat (quiet_step (first | exact CI.out _ _ | exact CR.out _ _))
 refine wpQuiet_nil ?_;intro _ hw';obtain ⟨⟨dq,osq⟩,hw''⟩:=hw';subst hw''
 go_wp2
 go_ret
 exact ⟨rfl,hbb.trans ((below_regrown w1 dq osq).mono hbb.size)⟩
theorem bs_append (a b:List UInt8):(⟨a.toArray⟩++⟨b.toArray⟩:ByteArray)=⟨(a++b).toArray⟩:=by
 apply ByteArray.ext;simp
theorem bs_take (F:List UInt8) (p:Nat):(⟨F.toArray⟩:ByteArray).extract 0 p=⟨(F.take p).toArray⟩:=by
 apply ByteArray.ext;simp
theorem bs_drop (F:List UInt8) (p:Nat):(⟨F.toArray⟩:ByteArray).extract p F.length=⟨(F.drop p).toArray⟩:=by
 apply ByteArray.ext;simp [List.take_of_length_le]
theorem bs_two (a b:Array UInt8):(⟨a⟩++⟨b⟩:ByteArray)=⟨a++b⟩:=by
 apply ByteArray.ext;simp
theorem ret_str {a b:ByteArray} (h:a=b):Ending.returned (.string a)= .returned (.string b):=by rw [h]
theorem print_point (m e:Int) (w:World) (ht:Tab w) (hr:rightB m e=true) (he:e < 0) (D:List UInt8) (hD:Hid (Lib.decDigits m.natAbs=D)) (hl:D.length<=30) (S:List UInt8) (hS:Hid (S=if m < 0 then [45] else [])):
 Calls Tryz.prog 83 #[.agg #[.int .i64 m,.int .i64 e]] w (Ret (.string ⟨(S++((zeros (1 - e - D.length).toNat++D).take ((zeros (1 - e - D.length).toNat++D).length - (-e).toNat)++46::(zeros (1 - e - D.length).toNat++D).drop ((zeros (1 - e - D.length).toNat++D).length - (-e).toNat))).toArray⟩) w):=by
 obtain ⟨b1,b2,b3,b4⟩:=rightB_bounds hr;have HT:=Lib.hid ht;clear ht;have HR:=Lib.hid hr
 go_enter Tryz.func83,Tryz.ntmps83
 go_wp2_with fail
 (with_reducible refine (right_any _ _ _).mono ?_)
 rintro e1 w1 ⟨rfl,hb⟩;obtain ⟨hc,hf⟩:=bcell hb;have hz:w.heap.size < w1.heap.size:=by have:=hb.size;simp at this;omega
 have ht1:Tab w1:=(HT.out.alloc _).below hb;have hbb:=below_call hb;clear hb;have HT1:=Lib.hid ht1;clear ht1
 go_wp2_with fail
 (with_reducible refine (digits_any _ _ _ HT1.out (by omega) (by omega)).mono ?_)
 rintro e2 w2 ⟨rfl,hb2⟩;rw [hD.out];have c0:w2.cell? ⟨w.heap.size,0,none⟩=some (.int .i64 m):=by rw [(bcell hb2).1 _ _ hz,hc _ _ (by simp)];simp
 have c1:w2.cell? ⟨w.heap.size,1,none⟩=some (.int .i64 e):=by rw [(bcell hb2).1 _ _ hz,hc _ _ (by simp)];simp
 have hz2:w.heap.size < w2.heap.size:=by have:=hb2.size;omega
 have hbb2:Below w.heap.size w w2:=hbb.trans (hb2.mono hbb.size);clear hc hf hb2
 by_cases hm:m < 0
 all_goals
  go_wp2_with fail
  (with_reducible refine (repeat_int _ _ (by omega) (by omega)).mono ?_)
  rintro e3 w3 ⟨rfl,hb3⟩;have d1:w3.cell? ⟨w.heap.size,1,none⟩=some (.int .i64 e):=by rw [(bcell hb3).1 _ _ hz2,c1]
  have hbb3:Below w.heap.size w w3:=hbb2.trans (hb3.mono hbb2.size);clear c0 c1 hb3;rw [show (max 0 (1 - e - (D.length:Int))).toNat=(1 - e - (D.length:Int)).toNat by omega];have hzl:(zeros (1 - e - (D.length:Int)).toNat).length<=10:=by rw [zeros_length];omega
  have hzg: -e < (zeros (1 - e - (D.length:Int)).toNat).length+D.length:=by rw [zeros_length];omega
  generalize zeros (1 - e - (D.length:Int)).toNat=Z at *
  go_wp2_with fail
  rw [bs_append,show ((Z.length:Int)+D.length+e)=(((Z++D).length - (-e).toNat:Nat):Int) by simp;omega];have hp1:(Z++D).length - (-e).toNat<=(Z++D).length:=by omega
  have hp2:(Z++D).length<=40:=by simp;omega
  generalize (Z++D).length - (-e).toNat=p at *;generalize Z++D=F at *;clear hzg hzl
  go_quiet (fail)
  go_wp2
  go_ret
  refine ⟨ret_str ?_,below_drewN hbb3 _⟩;rw [hS.out]
  first | rw [if_pos (by omega)] | rw [if_neg (by omega)]
  simp [bs_take,bs_drop,bs_two]
theorem print_any (m e:Int) (w:World) (ht:Tab w):
 Calls Tryz.prog 83 #[.agg #[.int .i64 m,.int .i64 e]] w (Ret (.string ⟨(printS m e).toArray⟩) w):=by
 unfold printS;rcases hr:rightB m e with _ | _
 ·rw [if_neg (by simp)];exact print_no m e w hr
 ·rw [if_pos rfl];obtain ⟨b1,b2,b3,b4⟩:=rightB_bounds hr;have hl:=decDigits_le b1 b2
  by_cases he:0<=e
  ·rw [if_pos he];obtain ⟨x,rfl⟩:=Int.eq_ofNat_of_zero_le he;have h2:=itoa_length m;rw [Lib.decDigits_length] at hl;exact print_whole m x w ht hr (Lib.itoa m) rfl (by omega)
  ·rw [if_neg he];exact print_point m e w ht hr (by omega) _ rfl (by omega) _ rfl
end Go.Proofs.YtclghelocglnlaaGreatDoor.Dec
