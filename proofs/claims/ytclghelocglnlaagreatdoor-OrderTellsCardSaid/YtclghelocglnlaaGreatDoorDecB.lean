import Derived.Test.YtclghelocglnlaaGreatDoorDecA
set_option maxHeartbeats 0
set_option maxRecDepth 100000
set_option linter.all false
namespace Go.Proofs.YtclghelocglnlaaGreatDoor.Dec
open Go.RowKit Go.Sort
def isDig (c:UInt8):Bool:=decide (48<=(c.toNat:Int)) && decide ((c.toNat:Int)<=57)
def headD (l:List UInt8):List UInt8:=l.takeWhile isDig
def restD (l:List UInt8):List UInt8:=l.dropWhile isDig
def nD (l:List UInt8):Nat:=(headD l).length
theorem nD_le (l:List UInt8):nD l<=l.length:=(List.takeWhile_prefix isDig).length_le
theorem head_rest (l:List UInt8):headD l++restD l=l:=List.takeWhile_append_dropWhile
theorem take_nD (l:List UInt8):l.take (nD l)=headD l:=by
 have h:(headD l++restD l).take (headD l).length=headD l:=List.take_left;rw [head_rest] at h;exact h
theorem drop_nD (l:List UInt8):l.drop (nD l)=restD l:=by
 have h:(headD l++restD l).drop (headD l).length=restD l:=List.drop_left;rw [head_rest] at h;exact h
theorem nD_cons (c:UInt8) (l:List UInt8):nD (c::l)=if isDig c=true then nD l+1 else 0:=by
 unfold nD headD;rw [List.takeWhile_cons]
 split <;> simp_all
theorem nD_step {l:List UInt8} {k:Nat} (h:k<=nD l) (hk:k < l.length) (hd:isDig l[k]=true):k+1<=nD l:=by
 induction l generalizing k with
 | nil=>simp at hk
 | cons c l ih=>
   rw [nD_cons] at h⊢
   cases k with
   | zero=>simp at hd;rw [if_pos hd];omega
   | succ k=>
     split at h
     ·rename_i hc;rw [if_pos hc];have:=ih (k:=k) (by omega) (by simpa using hk) (by simpa using hd)
      omega
     ·omega
theorem nD_stop {l:List UInt8} {k:Nat} (h:k<=nD l) (hk:k < l.length) (hd:isDig l[k]=false):k=nD l:=by
 induction l generalizing k with
 | nil=>simp at hk
 | cons c l ih=>
   rw [nD_cons] at h⊢
   cases k with
   | zero=>simp at hd;rw [if_neg (by simp [hd])]
   | succ k=>
     split at h
     ·rename_i hc;rw [if_pos hc];have:=ih (k:=k) (by omega) (by simpa using hk) (by simpa using hd)
      omega
     ·omega
theorem nD_byte {s:ByteArray} {k:Nat} (h:k<=nD s.data.toList) (hk:k < s.size):
 (48<=(s[k].toNat:Int)/\(s[k].toNat:Int)<=57->k+1<=nD s.data.toList)/\(¬(48<=(s[k].toNat:Int)/\(s[k].toNat:Int)<=57)->k=nD s.data.toList):=by
 have hk':k < s.data.toList.length:=hk;have he:s.data.toList[k]=s[k]:=rfl
 constructor
 ·intro h2;exact nD_step h hk' (by rw [he];unfold isDig;simp;omega)
 ·intro h2;exact nD_stop h hk' (by rw [he];unfold isDig;simp;omega)
theorem ret_two {a b c d:ByteArray} (h1:a=c) (h2:b=d):Ending.returned (.tuple #[.string a,.string b])= .returned (.tuple #[.string c,.string d]):=by rw [h1,h2]
theorem cut_core (s:ByteArray) (w:World) (hl:s.size<=1000) (n:Nat) (hn:Hid (nD s.data.toList=n)):
 Calls Tryz.prog 193 #[.string s] w (Ret (.tuple #[.string (s.extract 0 n),.string (s.extract n s.size)]) w):=by
 go_enter Tryz.func193,Tryz.ntmps193
 go_wp2
 go_loop [4] (fun i=>∃k:Nat,k<=s.size/\i= .int .i64 k/\k<=nD s.data.toList) (fun i=>s.size - (intOf i).toNat)
 case atStart=>exact ⟨0,by omega,rfl,by omega⟩
 case round=>
  obtain ⟨k,hk,rfl,hkn⟩:=hrel;have hle:=nD_le s.data.toList;have hle2:nD s.data.toList<=s.size:=hle;clear hle
  by_cases hlt:k < s.size
  ·obtain ⟨y,z⟩:=nD_byte hkn hlt
   by_cases h1:48<=(s[k].toNat:Int)
   ·by_cases h2:(s[k].toNat:Int)<=57
    ·have y':=y ⟨h1,h2⟩;clear y z
     go_wp2
     go_round
     case rel=>exact ⟨k+1,by omega,by go_num,y'⟩
     case measure=>simp [intOf];omega
    ·have z':k=n:=(by rw [<-hn.out];exact z (by omega));clear y z;subst z'
     go_wp2
     go_quiet (fail)
     go_wp2
     go_ret2
     exact ⟨ret_two (by simp) (by simp),below_drewN (Below.refl _ _) _⟩
   ·have z':k=n:=(by rw [<-hn.out];exact z (by omega));clear y z;subst z'
    go_wp2
    go_quiet (fail)
    go_wp2
    go_ret2
    exact ⟨ret_two (by simp) (by simp),below_drewN (Below.refl _ _) _⟩
  ·have z':k=n:=by have:=hn.out;omega
   subst z'
   go_wp2
   go_quiet (fail)
   go_wp2
   go_ret2
   exact ⟨ret_two (by simp) (by simp),below_drewN (Below.refl _ _) _⟩
theorem cut_any (l:List UInt8) (w:World) (hl:l.length<=1000):
 Calls Tryz.prog 193 #[.string ⟨l.toArray⟩] w (Ret (.tuple #[.string ⟨(headD l).toArray⟩,.string ⟨(restD l).toArray⟩]) w):=by
 have h:=cut_core ⟨l.toArray⟩ w (by show l.toArray.size<=1000;simpa using hl) (nD l) rfl;rw [bs_take,take_nD,show (⟨l.toArray⟩:ByteArray).size=l.length from List.size_toArray,bs_drop,drop_nD] at h;exact h
end Go.Proofs.YtclghelocglnlaaGreatDoor.Dec
namespace Go.Proofs.YtclghelocglnlaaGreatDoor.Dec
open Go.RowKit Go.Sort
def pre (l:List UInt8) (c:UInt8):Bool:=match l with | x::_=>x==c | []=>false
def cutp (l:List UInt8) (c:UInt8):List UInt8:=if pre l c=true then l.tail else l
theorem pre_eq (l:List UInt8) (c:UInt8):Lib.hasPrefix l [c]=pre l c:=by
 unfold Lib.hasPrefix pre
 cases l with
 | nil=>rfl
 | cons x l=>
   show (c==x && true)=(x==c);rw [Bool.and_true];exact BEq.comm
theorem cutp_eq (l:List UInt8) (c:UInt8):Lib.trimPrefix l [c]=cutp l c:=by
 unfold Lib.trimPrefix cutp;rw [pre_eq]
 cases l <;> simp
theorem cutp_len (l:List UInt8) (c:UInt8):(cutp l c).length<=l.length:=by
 unfold cutp;split <;> simp
theorem cutp_any (l:List UInt8) (c:UInt8) (w:World):
 Calls Tryz.prog 192 #[.string ⟨l.toArray⟩,.string ⟨#[c]⟩] w fun e w'=>e= .returned (.tuple #[.string ⟨(cutp l c).toArray⟩,.bool (pre l c)])/\w=w':=
 (Tryz.strings_CutPrefix ⟨l.toArray⟩ ⟨#[c]⟩ w).mono fun _ _ ⟨he,hw⟩=>⟨by rw [he,<-cutp_eq,<-pre_eq],hw.symm⟩
theorem trimp_any (l:List UInt8) (c:UInt8) (w:World):
 Calls Tryz.prog 207 #[.string ⟨l.toArray⟩,.string ⟨#[c]⟩] w fun e w'=>e= .returned (.string ⟨(cutp l c).toArray⟩)/\w=w':=
 (Tryz.strings_TrimPrefix ⟨l.toArray⟩ ⟨#[c]⟩ w).mono fun _ _ ⟨he,hw⟩=>⟨by rw [he,<-cutp_eq],hw.symm⟩
def valD (l:List UInt8):Nat:=l.foldl (fun p c=>p * 10+(c.toNat - 48)) 0
def capD (l:List UInt8):Nat:=l.foldl (fun p c=>min (p * 10+(c.toNat - 48)) 1000) 0
theorem valD_snoc (l:List UInt8) (c:UInt8):valD (l++ [c])=valD l * 10+(c.toNat - 48):=by simp [valD]
theorem capD_snoc (l:List UInt8) (c:UInt8):capD (l++ [c])=min (capD l * 10+(c.toNat - 48)) 1000:=by simp [capD]
theorem cap_fold (l:List UInt8) (a b:Nat) (h:b=min a 1000):l.foldl (fun p c=>min (p * 10+(c.toNat - 48)) 1000) b=min (l.foldl (fun p c=>p * 10+(c.toNat - 48)) a) 1000:=by
 induction l generalizing a b with
 | nil=>exact h
 | cons c l ih=>simp only [List.foldl_cons];exact ih _ _ (by omega)
theorem capD_eq (l:List UInt8):capD l=min (valD l) 1000:=cap_fold l 0 0 rfl
theorem capD_byte (s:ByteArray) (k:Nat) (hk:k < s.size):(capD (s.data.toList.take (k+1)):Int)=min (capD (s.data.toList.take k) * 10+((s[k].toNat - 48:Nat):Int)) 1000:=by
 rw [List.take_succ_eq_append_getElem (by simpa using hk),capD_snoc];have:s.data.toList[k]'(by simpa using hk)=s[k]:=rfl;rw [this]
 omega
theorem headD_byte (l:List UInt8) (k:Nat) (hk:k < (⟨(headD l).toArray⟩:ByteArray).size):48<=((⟨(headD l).toArray⟩:ByteArray)[k].toNat:Int)/\((⟨(headD l).toArray⟩:ByteArray)[k].toNat:Int)<=57:=by
 have hk':k < (headD l).length:=by have:(headD l).toArray.size=(headD l).length:=List.size_toArray;rw [<-this];exact hk
 have h1:(⟨(headD l).toArray⟩:ByteArray)[k]=(headD l)[k]:=rfl;rw [h1];have h2:(headD l)[k]∈headD l:=List.getElem_mem hk'
 have h3:isDig (headD l)[k]=true:=by
  have:=List.all_takeWhile (p:=isDig) (l:=l);rw [List.all_eq_true] at this;exact this _ h2
 unfold isDig at h3
 simpa using h3
def powS (l:List UInt8):Option Int:=
 match l with
 | []=>none
 | c::r=>
   if c=101∨c=69 then
    let t:=if pre r 45=true then cutp r 45 else cutp (cutp r 45) 43
    if headD t= []∨restD t≠ [] then none else some (if pre r 45=true then -(valD (headD t):Int) else valD (headD t))
   else none
def clampE (x:Int):Int:=max (-1000) (min x 1000)
theorem clampE_zero:clampE 0=0:=rfl
def powV (o:Option Int):Value:=match o with | none=> .tuple #[.int .i64 0,.bool false] | some x=> .tuple #[.int .i64 (clampE x),.bool true]
theorem power_no (s:ByteArray) (w:World) (h0:0 < s.size) (h1:((s[0].toNat:Int) !=101)=true) (h2:((s[0].toNat:Int) !=69)=true):
 Calls Tryz.prog 194 #[.string s] w (Ret (.tuple #[.int .i64 0,.bool false]) w):=by
 go_enter Tryz.func194,Tryz.ntmps194
 go_wp2_with fail
 go_ret2
 exact ⟨rfl,Below.refl _ _⟩
def PowPost (neg:Bool) (F R:List UInt8):Value:=
 if (F.isEmpty || !R.isEmpty)=true then .tuple #[.int .i64 0,.bool false]
 else .tuple #[.int .i64 (if neg=true then -(capD F:Int) else capD F),.bool true]
theorem power_sign (s:ByteArray) (r:List UInt8) (w:World) (h0:0 < s.size) (hs:s.size<=400) (hr:r.length<=400) (hx:Hid (s.extract 1 s.size=⟨r.toArray⟩))
 (hc:((s[0].toNat:Int) !=101)=false∨(((s[0].toNat:Int) !=101)=true/\((s[0].toNat:Int) !=69)=false))
 (neg:Bool) (HP:Hid (pre r 45=neg)) (T F R:List UInt8) (HT:Hid ((if neg=true then cutp r 45 else cutp (cutp r 45) 43)=T)) (HF:Hid (headD T=F)) (HR:Hid (restD T=R)):
 Calls Tryz.prog 194 #[.string s] w (Ret (PowPost neg F R) w):=by
 have hTl:T.length<=400:=by
  have hl1:=cutp_len r 45;have hl2:=cutp_len (cutp r 45) 43;rw [<-HT.out];split <;> omega
 have hFl:F.length<=400:=by
  have:(headD T).length<=T.length:=nD_le T;rw [<-HF.out];omega
 have hFb:∀k (hk:k < (⟨F.toArray⟩:ByteArray).size),48<=((⟨F.toArray⟩:ByteArray)[k].toNat:Int)/\((⟨F.toArray⟩:ByteArray)[k].toNat:Int)<=57:=by
  rw [<-HF.out];exact headD_byte T
 have HFB:=Lib.hid hFb;clear hFb;rcases hc with hc | ⟨hc,hc2⟩
 all_goals
  rcases neg with _ | _
  ·have HT2:Hid (cutp (cutp r 45) 43=T):=HT
   go_enter Tryz.func194,Tryz.ntmps194
   go_wp2_with fail
   rw [hx.out]
   (with_reducible refine (cutp_any _ _ _).mono ?_)
   rintro e1 w1 ⟨rfl,rfl⟩;rw [HP.out]
   go_wp2_with fail
   (with_reducible refine (trimp_any _ _ _).mono ?_)
   rintro e1 w1 ⟨rfl,rfl⟩;rw [HT2.out]
   go_wp2_with fail
   (with_reducible refine (cut_any _ _ (by omega)).mono ?_)
   rintro e1 w1 ⟨rfl,hb⟩;rw [HF.out,HR.out];rcases hFe:F.isEmpty with _ | _
   ·rcases hRe:R.isEmpty with _ | _
    ·go_wp2
     go_ret2
     exact ⟨by unfold PowPost;rw [hFe,hRe];rfl,hb⟩
    ·go_wp2
     generalize hfb:(⟨F.toArray⟩:ByteArray)=fb at *;have hz1:fb.size<=F.length:=(by rw [<-hfb];exact Nat.le_of_eq List.size_toArray);have hz2:F.length<=fb.size:=(by rw [<-hfb];exact Nat.le_of_eq List.size_toArray.symm);have hfl:fb.data.toList=F:=(by rw [<-hfb]);have HFL:=Lib.hid hfl;clear hfb hfl
     go_loop [7,40] (fun a i=>∃(k:Nat) (p:Int),k<=F.length/\i= .int .i64 k/\a= .int .i64 p/\0<=p/\p<=1000/\Hid (p=capD (F.take k))) (fun _ i=>F.length - (intOf i).toNat)
     case atStart=>exact ⟨0,0,by omega,rfl,rfl,by omega,by omega,by show (0:Int)=_;simp [capD]⟩
     case round=>
      obtain ⟨k,p,hk,rfl,rfl,hp0,hp1,hp⟩:=hrel
      by_cases hlt:k < F.length
      ·have hk2:k < fb.size:=(by omega);obtain ⟨y1,y2⟩:=HFB.out k hk2;have hcb:=capD_byte fb k hk2;rw [HFL.out] at hcb;have HCB:=Lib.hid hcb;clear hcb
       go_wp2
       go_round
       case rel=>exact ⟨k+1,min (p * 10+((fb[k].toNat:Int) - 48)) 1000,by omega,by go_num,rfl,by omega,by omega,by show _=_;rw [HCB.out,<-hp.out];omega⟩
       case measure=>simp [intOf];omega
      ·have hpe:p=capD F:=(by rw [hp.out,List.take_of_length_le (by omega)]);have HPE:=Lib.hid hpe;clear hpe
       go_wp2
       go_ret2
       exact ⟨by unfold PowPost;rw [hFe,hRe,HPE.out];rfl,hb⟩
   ·go_wp2
    go_ret2
    exact ⟨by unfold PowPost;rw [hFe];rfl,hb⟩
  ·have HT2:Hid (cutp r 45=T):=HT
   go_enter Tryz.func194,Tryz.ntmps194
   go_wp2_with fail
   rw [hx.out]
   (with_reducible refine (cutp_any _ _ _).mono ?_)
   rintro e1 w1 ⟨rfl,rfl⟩;rw [HP.out,HT2.out]
   go_wp2_with fail
   (with_reducible refine (cut_any _ _ (by omega)).mono ?_)
   rintro e1 w1 ⟨rfl,hb⟩;rw [HF.out,HR.out];rcases hFe:F.isEmpty with _ | _
   ·rcases hRe:R.isEmpty with _ | _
    ·go_wp2
     go_ret2
     exact ⟨by unfold PowPost;rw [hFe,hRe];rfl,hb⟩
    ·go_wp2
     generalize hfb:(⟨F.toArray⟩:ByteArray)=fb at *;have hz1:fb.size<=F.length:=(by rw [<-hfb];exact Nat.le_of_eq List.size_toArray);have hz2:F.length<=fb.size:=(by rw [<-hfb];exact Nat.le_of_eq List.size_toArray.symm);have hfl:fb.data.toList=F:=(by rw [<-hfb]);have HFL:=Lib.hid hfl;clear hfb hfl
     go_loop [7,40] (fun a i=>∃(k:Nat) (p:Int),k<=F.length/\i= .int .i64 k/\a= .int .i64 p/\0<=p/\p<=1000/\Hid (p=capD (F.take k))) (fun _ i=>F.length - (intOf i).toNat)
     case atStart=>exact ⟨0,0,by omega,rfl,rfl,by omega,by omega,by show (0:Int)=_;simp [capD]⟩
     case round=>
      obtain ⟨k,p,hk,rfl,rfl,hp0,hp1,hp⟩:=hrel
      by_cases hlt:k < F.length
      ·have hk2:k < fb.size:=(by omega);obtain ⟨y1,y2⟩:=HFB.out k hk2;have hcb:=capD_byte fb k hk2;rw [HFL.out] at hcb;have HCB:=Lib.hid hcb;clear hcb
       go_wp2
       go_round
       case rel=>exact ⟨k+1,min (p * 10+((fb[k].toNat:Int) - 48)) 1000,by omega,by go_num,rfl,by omega,by omega,by show _=_;rw [HCB.out,<-hp.out];omega⟩
       case measure=>simp [intOf];omega
      ·have hpe:p=capD F:=(by rw [hp.out,List.take_of_length_le (by omega)]);have HPE:=Lib.hid hpe;clear hpe
       go_wp2
       go_ret2
       exact ⟨by unfold PowPost;rw [hFe,hRe,HPE.out];rfl,hb⟩
   ·go_wp2
    go_ret2
    exact ⟨by unfold PowPost;rw [hFe];rfl,hb⟩
theorem powPost_eq (c:UInt8) (r T:List UInt8) (hc:c=101∨c=69) (hT:(if pre r 45=true then cutp r 45 else cutp (cutp r 45) 43)=T):
 PowPost (pre r 45) (headD T) (restD T)=powV (powS (c::r)):=by
 unfold PowPost powS;simp only [hc,if_true,hT]
 by_cases h:headD T= []∨restD T≠ []
 ·rw [if_pos h,if_pos]
  ·rfl
  ·rcases h with h | h
   ·simp [h]
   ·rw [Bool.or_eq_true];right;simpa using h
 ·rw [if_neg h,if_neg]
  ·unfold powV;simp only [capD_eq]
   congr 3
   rw [Value.int.injEq];refine ⟨rfl,?_⟩;unfold clampE
   split <;> omega
  ·intro h2
   apply h
   rw [Bool.or_eq_true] at h2;rcases h2 with h2 | h2
   ·left;simpa using h2
   ·right;simpa using h2
theorem power_any (c:UInt8) (r:List UInt8) (w:World) (hl:(c::r).length<=400):
 Calls Tryz.prog 194 #[.string ⟨(c::r).toArray⟩] w (Ret (powV (powS (c::r))) w):=by
 have hsz:(⟨(c::r).toArray⟩:ByteArray).size=(c::r).length:=List.size_toArray;have h0:0 < (⟨(c::r).toArray⟩:ByteArray).size:=by rw [hsz];simp
 have hg:(⟨(c::r).toArray⟩:ByteArray)[0]=c:=rfl;have hrl:r.length<=400:=by simp at hl;omega
 by_cases hc:c=101∨c=69
 ·rw [<-powPost_eq c r _ hc rfl];refine power_sign _ r w h0 (by rw [hsz];exact hl) hrl ?_ ?_ _ rfl _ _ _ rfl rfl rfl
  ·show _=_;rw [hsz,bs_drop]
   rfl
  ·rw [hg];rcases hc with rfl | rfl
   ·left;decide
   ·right;decide
 ·have:powS (c::r)=none:=by unfold powS;simp only [hc,if_false]
  rw [this];refine power_no _ w h0 ?_ ?_
  ·rw [hg,bne_iff_ne];intro h;exact hc (.inl (UInt8.toNat_inj.1 (by show c.toNat=101;omega)))
  ·rw [hg,bne_iff_ne];intro h;exact hc (.inr (UInt8.toNat_inj.1 (by show c.toNat=69;omega)))
end Go.Proofs.YtclghelocglnlaaGreatDoor.Dec
namespace Go.Proofs.YtclghelocglnlaaGreatDoor.Dec
open Go.RowKit Go.Sort
def Digs (l:List UInt8):Prop:=∀c∈l,isDig c=true
theorem dig_le {c:UInt8} (h:isDig c=true):48<=c.toNat/\c.toNat<=57:=by
 unfold isDig at h;simp at h;omega
theorem valD_lt (l:List UInt8) (h:Digs l):valD l < 10 ^ l.length:=by
 have:∀(l:List UInt8) (a n:Nat),Digs l->a < 10 ^ n->l.foldl (fun p c=>p * 10+(c.toNat - 48)) a < 10 ^ (n+l.length):=by
  intro l
  induction l with
  | nil=>intro a n _ h;exact h
  | cons c l ih=>
    intro a n hd h;have h1:=dig_le (hd c (by simp));simp only [List.foldl_cons,List.length_cons];have:=ih (a * 10+(c.toNat - 48)) (n+1) (fun x hx=>hd x (by simp [hx])) (by rw [Nat.pow_succ];omega);rw [show n+(l.length+1)=n+1+l.length by omega];exact this
 have h2:=this l 0 0 h (by decide)
 simpa [valD] using h2
theorem Digs.take {l:List UInt8} (h:Digs l) (k:Nat):Digs (l.take k):=fun c hc=>h c (List.mem_of_mem_take hc)
theorem valD_take_lt {l:List UInt8} (h:Digs l) {k n:Nat} (hk:k<=n):valD (l.take k) < 10 ^ n:=by
 have h1:=valD_lt _ (h.take k);have h2:(l.take k).length<=n:=by simp;omega
 exact Nat.lt_of_lt_of_le h1 (Nat.pow_le_pow_right (by decide) h2)
theorem digs_byte {l:List UInt8} (h:Digs l) (k:Nat) (hk:k < (⟨l.toArray⟩:ByteArray).size):48<=((⟨l.toArray⟩:ByteArray)[k].toNat:Int)/\((⟨l.toArray⟩:ByteArray)[k].toNat:Int)<=57:=by
 have hk':k < l.length:=by have:l.toArray.size=l.length:=List.size_toArray;rw [<-this];exact hk
 have h1:(⟨l.toArray⟩:ByteArray)[k]=l[k]:=rfl;rw [h1];have:=dig_le (h _ (List.getElem_mem hk'))
 omega
theorem valD_byte (s:ByteArray) (k:Nat) (hk:k < s.size):(valD (s.data.toList.take (k+1)):Int)=valD (s.data.toList.take k) * 10+((s[k].toNat - 48:Nat):Int):=by
 rw [List.take_succ_eq_append_getElem (by simpa using hk),valD_snoc];have:s.data.toList[k]'(by simpa using hk)=s[k]:=rfl;rw [this]
 omega
theorem triml_any (l:List UInt8) (w:World):
 Calls Tryz.prog 195 #[.string ⟨l.toArray⟩,.string ⟨#[48]⟩] w fun e w'=>e= .returned (.string ⟨(Lib.trimLeftB l 48).toArray⟩)/\w=w':=
 (Tryz.strings_TrimLeft_one ⟨l.toArray⟩ 48 (by decide) w).mono fun _ _ ⟨he,hw⟩=>⟨he,hw.symm⟩
theorem trimr_any (l:List UInt8) (w:World) (hl:l.length<=1000):
 Calls Tryz.prog 196 #[.string ⟨l.toArray⟩,.string ⟨#[48]⟩] w fun e w'=>e= .returned (.string ⟨(Lib.trimRightB l 48).toArray⟩)/\w=w':=
 (Tryz.strings_TrimRight_one ⟨l.toArray⟩ 48 (by decide) w (by have:(⟨l.toArray⟩:ByteArray).size=l.length:=List.size_toArray;omega)).mono fun _ _ ⟨he,hw⟩=>⟨he,hw.symm⟩
theorem triml_len (l:List UInt8):(Lib.trimLeftB l 48).length<=l.length:=(List.dropWhile_suffix _).length_le
theorem trimr_len (l:List UInt8):(Lib.trimRightB l 48).length<=l.length:=by
 unfold Lib.trimRightB;have:=(List.dropWhile_suffix (l:=l.reverse) (·==(48:UInt8))).length_le
 simpa using this
theorem triml_digs {l:List UInt8} (h:Digs l):Digs (Lib.trimLeftB l 48):=fun c hc=>h c ((List.dropWhile_suffix _).mem hc)
theorem trimr_digs {l:List UInt8} (h:Digs l):Digs (Lib.trimRightB l 48):=fun c hc=>by
 unfold Lib.trimRightB at hc;rw [List.mem_reverse] at hc;have:=(List.dropWhile_suffix (l:=l.reverse) (·==(48:UInt8))).mem hc;exact h c (List.mem_reverse.1 this)
def sgn (neg:Bool) (n:Int):Int:=if neg=true then -n else n
def formS (neg:Bool) (fl:Nat) (p:Int) (A F:List UInt8):Int×Int×Bool:=
 if 18 < F.length then (0,0,false) else mk (sgn neg (valD F)) (p - fl+A.length - F.length)
theorem form_any (neg:Bool) (W Fr:List UInt8) (p:Int) (w:World) (hl:W.length+Fr.length<=400) (hd:Digs (W++Fr)) (hp0: -1000<=p) (hp1:p<=1000)
 (A F:List UInt8) (HA:Hid (Lib.trimLeftB (W++Fr) 48=A)) (HF:Hid (Lib.trimRightB A 48=F)):
 Calls Tryz.prog 179 #[.agg #[.bool neg,.string ⟨W.toArray⟩,.string ⟨Fr.toArray⟩,.int .i64 p]] w (Ret (mkV (formS neg Fr.length p A F)) w):=by
 have hAl:A.length<=400:=by have:=triml_len (W++Fr);rw [HA.out] at this;simp at this;omega
 have hFl:F.length<=400:=by have:=trimr_len A;rw [HF.out] at this;omega
 have hdF:Digs F:=by rw [<-HF.out,<-HA.out];exact trimr_digs (triml_digs hd)
 have HD:=Lib.hid hdF;have HDB:=Lib.hid (digs_byte hdF);clear hdF hd;have n1:¬9223372036854775807 < W.length+Fr.length:=by omega
 go_enter Tryz.func179,Tryz.ntmps179
 go_wp2_with fail
 rw [bs_append]
 (with_reducible refine (triml_any _ _).mono ?_)
 rintro e1 w1 ⟨rfl,rfl⟩;rw [HA.out]
 go_wp2_with fail
 (with_reducible refine (trimr_any _ _ (by omega)).mono ?_)
 rintro e1 w1 ⟨rfl,rfl⟩;rw [HF.out]
 by_cases h18:18 < F.length
 ·have a1:formS neg Fr.length p A F=(0,0,false):=by unfold formS;rw [if_pos h18]
  have A1:=Lib.hid a1;clear a1
  go_wp2
  rw [A1.out];exact bodyPost_ret (v:=mkV (0,0,false)) (by simp [mkV,results,Tryz.results179,go_sem]) rfl ⟨rfl,((Below.refl _ _).alloc (Nat.le_refl _) _).alloc (by simp) _⟩
 ·go_wp2
  generalize hfb:(⟨F.toArray⟩:ByteArray)=fb at *;have hz1:fb.size<=F.length:=by rw [<-hfb];exact Nat.le_of_eq List.size_toArray
  have hz2:F.length<=fb.size:=by rw [<-hfb];exact Nat.le_of_eq List.size_toArray.symm
  have hfl:fb.data.toList=F:=by rw [<-hfb]
  have HFL:=Lib.hid hfl;clear hfb hfl
  go_loop [6,22] (fun a i=>∃(k:Nat) (q:Int),k<=F.length/\i= .int .i64 k/\a= .int .i64 q/\0<=q/\q < 1000000000000000000/\Hid (q=valD (F.take k))) (fun _ i=>F.length - (intOf i).toNat)
  case atStart=>exact ⟨0,0,by omega,rfl,rfl,by omega,by omega,by show (0:Int)=_;simp [valD]⟩
  case round=>
   obtain ⟨k,q,hk,rfl,rfl,hq0,hq1,hq⟩:=hrel
   by_cases hlt:k < F.length
   ·have hk2:k < fb.size:=(by omega);obtain ⟨y1,y2⟩:=HDB.out k hk2;have hcb:=valD_byte fb k hk2;rw [HFL.out] at hcb;have HCB:=Lib.hid hcb;clear hcb
    have hq2:q < 100000000000000000:=by
     have:=valD_take_lt HD.out (k:=k) (n:=17) (by omega);have h3:=hq.out
     omega
    go_wp2
    go_round
    case rel=>exact ⟨k+1,q * 10+((fb[k].toNat:Int) - 48),by omega,by go_num,rfl,by omega,by omega,by show _=_;rw [HCB.out,<-hq.out];omega⟩
    case measure=>simp [intOf];omega
   ·have hqe:q=valD F:=(by rw [hq.out,List.take_of_length_le (by omega)]);have HQE:=Lib.hid hqe;clear hqe;have a1:formS neg Fr.length p A F=mk (sgn neg q) (p - Fr.length+A.length - F.length):=(by unfold formS;rw [if_neg h18,HQE.out]);have A1:=Lib.hid a1;clear a1;have hfz:(fb.size:Int)=F.length:=(by omega);have HFZ:=Lib.hid hfz;clear hfz;rcases neg with _ | _
    ·go_wp2_with fail
     (with_reducible refine (make_any _ _ _ (by omega) (by omega) (by omega)).mono ?_)
     rintro e1 w1 ⟨rfl,hb⟩;have a2:mk q (p - Fr.length+A.length - fb.size)=formS false Fr.length p A F:=(by rw [A1.out,HFZ.out];rfl);rw [a2];clear a2 A1;generalize formS false Fr.length p A F=res at *;obtain ⟨r1,r2,r3⟩:=res;unfold mkV at *;obtain ⟨hc,hf⟩:=bcell hb;have hz:w.heap.size+1 < w1.heap.size:=(by have:=hb.size;simp at this;omega);have hbb:=below_call (below_call hb);clear hb
     go_wp2
     exact bodyPost_ret (v:=mkV (r1,r2,r3)) (by simp [mkV,results,Tryz.results179,go_sem,hc]) rfl ⟨rfl,by repeat (first | exact hbb | refine Below.setCell ?_ (by simp) _)⟩
    ·go_wp2_with fail
     (with_reducible refine (make_any _ _ _ (by omega) (by omega) (by omega)).mono ?_)
     rintro e1 w1 ⟨rfl,hb⟩;have a2:mk (-q) (p - Fr.length+A.length - fb.size)=formS true Fr.length p A F:=(by rw [A1.out,HFZ.out];rfl);rw [a2];clear a2 A1;generalize formS true Fr.length p A F=res at *;obtain ⟨r1,r2,r3⟩:=res;unfold mkV at *;obtain ⟨hc,hf⟩:=bcell hb;have hz:w.heap.size+1 < w1.heap.size:=(by have:=hb.size;simp at this;omega);have hbb:=below_call (below_call hb);clear hb
     go_wp2
     exact bodyPost_ret (v:=mkV (r1,r2,r3)) (by simp [mkV,results,Tryz.results179,go_sem,hc]) rfl ⟨rfl,by repeat (first | exact hbb | refine Below.setCell ?_ (by simp) _)⟩
end Go.Proofs.YtclghelocglnlaaGreatDoor.Dec
namespace Go.Proofs.YtclghelocglnlaaGreatDoor.Dec
open Go.RowKit Go.Sort
abbrev Numeral:=Bool×List UInt8×List UInt8×Int
def badW (W:List UInt8):Bool:=W.isEmpty || (decide (1 < W.length) && pre W 48)
def tailS (neg:Bool) (W Fr S4:List UInt8):Option Numeral:=
 if S4.isEmpty=true then some (neg,W,Fr,0) else match powS S4 with | none=>none | some E=>some (neg,W,Fr,E)
def splitS (l:List UInt8):Option Numeral:=
 let W:=headD (cutp l 45)
 let S2:=restD (cutp l 45)
 if badW W=true then none
 else if pre S2 46=true then
  (if (headD (cutp S2 46)).isEmpty=true then none else tailS (pre l 45) W (headD (cutp S2 46)) (restD (cutp S2 46)))
 else tailS (pre l 45) W [] (cutp S2 46)
def numV (b:Bool) (W Fr:List UInt8) (p:Int):Value:= .agg #[.bool b,.string ⟨W.toArray⟩,.string ⟨Fr.toArray⟩,.int .i64 p]
def splV (o:Option Numeral):Value:=
 match o with
 | none=> .tuple #[.agg #[.bool false,.string ⟨#[]⟩,.string ⟨#[]⟩,.int .i64 0],.bool false]
 | some (b,W,Fr,E)=> .tuple #[.agg #[.bool b,.string ⟨W.toArray⟩,.string ⟨Fr.toArray⟩,.int .i64 (clampE E)],.bool true]
theorem first_byte (x:UInt8) (W:List UInt8) (h:0 < (⟨(x::W).toArray⟩:ByteArray).size):((⟨(x::W).toArray⟩:ByteArray)[0].toNat:Int)=x.toNat:=rfl
theorem cons_pos (x:UInt8) (W:List UInt8):0 < (⟨(x::W).toArray⟩:ByteArray).size:=by
 have:(⟨(x::W).toArray⟩:ByteArray).size=(x::W).length:=List.size_toArray;rw [this];simp
structure NumAt (w:World) (b:Nat) (v0 v1 v2 v3:Value):Prop where
 c0:w.cell? ⟨b,0,none⟩=some v0
 c1:w.cell? ⟨b,1,none⟩=some v1
 c2:w.cell? ⟨b,2,none⟩=some v2
 c3:w.cell? ⟨b,3,none⟩=some v3
 fz:∀o,w.frozen? ⟨b,o,none⟩=false
 lt:b < w.heap.size
theorem NumAt.below {w w':World} {b:Nat} {v0 v1 v2 v3:Value} (h:NumAt w b v0 v1 v2 v3) (hb:Below w.heap.size w w'):NumAt w' b v0 v1 v2 v3:=
 ⟨by rw [(bcell hb).1 _ _ h.lt];exact h.c0,by rw [(bcell hb).1 _ _ h.lt];exact h.c1,by rw [(bcell hb).1 _ _ h.lt];exact h.c2,by rw [(bcell hb).1 _ _ h.lt];exact h.c3,
   fun o=>by rw [(bcell hb).2 _ _ h.lt];exact h.fz o,Nat.lt_of_lt_of_le h.lt hb.size⟩
theorem NumAt.set1 {w:World} {b:Nat} {v0 v1 v2 v3:Value} (h:NumAt w b v0 v1 v2 v3) (u:Value):NumAt (w.setCell ⟨b,1,none⟩ u) b v0 u v2 v3:=
 ⟨by rw [World.cell?_setCell_other _ _ _ _ (by simp)];exact h.c0,World.cell?_setCell_same _ _ _ h.c1,by rw [World.cell?_setCell_other _ _ _ _ (by simp)];exact h.c2,by rw [World.cell?_setCell_other _ _ _ _ (by simp)];exact h.c3,
   fun o=>by rw [World.frozen?_setCell];exact h.fz o,by simpa [World.setCell] using h.lt⟩
theorem NumAt.set2 {w:World} {b:Nat} {v0 v1 v2 v3:Value} (h:NumAt w b v0 v1 v2 v3) (u:Value):NumAt (w.setCell ⟨b,2,none⟩ u) b v0 v1 u v3:=
 ⟨by rw [World.cell?_setCell_other _ _ _ _ (by simp)];exact h.c0,by rw [World.cell?_setCell_other _ _ _ _ (by simp)];exact h.c1,World.cell?_setCell_same _ _ _ h.c2,by rw [World.cell?_setCell_other _ _ _ _ (by simp)];exact h.c3,
   fun o=>by rw [World.frozen?_setCell];exact h.fz o,by simpa [World.setCell] using h.lt⟩
theorem NumAt.far {w:World} {b:Nat} {v0 v1 v2 v3:Value} (h:NumAt w b v0 v1 v2 v3) {a:Addr} (ha:a.block≠b) (u:Value):NumAt (w.setCell a u) b v0 v1 v2 v3:=
 ⟨by rw [World.cell?_setCell_other _ _ _ _ (by intro e;subst e;exact ha rfl)];exact h.c0,by rw [World.cell?_setCell_other _ _ _ _ (by intro e;subst e;exact ha rfl)];exact h.c1,by rw [World.cell?_setCell_other _ _ _ _ (by intro e;subst e;exact ha rfl)];exact h.c2,by rw [World.cell?_setCell_other _ _ _ _ (by intro e;subst e;exact ha rfl)];exact h.c3,
   fun o=>by rw [World.frozen?_setCell];exact h.fz o,by simpa [World.setCell] using h.lt⟩
theorem split_bad (l:List UInt8) (w:World) (hl:l.length<=400) (neg:Bool) (HN:Hid (pre l 45=neg)) (S1 W S2:List UInt8) (H1:Hid (cutp l 45=S1)) (HW:Hid (headD S1=W)) (H2:Hid (restD S1=S2))
 (hb:badW W=true):
 Calls Tryz.prog 178 #[.string ⟨l.toArray⟩] w (Ret (splV none) w):=by
 have hS1:S1.length<=400:=by have:=cutp_len l 45;rw [H1.out] at this;omega
 go_enter Tryz.func178,Tryz.ntmps178
 go_wp2_with fail
 (with_reducible refine (cutp_any _ _ _).mono ?_)
 rintro e1 w1 ⟨rfl,rfl⟩;rw [H1.out,HN.out]
 go_wp2_with fail
 (with_reducible refine (cut_any _ _ (by omega)).mono ?_)
 rintro e1 w1 ⟨rfl,hb1⟩;rw [HW.out,H2.out];obtain ⟨hc,hf⟩:=bcell hb1;have hz:w.heap.size+1 < w1.heap.size:=by have:=hb1.size;simp at this;omega
 have r0:w1.cell? ⟨w.heap.size,0,none⟩=some (.bool false):=by rw [hc _ _ (by simp;omega)];simp
 have r1:w1.cell? ⟨w.heap.size,1,none⟩=some (.string ⟨#[]⟩):=by rw [hc _ _ (by simp;omega)];simp
 have r2:w1.cell? ⟨w.heap.size,2,none⟩=some (.string ⟨#[]⟩):=by rw [hc _ _ (by simp;omega)];simp
 have r3:w1.cell? ⟨w.heap.size,3,none⟩=some (.int .i64 0):=by rw [hc _ _ (by simp;omega)];simp
 have n0:w1.cell? ⟨w.heap.size+1,0,none⟩=some (.bool neg):=by rw [hc _ _ (by simp)];simp
 have n1:w1.cell? ⟨w.heap.size+1,1,none⟩=some (.string ⟨#[]⟩):=by rw [hc _ _ (by simp)];simp
 have n2:w1.cell? ⟨w.heap.size+1,2,none⟩=some (.string ⟨#[]⟩):=by rw [hc _ _ (by simp)];simp
 have n3:w1.cell? ⟨w.heap.size+1,3,none⟩=some (.int .i64 0):=by rw [hc _ _ (by simp)];simp
 have fr:∀o,w1.frozen? ⟨w.heap.size,o,none⟩=false:=fun o=>by rw [hf _ _ (by simp;omega)];simp
 have fn:∀o,w1.frozen? ⟨w.heap.size+1,o,none⟩=false:=fun o=>by rw [hf _ _ (by simp)];simp
 have hbb:=below_call (below_call hb1);clear hb1 hc hf;rcases hWe:W.isEmpty with _ | _
 ·unfold badW at hb;rw [hWe] at hb;simp only [Bool.false_or,Bool.and_eq_true,decide_eq_true_eq] at hb;obtain ⟨h1,h2⟩:=hb;obtain ⟨x,W',rfl⟩:∃x W',W=x::W':=by cases W with | nil=>simp at hWe | cons x W'=>exact ⟨x,W',rfl⟩
  have h3:x=48:=by simpa [pre] using h2
  have h4:(((⟨(x::W').toArray⟩:ByteArray)[0]'(cons_pos x W')).toNat:Int)=48:=by rw [first_byte,h3];rfl
  have h5:((((⟨(x::W').toArray⟩:ByteArray)[0]'(cons_pos x W')).toNat:Int)==48)=true:=by rw [h4];rfl
  have h6:(1:Int) < (W'.length:Int)+1:=by simp at h1;omega
  clear h1 h2 h3 h4
  go_wp2
  exact bodyPost_ret (v:=splV none) (by simp [splV,results,Tryz.results178,go_sem,r0,r1,r2,r3]) rfl ⟨rfl,by repeat (first | exact hbb | refine Below.setCell ?_ (by simp) _)⟩
 ·clear hb
  go_wp2
  exact bodyPost_ret (v:=splV none) (by simp [splV,results,Tryz.results178,go_sem,r0,r1,r2,r3]) rfl ⟨rfl,by repeat (first | exact hbb | refine Below.setCell ?_ (by simp) _)⟩
end Go.Proofs.YtclghelocglnlaaGreatDoor.Dec
namespace Go.Proofs.YtclghelocglnlaaGreatDoor.Dec
open Go.RowKit Go.Sort
theorem goodW {W:List UInt8} (hb:badW W=false):∃x W',W=x::W'/\((W'.length:Int)+1<=1∨(1 < (W'.length:Int)+1/\((((⟨(x::W').toArray⟩:ByteArray)[0]'(cons_pos x W')).toNat:Int)==48)=false)):=by
 cases W with
 | nil=>simp [badW] at hb
 | cons x W'=>
   refine ⟨x,W',rfl,?_⟩
   by_cases h:(W'.length:Int)+1<=1
   ·exact .inl h
   ·refine .inr ⟨by omega,?_⟩;rw [first_byte,beq_eq_false_iff_ne];intro h2;have h3:x=48:=UInt8.toNat_inj.1 (by show x.toNat=48;omega);unfold badW at hb;rw [show pre (x::W') 48=true by simp [pre,h3],show decide (1 < (x::W').length)=true by simp;omega] at hb;simp at hb
theorem split_plain (l:List UInt8) (w:World) (hl:l.length<=400) (neg:Bool) (HN:Hid (pre l 45=neg)) (S1 W S2 S3:List UInt8) (H1:Hid (cutp l 45=S1)) (HW:Hid (headD S1=W)) (H2:Hid (restD S1=S2))
 (hb:badW W=false) (HPt:Hid (pre S2 46=false)) (H3:Hid (cutp S2 46=S3)) (o:Option Numeral) (HO:Hid (tailS neg W [] S3=o)):
 Calls Tryz.prog 178 #[.string ⟨l.toArray⟩] w (Ret (splV o) w):=by
 have hS1:S1.length<=400:=by have:=cutp_len l 45;rw [H1.out] at this;omega
 have hS3:S3.length<=400:=by
  have h1:=cutp_len S2 46;have h2:(restD S1).length<=S1.length:=(List.dropWhile_suffix _).length_le;rw [H2.out] at h2;rw [H3.out] at h1
  omega
 obtain ⟨x,W',rfl,hg⟩:=goodW hb;clear hb;rcases hg with hg | ⟨hg1,hg2⟩
 all_goals
  go_enter Tryz.func178,Tryz.ntmps178
  go_wp2_with fail
  (with_reducible refine (cutp_any _ _ _).mono ?_)
  rintro e1 w1 ⟨rfl,rfl⟩;rw [H1.out,HN.out]
  go_wp2_with fail
  (with_reducible refine (cut_any _ _ (by omega)).mono ?_)
  rintro e1 w1 ⟨rfl,hb1⟩;rw [HW.out,H2.out];have NR:NumAt w1 w.heap.size (.bool false) (.string ⟨#[]⟩) (.string ⟨#[]⟩) (.int .i64 0):=NumAt.below ⟨by simp,by simp,by simp,by simp,fun o=>by simp,by simp;omega⟩ hb1;have NN:NumAt w1 (w.heap.size+1) (.bool neg) (.string ⟨#[]⟩) (.string ⟨#[]⟩) (.int .i64 0):=NumAt.below ⟨by simp,by simp,by simp,by simp,fun o=>by simp,by simp⟩ hb1;obtain ⟨n0,n1,n2,n3,fn,hz⟩:=NN;have hbb:=below_call (below_call hb1);clear hb1
  go_wp2_with fail
  (with_reducible refine (cutp_any _ _ _).mono ?_)
  rintro e1 w2 ⟨rfl,rfl⟩;rw [HPt.out,H3.out];rcases hSe:S3.isEmpty with _ | _
  ·obtain ⟨c,r,rfl⟩:∃c r,S3=c::r:=by cases S3 with | nil=>simp at hSe | cons c r=>exact ⟨c,r,rfl⟩
   go_wp2_with fail
   (with_reducible refine (power_any _ _ _ hS3).mono ?_)
   rintro e1 w2 ⟨rfl,hb2⟩;have hz1:w.heap.size < w1.heap.size:=by omega
   have NN:NumAt w2 (w.heap.size+1) (.bool neg) (.string ⟨(x::W').toArray⟩) (.string ⟨#[]⟩) (.int .i64 0):=(NumAt.set1 ⟨n0,n1,n2,n3,fn,hz⟩ _).below hb2;have NR2:=(NR.far (a:=⟨w.heap.size+1,1,none⟩) (by simp) (.string ⟨(x::W').toArray⟩)).below hb2;have hbb2:Below w.heap.size w w2:=(hbb.setCell (p:=⟨w.heap.size+1,1,none⟩) (by simp) _).trans (hb2.mono (by simp [World.setCell];omega));clear n0 n1 n2 n3 fn hz NR hbb hb2 hz1;obtain ⟨n0,n1,n2,n3,fn,hz⟩:=NN;obtain ⟨r0,r1,r2,r3,fr,_⟩:=NR2;rcases hP:powS (c::r) with _ | E
   ·have a1:o=none:=(by rw [<-HO.out];unfold tailS;rw [hSe,hP];rfl);have A1:=Lib.hid a1;clear a1;unfold powV
    go_wp2_with fail
    rw [A1.out];exact bodyPost_ret (v:=splV none) (by simp [splV,results,Tryz.results178,go_sem,r0,r1,r2,r3]) rfl ⟨rfl,by repeat (first | exact hbb2 | refine Below.setCell ?_ (by simp) _)⟩
   ·have a1:o=some (neg,x::W',[],E):=(by rw [<-HO.out];unfold tailS;rw [hSe,hP];rfl);have A1:=Lib.hid a1;clear a1;unfold powV
    go_wp2_with fail
    rw [A1.out];exact bodyPost_ret (v:=splV (some (neg,x::W',[],E))) (by simp [splV,results,Tryz.results178,go_sem,r0,r1,r2,r3]) rfl ⟨rfl,by repeat (first | exact hbb2 | refine Below.setCell ?_ (by simp) _)⟩
  ·have a1:o=some (neg,x::W',[],0):=by rw [<-HO.out];unfold tailS;rw [hSe];rfl
   have A1:=Lib.hid a1;clear a1;obtain ⟨r0,r1,r2,r3,fr,_⟩:=NR
   go_wp2_with fail
   rw [A1.out];exact bodyPost_ret (v:=splV (some (neg,x::W',[],0))) (by simp [splV,clampE_zero,results,Tryz.results178,go_sem,r0,r1,r2,r3]) rfl ⟨rfl,by repeat (first | exact hbb | refine Below.setCell ?_ (by simp) _)⟩
end Go.Proofs.YtclghelocglnlaaGreatDoor.Dec
namespace Go.Proofs.YtclghelocglnlaaGreatDoor.Dec
open Go.RowKit Go.Sort
theorem split_point (l:List UInt8) (w:World) (hl:l.length<=400) (neg:Bool) (HN:Hid (pre l 45=neg)) (S1 W S2 S3 Fr S4:List UInt8) (H1:Hid (cutp l 45=S1)) (HW:Hid (headD S1=W)) (H2:Hid (restD S1=S2))
 (hb:badW W=false) (HPt:Hid (pre S2 46=true)) (H3:Hid (cutp S2 46=S3)) (HF:Hid (headD S3=Fr)) (H4:Hid (restD S3=S4)) (o:Option Numeral) (HO:Hid ((if Fr.isEmpty=true then none else tailS neg W Fr S4)=o)):
 Calls Tryz.prog 178 #[.string ⟨l.toArray⟩] w (Ret (splV o) w):=by
 have hS1:S1.length<=400:=by have:=cutp_len l 45;rw [H1.out] at this;omega
 have hS3:S3.length<=400:=by
  have h1:=cutp_len S2 46;have h2:(restD S1).length<=S1.length:=(List.dropWhile_suffix _).length_le;rw [H2.out] at h2;rw [H3.out] at h1
  omega
 have hS4:S4.length<=400:=by
  have h2:(restD S3).length<=S3.length:=(List.dropWhile_suffix _).length_le;rw [H4.out] at h2
  omega
 obtain ⟨x,W',rfl,hg⟩:=goodW hb;clear hb;rcases hg with hg | ⟨hg1,hg2⟩
 all_goals
  go_enter Tryz.func178,Tryz.ntmps178
  go_wp2_with fail
  (with_reducible refine (cutp_any _ _ _).mono ?_)
  rintro e1 w1 ⟨rfl,rfl⟩;rw [H1.out,HN.out]
  go_wp2_with fail
  (with_reducible refine (cut_any _ _ (by omega)).mono ?_)
  rintro e1 w1 ⟨rfl,hb1⟩;rw [HW.out,H2.out];have NR:NumAt w1 w.heap.size (.bool false) (.string ⟨#[]⟩) (.string ⟨#[]⟩) (.int .i64 0):=NumAt.below ⟨by simp,by simp,by simp,by simp,fun o=>by simp,by simp;omega⟩ hb1;have NN:NumAt w1 (w.heap.size+1) (.bool neg) (.string ⟨#[]⟩) (.string ⟨#[]⟩) (.int .i64 0):=NumAt.below ⟨by simp,by simp,by simp,by simp,fun o=>by simp,by simp⟩ hb1;obtain ⟨n0,n1,n2,n3,fn,hz⟩:=NN;have hbb:=below_call (below_call hb1);clear hb1
  go_wp2_with fail
  (with_reducible refine (cutp_any _ _ _).mono ?_)
  rintro e1 w2 ⟨rfl,rfl⟩;rw [HPt.out,H3.out]
  go_wp2_with fail
  (with_reducible refine (cut_any _ _ (by omega)).mono ?_)
  rintro e1 w2 ⟨rfl,hb2⟩;rw [HF.out,H4.out];have NN:NumAt w2 (w.heap.size+1) (.bool neg) (.string ⟨(x::W').toArray⟩) (.string ⟨#[]⟩) (.int .i64 0):=(NumAt.set1 ⟨n0,n1,n2,n3,fn,hz⟩ _).below hb2;have NR2:=(NR.far (a:=⟨w.heap.size+1,1,none⟩) (by simp) (.string ⟨(x::W').toArray⟩)).below hb2;have hbb2:Below w.heap.size w w2:=(hbb.setCell (p:=⟨w.heap.size+1,1,none⟩) (by simp) _).trans (hb2.mono (by simp [World.setCell];omega));clear n0 n1 n2 n3 fn hz NR hbb hb2;obtain ⟨n0,n1,n2,n3,fn,hz⟩:=NN;rcases hFe:Fr.isEmpty with _ | _
  ·rcases hSe:S4.isEmpty with _ | _
   ·obtain ⟨c,r,rfl⟩:∃c r,S4=c::r:=by cases S4 with | nil=>simp at hSe | cons c r=>exact ⟨c,r,rfl⟩
    go_wp2_with fail
    (with_reducible refine (power_any _ _ _ hS4).mono ?_)
    rintro e1 w3 ⟨rfl,hb3⟩;have NN:NumAt w3 (w.heap.size+1) (.bool neg) (.string ⟨(x::W').toArray⟩) (.string ⟨Fr.toArray⟩) (.int .i64 0):=(NumAt.set2 ⟨n0,n1,n2,n3,fn,hz⟩ _).below hb3;have NR3:=(NR2.far (a:=⟨w.heap.size+1,2,none⟩) (by simp) (.string ⟨Fr.toArray⟩)).below hb3;have hbb3:Below w.heap.size w w3:=(hbb2.setCell (p:=⟨w.heap.size+1,2,none⟩) (by simp) _).trans (hb3.mono (by simp [World.setCell];omega));clear n0 n1 n2 n3 fn hz NR2 hbb2 hb3;obtain ⟨n0,n1,n2,n3,fn,hz⟩:=NN;obtain ⟨r0,r1,r2,r3,fr,_⟩:=NR3;rcases hP:powS (c::r) with _ | E
    ·have a1:o=none:=(by rw [<-HO.out];unfold tailS;rw [hFe,hSe,hP];rfl);have A1:=Lib.hid a1;clear a1;unfold powV
     go_wp2_with fail
     rw [A1.out];exact bodyPost_ret (v:=splV none) (by simp [splV,results,Tryz.results178,go_sem,r0,r1,r2,r3]) rfl ⟨rfl,by repeat (first | exact hbb3 | refine Below.setCell ?_ (by simp) _)⟩
    ·have a1:o=some (neg,x::W',Fr,E):=(by rw [<-HO.out];unfold tailS;rw [hFe,hSe,hP];rfl);have A1:=Lib.hid a1;clear a1;unfold powV
     go_wp2_with fail
     rw [A1.out];exact bodyPost_ret (v:=splV (some (neg,x::W',Fr,E))) (by simp [splV,results,Tryz.results178,go_sem,r0,r1,r2,r3]) rfl ⟨rfl,by repeat (first | exact hbb3 | refine Below.setCell ?_ (by simp) _)⟩
   ·have a1:o=some (neg,x::W',Fr,0):=(by rw [<-HO.out];unfold tailS;rw [hFe,hSe];rfl);have A1:=Lib.hid a1;clear a1;obtain ⟨r0,r1,r2,r3,fr,_⟩:=NR2
    go_wp2_with fail
    rw [A1.out];exact bodyPost_ret (v:=splV (some (neg,x::W',Fr,0))) (by simp [splV,clampE_zero,results,Tryz.results178,go_sem,r0,r1,r2,r3]) rfl ⟨rfl,by repeat (first | exact hbb2 | refine Below.setCell ?_ (by simp) _)⟩
  ·have a1:o=none:=by rw [<-HO.out,hFe];rfl
   have A1:=Lib.hid a1;clear a1;obtain ⟨r0,r1,r2,r3,fr,_⟩:=NR2
   go_wp2_with fail
   rw [A1.out];exact bodyPost_ret (v:=splV none) (by simp [splV,results,Tryz.results178,go_sem,r0,r1,r2,r3]) rfl ⟨rfl,by repeat (first | exact hbb2 | refine Below.setCell ?_ (by simp) _)⟩
theorem split_any (l:List UInt8) (w:World) (hl:l.length<=400):
 Calls Tryz.prog 178 #[.string ⟨l.toArray⟩] w (Ret (splV (splitS l)) w):=by
 unfold splitS;rcases hb:badW (headD (cutp l 45)) with _ | _
 ·simp only [hb,Bool.false_eq_true,if_false];rcases hp:pre (restD (cutp l 45)) 46 with _ | _
  ·simp only [Bool.false_eq_true,if_false];exact split_plain l w hl _ rfl _ _ _ _ rfl rfl rfl hb hp rfl _ rfl
  ·simp only [if_true];exact split_point l w hl _ rfl _ _ _ _ _ _ rfl rfl rfl hb hp rfl rfl rfl _ rfl
 ·simp only [hb,if_true];exact split_bad l w hl _ rfl _ _ _ rfl rfl rfl hb
end Go.Proofs.YtclghelocglnlaaGreatDoor.Dec
namespace Go.Proofs.YtclghelocglnlaaGreatDoor.Dec
open Go.RowKit Go.Sort
def partsS (o:Option Numeral):Int×Int×Bool:=
 match o with
 | none=>(0,0,false)
 | some (b,W,Fr,E)=>formS b Fr.length (clampE E) (Lib.trimLeftB (W++Fr) 48) (Lib.trimRightB (Lib.trimLeftB (W++Fr) 48) 48)
theorem headD_digs (l:List UInt8):Digs (headD l):=fun c hc=>by
 have:=List.all_takeWhile (p:=isDig) (l:=l);rw [List.all_eq_true] at this;exact this _ hc
theorem digs_nil:Digs []:=fun _ h=>by cases h
theorem digs_append {a b:List UInt8} (ha:Digs a) (hb:Digs b):Digs (a++b):=fun c hc=>(List.mem_append.1 hc).elim (ha c) (hb c)
theorem headD_len (l:List UInt8):(headD l).length+(restD l).length=l.length:=by
 have:=congrArg List.length (head_rest l);rw [List.length_append] at this;exact this
theorem split_parts {l:List UInt8} {b:Bool} {W Fr:List UInt8} {E:Int} (h:splitS l=some (b,W,Fr,E)):Digs W/\Digs Fr/\W.length+Fr.length<=l.length:=by
 have tail:∀{neg:Bool} {W0 Fr0 S4:List UInt8},tailS neg W0 Fr0 S4=some (b,W,Fr,E)->W0=W/\Fr0=Fr:=by
  intro neg W0 Fr0 S4 h;unfold tailS at h
  split at h
  ·simp at h;exact ⟨h.2.1,h.2.2.1⟩
  ·split at h
   ·cases h
   ·simp at h;exact ⟨h.2.1,h.2.2.1⟩
 have l1:=cutp_len l 45;have l2:=headD_len (cutp l 45);have l3:=cutp_len (restD (cutp l 45)) 46;have l4:=headD_len (cutp (restD (cutp l 45)) 46);unfold splitS at h;simp only at h
 split at h
 ·cases h
 ·split at h
  ·split at h
   ·cases h
   ·obtain ⟨rfl,rfl⟩:=tail h;exact ⟨headD_digs _,headD_digs _,by omega⟩
  ·obtain ⟨rfl,rfl⟩:=tail h;exact ⟨headD_digs _,digs_nil,by simp;omega⟩
theorem parse_core (l:List UInt8) (w:World) (o:Option Numeral) (hl:l.length<=400) (HO:Hid (splitS l=o)):
 Calls Tryz.prog 162 #[.string ⟨l.toArray⟩] w (Ret (mkV (partsS o)) w):=by
 go_enter Tryz.func162,Tryz.ntmps162
 go_wp2_with fail
 (with_reducible refine (split_any _ _ hl).mono ?_)
 rintro e1 w1 ⟨rfl,hb⟩;rw [HO.out];obtain ⟨hc,hf⟩:=bcell hb;have hz:w.heap.size < w1.heap.size:=by have:=hb.size;simp at this;omega
 have c0:w1.cell? ⟨w.heap.size,0,none⟩=some (.int .i64 0):=by rw [hc _ _ (by simp)];simp
 have c1:w1.cell? ⟨w.heap.size,1,none⟩=some (.int .i64 0):=by rw [hc _ _ (by simp)];simp
 have fr:∀o,w1.frozen? ⟨w.heap.size,o,none⟩=false:=fun o=>by rw [hf _ _ (by simp)];simp
 have hbb:=below_call hb;clear hb hc hf;rcases o with _ | ⟨b,W,Fr,E⟩
 ·unfold splV
  go_wp2_with fail
  have q0:∀o,(((w1.setCell ⟨w.heap.size,0,none⟩ (.int .i64 0)).setCell ⟨w.heap.size,1,none⟩ (.int .i64 0)).alloc o).cell? ⟨w.heap.size,0,none⟩=some (.int .i64 0):=fun o=>by
   rw [World.cell?_alloc_lt _ _ _ (by simpa [World.setCell] using hz),World.cell?_setCell_other _ _ _ _ (by simp),World.cell?_setCell_same _ _ _ c0]
  have q1:∀o,(((w1.setCell ⟨w.heap.size,0,none⟩ (.int .i64 0)).setCell ⟨w.heap.size,1,none⟩ (.int .i64 0)).alloc o).cell? ⟨w.heap.size,1,none⟩=some (.int .i64 0):=fun o=>by
   rw [World.cell?_alloc_lt _ _ _ (by simpa [World.setCell] using hz),World.cell?_setCell_same (u:= .int .i64 0) _ _ _ (by rw [World.cell?_setCell_other _ _ _ _ (by simp)];exact c1)]
  exact bodyPost_ret (v:=mkV (0,0,false)) (by simp [mkV,results,Tryz.results162,go_sem,q0,q1]) rfl ⟨rfl,by repeat (first | exact hbb | refine Below.setCell ?_ (by simp) _ | refine Below.alloc ?_ (by simpa [World.setCell] using hbb.size) _)⟩
 ·unfold splV;obtain ⟨d1,d2,d3⟩:=split_parts HO.out;have D12:=Lib.hid (digs_append d1 d2);clear d1 d2;have hE0: -1000<=clampE E:=by unfold clampE;omega
  have hE1:clampE E<=1000:=by unfold clampE;omega
  go_wp2_with fail
  (with_reducible refine (form_any _ _ _ _ _ (by omega) D12.out hE0 hE1 _ _ (Lib.hid rfl) (Lib.hid rfl)).mono ?_)
  rintro e2 w2 ⟨rfl,hb2⟩;have a1:formS b Fr.length (clampE E) (Lib.trimLeftB (W++Fr) 48) (Lib.trimRightB (Lib.trimLeftB (W++Fr) 48) 48)=partsS (some (b,W,Fr,E)):=rfl;rw [a1];clear a1;generalize partsS (some (b,W,Fr,E))=res at *;obtain ⟨x1,x2,x3⟩:=res;unfold mkV at *;have d0:w2.cell? ⟨w.heap.size,0,none⟩=some (.int .i64 0):=by rw [(bcell hb2).1 _ _ (by simp;omega),World.cell?_alloc_lt _ _ _ hz];exact c0
  have d1:w2.cell? ⟨w.heap.size,1,none⟩=some (.int .i64 0):=by rw [(bcell hb2).1 _ _ (by simp;omega),World.cell?_alloc_lt _ _ _ hz];exact c1
  have fr2:∀o,w2.frozen? ⟨w.heap.size,o,none⟩=false:=fun o=>by
   rw [(bcell hb2).2 _ _ (by simp;omega),((Below.refl _ _).alloc (Nat.le_refl _) _).frozen (p:=⟨w.heap.size,o,none⟩) hz];exact fr o
  have hbb2:Below w.heap.size w w2:=(hbb.alloc hbb.size _).trans (hb2.mono (by simp;omega));clear c0 c1 fr hb2
  go_wp2_with fail
  exact bodyPost_ret (v:=mkV (x1,x2,x3)) (by simp [mkV,results,Tryz.results162,go_sem,d0,d1]) rfl ⟨rfl,by repeat (first | exact hbb2 | refine Below.setCell ?_ (by simp) _)⟩
theorem parse_long (s:ByteArray) (w:World) (hl:400 < s.size) (hs:s.size<=maxLen):
 Calls Tryz.prog 162 #[.string s] w (Ret (mkV (0,0,false)) w):=by
 unfold maxLen at hs
 go_enter Tryz.func162,Tryz.ntmps162
 go_wp2_with fail
 exact bodyPost_ret (v:=mkV (0,0,false)) (by simp [mkV,results,Tryz.results162,go_sem]) rfl ⟨rfl,(Below.refl _ _).alloc (Nat.le_refl _) _⟩
end Go.Proofs.YtclghelocglnlaaGreatDoor.Dec
namespace Go.Proofs.YtclghelocglnlaaGreatDoor.Dec
theorem fold_val (l:List UInt8) (a:Nat):l.foldl (fun p c=>p * 10+(c.toNat - 48)) a=a * 10 ^ l.length+valD l:=by
 induction l generalizing a with
 | nil=>simp [valD]
 | cons c l ih=>
   unfold valD;simp only [List.foldl_cons,List.length_cons];rw [ih,ih (0 * 10+(c.toNat - 48)),Nat.pow_succ];simp only [Nat.zero_mul,Nat.zero_add,Nat.add_mul,Nat.mul_assoc,Nat.mul_comm 10]
   omega
theorem valD_append (a b:List UInt8):valD (a++b)=valD a * 10 ^ b.length+valD b:=by
 conv=>lhs;unfold valD
 rw [List.foldl_append,fold_val]
 rfl
theorem valD_cons (c:UInt8) (l:List UInt8):valD (c::l)=(c.toNat - 48) * 10 ^ l.length+valD l:=by
 rw [show c::l= [c]++l from rfl,valD_append];simp [valD]
theorem valD_zeros (k:Nat):valD (zeros k)=0:=by
 induction k with
 | zero=>rfl
 | succ k ih=>rw [show zeros (k+1)=48::zeros k from rfl,valD_cons,ih];simp
theorem valD_zeros_append (k:Nat) (l:List UInt8):valD (zeros k++l)=valD l:=by rw [valD_append,valD_zeros];simp
theorem valD_append_zeros (k:Nat) (l:List UInt8):valD (l++zeros k)=valD l * 10 ^ k:=by rw [valD_append,valD_zeros,zeros_length];simp
def Core (F:List UInt8):Prop:=Digs F/\(F= []∨((∃c r,F=c::r/\c≠48)/\∃r c,F=r++ [c]/\c≠48))
theorem core_val {F:List UInt8} (h:Core F) (hne:F≠ []):10 ^ (F.length - 1)<=valD F/\valD F % 10≠0:=by
 obtain ⟨hd,h | ⟨⟨c,r,e1,h1⟩,r',c',e2,h2⟩⟩:=h
 ·exact absurd h hne
 ·constructor
  ·have hc:=dig_le (hd c (by rw [e1];simp));have hc2:c.toNat≠48:=fun e=>h1 (UInt8.toNat_inj.1 e)
   rw [e1,valD_cons];simp only [List.length_cons,Nat.add_sub_cancel];have:1 * 10 ^ r.length<=(c.toNat - 48) * 10 ^ r.length:=Nat.mul_le_mul_right _ (by omega)
   omega
  ·have hc:=dig_le (hd c' (by rw [e2];simp));have hc2:c'.toNat≠48:=fun e=>h2 (UInt8.toNat_inj.1 e)
   rw [e2,valD_snoc]
   omega
theorem digs_dropL {k:Nat} {l:List UInt8} (h:Digs (zeros k++l)):Digs l:=fun c hc=>h c (List.mem_append_right _ hc)
theorem dropWhile_split (l:List UInt8):∃k,l=zeros k++l.dropWhile (·==48):=by
 induction l with
 | nil=>exact ⟨0,rfl⟩
 | cons c l ih=>
   by_cases h:c=48
   ·obtain ⟨k,hk⟩:=ih;refine ⟨k+1,?_⟩;rw [List.dropWhile_cons,if_pos (by simp [h]),show zeros (k+1)=48::zeros k from rfl,List.cons_append,<-hk,h]
   ·exact ⟨0,by rw [List.dropWhile_cons,if_neg (by simp [h])];rfl⟩
theorem dropWhile_head (l:List UInt8):l.dropWhile (·==48)= []∨∃c r,l.dropWhile (·==48)=c::r/\c≠48:=by
 induction l with
 | nil=>exact .inl rfl
 | cons c l ih=>
   rw [List.dropWhile_cons]
   by_cases h:c=48
   ·rw [if_pos (by simp [h])];exact ih
   ·rw [if_neg (by simp [h])];exact .inr ⟨c,l,rfl,h⟩
theorem zeros_reverse (k:Nat):(zeros k).reverse=zeros k:=by simp [zeros]
theorem trimR_split (l:List UInt8):∃k,l=Lib.trimRightB l 48++zeros k:=by
 obtain ⟨k,hk⟩:=dropWhile_split l.reverse;refine ⟨k,?_⟩;have:=congrArg List.reverse hk;rw [List.reverse_reverse,List.reverse_append,zeros_reverse] at this;exact this
theorem trimR_last (l:List UInt8):Lib.trimRightB l 48= []∨∃r c,Lib.trimRightB l 48=r++ [c]/\c≠48:=by
 unfold Lib.trimRightB;rcases dropWhile_head l.reverse with h | ⟨c,r,h,hc⟩
 ·left;rw [h];rfl
 ·right;exact ⟨r.reverse,c,by rw [h];simp,hc⟩
theorem trims (l:List UInt8) (hd:Digs l):Core (Lib.trimRightB (Lib.trimLeftB l 48) 48)/\
 valD l=valD (Lib.trimRightB (Lib.trimLeftB l 48) 48) * 10 ^ ((Lib.trimLeftB l 48).length - (Lib.trimRightB (Lib.trimLeftB l 48) 48).length)/\
 (Lib.trimRightB (Lib.trimLeftB l 48) 48).length<=(Lib.trimLeftB l 48).length:=by
 obtain ⟨k,hk⟩:=dropWhile_split l;have hA:Lib.trimLeftB l 48=l.dropWhile (·==48):=rfl;rw [<-hA] at hk;have hh:=dropWhile_head l;rw [<-hA] at hh;generalize Lib.trimLeftB l 48=A at *;obtain ⟨j,hj⟩:=trimR_split A;have hl:=trimR_last A;have hdA:Digs A:=by rw [hk] at hd;exact digs_dropL hd
 have hdF:=trimr_digs hdA
 have hlen:A.length=(Lib.trimRightB A 48).length+j:=by
  have:=congrArg List.length hj
  rwa [List.length_append,zeros_length] at this
 refine ⟨⟨hdF,?_⟩,?_,by omega⟩
 ·rcases hl with hl | hl
  ·exact .inl hl
  ·by_cases hF:Lib.trimRightB A 48= []
   ·exact .inl hF
   ·refine .inr ⟨?_,hl⟩
    cases hF2:Lib.trimRightB A 48 with
    | nil=>exact absurd hF2 hF
    | cons c r=>
      refine ⟨c,r,rfl,?_⟩;rcases hh with hh | ⟨c',r',hh,hc'⟩
      ·rw [hh] at hF2;simp [Lib.trimRightB] at hF2
      ·rw [hF2,hh] at hj;simp at hj;rw [<-hj.1];exact hc'
 ·rw [hk,valD_zeros_append,hlen,Nat.add_sub_cancel_left]
  conv=>lhs;rw [hj]
  rw [valD_append_zeros]
theorem sgn_mul (b:Bool) (x:Int) (k:Nat):sgn b (x * 10 ^ k)=sgn b x * 10 ^ k:=by
 unfold sgn;split
 ·rw [Int.neg_mul]
 ·rfl
theorem sgn_zero (b:Bool):sgn b 0=0:=by unfold sgn;split <;> rfl
theorem mk_out {q e:Int} (h0:q % 10≠0) (h:e < -9∨9 < e):mk q e=(0,0,false):=by
 unfold mk;rw [if_neg (by omega),strip_stop (.inr h0),if_neg];simp only
 omega
theorem mk_big {q e:Int} (h0:q % 10≠0) (h:q < -p15∨p15 < q):mk q e=(0,0,false):=by
 unfold mk;rw [if_neg (by omega),strip_stop (.inr h0),if_neg];simp only
 omega
theorem sgn_mod {b:Bool} {n:Nat} (h:n % 10≠0):sgn b (n:Int) % 10≠0:=by unfold sgn;split <;> omega
def valS (o:Option Numeral):Int×Int×Bool:=
 match o with
 | none=>(0,0,false)
 | some (b,W,Fr,E)=>mk (sgn b (valD (W++Fr))) (E - Fr.length)
def parseS (l:List UInt8):Int×Int×Bool:=if 400 < l.length then (0,0,false) else valS (splitS l)
theorem mk_clamp {b:Bool} {F:List UInt8} (hF:Core F) {E E' x:Int} {c:Int} (hc:900<=c) (hE:E'=E∨(c<=E'/\c<=E)∨(E'<= -c/\E<= -c)) (hx0: -800<=x) (hx1:x<=800):
 mk (sgn b (valD F)) (E'+x)=mk (sgn b (valD F)) (E+x):=by
 rcases hE with rfl | hE
 ·rfl
 ·by_cases h:F= []
  ·subst h;rw [show ((valD []:Nat):Int)=0 from rfl,sgn_zero,mk_zero,mk_zero]
  ·have:=(core_val hF h).2;rw [mk_out (sgn_mod this) (by omega),mk_out (sgn_mod this) (by omega)]
theorem parts_val (b:Bool) (W Fr:List UInt8) (E:Int) (hd:Digs (W++Fr)) (hl:W.length+Fr.length<=400):partsS (some (b,W,Fr,E))=valS (some (b,W,Fr,E)):=by
 unfold partsS valS formS;obtain ⟨hc,hv,hle⟩:=trims (W++Fr) hd;have hAl:=triml_len (W++Fr);simp only;rw [hv];generalize Lib.trimLeftB (W++Fr) 48=A at *;generalize Lib.trimRightB A 48=F at *;rw [Int.natCast_mul,Int.natCast_pow,show ((10:Nat):Int)=10 from rfl,sgn_mul,mk_pow];rw [List.length_append] at hAl
 by_cases h18:18 < F.length
 ·rw [if_pos h18];have hF:F≠ []:=by intro e;rw [e] at h18;simp at h18
  obtain ⟨h1,h2⟩:=core_val hc hF;have h3:10 ^ 18<=valD F:=Nat.le_trans (Nat.pow_le_pow_right (by decide) (by omega)) h1;rw [mk_big (sgn_mod h2)];unfold sgn p15
  split <;> omega
 ·rw [if_neg h18];have:=mk_clamp (b:=b) hc (E:=E) (E':=clampE E) (x:=(A.length:Int) - F.length - Fr.length) (c:=1000) (by omega) (by unfold clampE;omega) (by omega) (by omega);rw [show clampE E - (Fr.length:Int)+A.length - F.length=clampE E+((A.length:Int) - F.length - Fr.length) by omega,this]
  congr 1
  omega
theorem parse_val (l:List UInt8) (h:l.length<=400):partsS (splitS l)=parseS l:=by
 unfold parseS;rw [if_neg (by omega)]
 cases hs:splitS l with
 | none=>rfl
 | some p=>
   obtain ⟨b,W,Fr,E⟩:=p;obtain ⟨d1,d2,d3⟩:=split_parts hs;exact parts_val b W Fr E (digs_append d1 d2) (by omega)
open Go.RowKit in
theorem parse_any (l:List UInt8) (w:World) (hl:l.length<=9223372036854775807):
 Calls Tryz.prog 162 #[.string ⟨l.toArray⟩] w (Ret (mkV (parseS l)) w):=by
 by_cases h:l.length<=400
 ·rw [<-parse_val l h];exact parse_core l w _ h rfl
 ·have:parseS l=(0,0,false):=by unfold parseS;rw [if_pos (by omega)]
  rw [this];have hs:(⟨l.toArray⟩:ByteArray).size=l.length:=List.size_toArray;exact parse_long _ w (by omega) (by unfold maxLen;omega)
end Go.Proofs.YtclghelocglnlaaGreatDoor.Dec
namespace Go.Proofs.YtclghelocglnlaaGreatDoor.Dec
def sg (b:Bool):List UInt8:=if b=true then [45] else []
def NonDig (t:List UInt8):Prop:=∀x r,t=x::r->isDig x=false
theorem nonDig_nil:NonDig []:=fun _ _ h=>by cases h
theorem nonDig_cons {x:UInt8} {r:List UInt8} (h:isDig x=false):NonDig (x::r):=fun _ _ e=>by cases e;exact h
theorem heads {W t:List UInt8} (hW:Digs W) (ht:NonDig t):headD (W++t)=W/\restD (W++t)=t:=by
 induction W with
 | nil=>
   cases t with
   | nil=>exact ⟨rfl,rfl⟩
   | cons x r=>
     have:=ht x r rfl;unfold headD restD;simp [this]
 | cons c W ih=>
   have hc:=hW c (by simp);obtain ⟨h1,h2⟩:=ih (fun x hx=>hW x (by simp [hx]));unfold headD restD at *;simp only [List.cons_append,List.takeWhile_cons,List.dropWhile_cons,hc,if_true];exact ⟨by rw [h1],h2⟩
theorem cut_sg {b:Bool} {W:List UInt8} (t:List UInt8) (hW:Digs W) (hne:W≠ []):pre (sg b++(W++t)) 45=b/\cutp (sg b++(W++t)) 45=W++t:=by
 cases b with
 | true=>exact ⟨rfl,rfl⟩
 | false=>
   cases W with
   | nil=>exact absurd rfl hne
   | cons c W=>
     have hc:=dig_le (hW c (by simp))
     have h:(c==45)=false:=by
      rw [beq_eq_false_iff_ne];intro e;rw [e] at hc;exact absurd hc.1 (by decide)
     have hp:pre (sg false++(c::W++t)) 45=false:=h;exact ⟨hp,by unfold cutp;rw [hp];rfl⟩
theorem good_ne {W:List UInt8} (h:badW W=false):W≠ []:=by
 rintro rfl;cases h
theorem split_none {b:Bool} {W t:List UInt8} (hW:Digs W) (hg:badW W=false) (ht:NonDig t) (hp:pre t 46=false):splitS (sg b++(W++t))=tailS b W [] t:=by
 obtain ⟨h1,h2⟩:=cut_sg (b:=b) t hW (good_ne hg);obtain ⟨h3,h4⟩:=heads hW ht;unfold splitS;simp only [h1,h2,h3,h4,hg,hp,Bool.false_eq_true,if_false];have:cutp t 46=t:=by unfold cutp;rw [hp];rfl
 rw [this]
theorem split_some {b:Bool} {W Fr t:List UInt8} (hW:Digs W) (hg:badW W=false) (hF:Digs Fr) (hne:Fr≠ []) (ht:NonDig t):splitS (sg b++(W++46::(Fr++t)))=tailS b W Fr t:=by
 obtain ⟨h1,h2⟩:=cut_sg (b:=b) (46::(Fr++t)) hW (good_ne hg);obtain ⟨h3,h4⟩:=heads hW (nonDig_cons (x:=46) (r:=Fr++t) (by decide));obtain ⟨h5,h6⟩:=heads hF ht;have hp:pre (46::(Fr++t)) 46=true:=rfl;have hc:cutp (46::(Fr++t)) 46=Fr++t:=rfl;have he:Fr.isEmpty=false:=by cases Fr with | nil=>exact absurd rfl hne | cons=>rfl
 unfold splitS;simp only [h1,h2,h3,h4,hg,hp,hc,h5,h6,he,Bool.false_eq_true,if_false,if_true]
theorem decDigits_digs (u:Nat):Digs (Lib.decDigits u):=by
 induction u using Nat.strongRecOn with
 | _ u ih=>
   have one:∀v,v < 10->isDig (UInt8.ofNat (48+v))=true:=by
    intro v hv;unfold isDig;have:(UInt8.ofNat (48+v)).toNat=48+v:=(by simp;omega);rw [this];simp;omega
   rw [Lib.decDigits]
   split
   ·rename_i h;intro c hc;rw [List.mem_singleton.1 hc];exact one u h
   ·exact digs_append (ih (u / 10) (by omega)) (fun c hc=>by rw [List.mem_singleton.1 hc];exact one _ (by omega))
theorem dig_val (v:Nat) (h:v < 10):(UInt8.ofNat (48+v)).toNat - 48=v:=by
 have:(UInt8.ofNat (48+v)).toNat=48+v:=by simp;omega
 omega
theorem decDigits_val (u:Nat):valD (Lib.decDigits u)=u:=by
 induction u using Nat.strongRecOn with
 | _ u ih=>
   rw [Lib.decDigits]
   split
   ·rename_i h;rw [valD_cons,dig_val u h];simp [valD]
   ·rename_i h;rw [valD_snoc,ih (u / 10) (by omega),dig_val _ (by omega)]
    omega
theorem decDigits_head (u:Nat) (h:u≠0):∃c r,Lib.decDigits u=c::r/\c≠48:=by
 induction u using Nat.strongRecOn with
 | _ u ih=>
   rw [Lib.decDigits]
   split
   ·rename_i hl;refine ⟨_,[],rfl,?_⟩;intro e;have:=dig_val u hl;rw [e] at this;exact h this.symm
   ·rename_i hl;obtain ⟨c,r,h1,h2⟩:=ih (u / 10) (by omega) (by omega);exact ⟨c,r++ [UInt8.ofNat (48+u % 10)],by rw [h1];rfl,h2⟩
theorem decDigits_last (u:Nat) (h:u % 10≠0):∃r c,Lib.decDigits u=r++ [c]/\c≠48:=by
 have hne:∀v,v < 10->v≠0->UInt8.ofNat (48+v)≠48:=by
  intro v hv h0 e;have:=dig_val v hv;rw [e] at this;exact h0 this.symm
 rw [Lib.decDigits]
 split
 ·rename_i hl;exact ⟨[],_,rfl,hne u hl (by omega)⟩
 ·exact ⟨_,_,rfl,hne _ (by omega) h⟩
theorem good_of_head {W:List UInt8} (h:∃c r,W=c::r/\c≠48):badW W=false:=by
 obtain ⟨c,r,rfl,hc⟩:=h;unfold badW pre;simp [hc]
def ptl (Fr:List UInt8):List UInt8:=if Fr= [] then [] else 46::Fr
structure Parts (m e:Int) (b:Bool) (W Fr:List UInt8):Prop where
 text:printS m e=sg b++(W++ptl Fr)
 good:badW W=false
 dW:Digs W
 dF:Digs Fr
 val:∀j:Int,mk (sgn b (valD (W++Fr))) (j - Fr.length)=mk m (e+j)
 len:W.length+Fr.length<=30
 last:Fr= []∨∃r c,Fr=r++ [c]/\c≠48
theorem sgn_abs (m:Int):sgn (decide (m < 0)) (m.natAbs:Int)=m:=by
 unfold sgn
 by_cases h:m < 0
 ·rw [if_pos (by simp [h])];omega
 ·rw [if_neg (by simp [h])];omega
theorem digs_zeros (k:Nat):Digs (zeros k):=fun c hc=>by
 have:=List.eq_of_mem_replicate hc;subst this;decide
theorem print_parts {m e:Int} (h:rightB m e=true):∃W Fr,Parts m e (decide (m < 0)) W Fr:=by
 have hb:=rightB_bounds h;have hlen:=decDigits_le hb.1 hb.2.1
 have htext:printS m e=if 0<=e then Lib.itoa m++zeros e.toNat else (if m < 0 then [45] else [])++((figsL m e).take ((figsL m e).length - (-e).toNat)++46::(figsL m e).drop ((figsL m e).length - (-e).toNat)):=by
  unfold printS;rw [if_pos h]
 have hsg:sg (decide (m < 0))=if m < 0 then [45] else []:=by unfold sg;simp
 by_cases he:0<=e
 ·refine ⟨Lib.decDigits m.natAbs++zeros e.toNat,[],?_⟩;rw [if_pos he] at htext;refine ⟨?_,?_,digs_append (decDigits_digs _) (digs_zeros _),digs_nil,fun j=> ?_,?_,.inl rfl⟩
  ·rw [htext,hsg,show ptl []= [] from rfl,List.append_nil,<-List.append_assoc]
   congr 1
   unfold Lib.itoa
   by_cases hm:m < 0
   ·rw [if_pos hm,if_pos hm];rfl
   ·rw [if_neg hm,if_neg hm,show m.toNat=m.natAbs by omega];rfl
  ·by_cases hm:m=0
   ·have he0:e=0:=by
     unfold rightB at h;simp only [decide_eq_true_eq] at h;omega
    subst hm he0;have:Lib.decDigits (0:Int).natAbs= [48]:=(by rw [Lib.decDigits];rfl);rw [this];rfl
   ·obtain ⟨c,r,h1,h2⟩:=decDigits_head m.natAbs (by omega);exact good_of_head ⟨c,r++zeros e.toNat,by rw [h1];rfl,h2⟩
  ·rw [List.append_nil,valD_append_zeros,decDigits_val,Int.natCast_mul,Int.natCast_pow,show ((10:Nat):Int)=10 from rfl,sgn_mul,sgn_abs,mk_pow]
   congr 1
   simp
   omega
  ·simp [zeros_length];omega
 ·rw [if_neg he] at htext
  have hm:m≠0:=by
   unfold rightB at h;simp only [decide_eq_true_eq] at h;omega
  have hm10:m % 10≠0:=by
   unfold rightB at h;simp only [decide_eq_true_eq] at h;omega
  have hDn:1<=(Lib.decDigits m.natAbs).length:=by rw [Lib.decDigits_length];exact Lib.nDigits_pos _
  obtain ⟨c0,r0,hc0,hc48⟩:=decDigits_head m.natAbs (by omega);obtain ⟨r1,c1,hc1,hc148⟩:=decDigits_last m.natAbs (by omega)
  have hFl:(figsL m e).length=(1 - e - (Lib.decDigits m.natAbs).length).toNat+(Lib.decDigits m.natAbs).length:=by
   unfold figsL;rw [List.length_append,zeros_length]
  have hFv:valD (figsL m e)=m.natAbs:=by unfold figsL;rw [valD_zeros_append,decDigits_val]
  have hFd:Digs (figsL m e):=by unfold figsL;exact digs_append (digs_zeros _) (decDigits_digs _)
  have hFlast:figsL m e=(zeros (1 - e - (Lib.decDigits m.natAbs).length).toNat++r1)++ [c1]:=by unfold figsL;rw [hc1];simp
  have hFhead:(figsL m e).length=(1 - e).toNat∨∃c r,figsL m e=c::r/\c≠48:=by
   by_cases hz:(1 - e - ((Lib.decDigits m.natAbs).length:Int)).toNat=0
   ·right
    refine ⟨c0,r0,?_,hc48⟩;unfold figsL;rw [hz,hc0];rfl
   ·left;rw [hFl];omega
  generalize figsL m e=F at *;have hp:(-e).toNat+1<=F.length:=by rw [hFl];omega
  refine ⟨F.take (F.length - (-e).toNat),F.drop (F.length - (-e).toNat),?_⟩;have hdl:(F.drop (F.length - (-e).toNat)).length=(-e).toNat:=by rw [List.length_drop];omega
  have hdne:F.drop (F.length - (-e).toNat)≠ []:=by
   intro h0;rw [h0] at hdl;simp at hdl;omega
  refine ⟨?_,?_,fun c hc=>hFd c (List.mem_of_mem_take hc),fun c hc=>hFd c (List.mem_of_mem_drop hc),fun j=> ?_,?_,.inr ?_⟩
  ·rw [htext,hsg];unfold ptl;rw [if_neg hdne]
  ·rcases hFhead with hh | ⟨c,r,hh,hc⟩
   ·have:(F.take (F.length - (-e).toNat)).length=1:=(by rw [List.length_take];omega);unfold badW;rw [this]
    cases hq:F.take (F.length - (-e).toNat) with
    | nil=>rw [hq] at this;cases this
    | cons=>rfl
   ·apply good_of_head
    refine ⟨c,r.take (F.length - (-e).toNat - 1),?_,hc⟩;rw [hh];have:1<=(c::r).length - (-e).toNat:=(by rw [<-hh];omega);generalize (c::r).length - (-e).toNat=p at *
    cases p with
    | zero=>omega
    | succ p=>rfl
  ·rw [List.take_append_drop,hFv,sgn_abs,hdl]
   congr 1
   omega
  ·rw [List.length_take,List.length_drop];omega
  ·have:(-e).toNat≠0:=by omega
   refine ⟨((zeros (1 - e - (Lib.decDigits m.natAbs).length).toNat++r1)).drop (F.length - (-e).toNat),c1,?_,hc148⟩
   have h2:F.length - (-e).toNat<=(zeros (1 - e - (Lib.decDigits m.natAbs).length).toNat++r1).length:=by
    have:=congrArg List.length hFlast;rw [List.length_append] at this;simp only [List.length_cons,List.length_nil] at this
    omega
   conv=>lhs;rw [hFlast]
   rw [List.drop_append_of_le_length]
   ·rw [<-hFlast]
   ·rw [<-hFlast];exact h2
theorem parse_tail {m e:Int} {b:Bool} {W Fr t:List UInt8} (h:Parts m e b W Fr) (ht:NonDig t) (hp:pre t 46=false) (hl:t.length<=100):
 parseS (printS m e++t)=match (if t.isEmpty=true then some 0 else powS t) with | none=>(0,0,false) | some E=>mk m (e+E):=by
 have hlen:=h.len;have hbs:(sg b).length<=1:=by unfold sg;split <;> simp
 have tl:∀Fr',Fr'=Fr->valS (tailS b W Fr' t)=match (if t.isEmpty=true then some 0 else powS t) with | none=>(0,0,false) | some E=>mk m (e+E):=by
  rintro _ rfl;unfold tailS
  split
  ·exact h.val 0
  ·cases powS t with
   | none=>rfl
   | some E=>exact h.val E
 rw [h.text];unfold ptl
 by_cases hF:Fr= []
 ·rw [if_pos hF,List.append_nil,List.append_assoc];unfold parseS;rw [if_neg (by simp only [List.length_append];omega),split_none h.dW h.good ht hp];exact tl [] hF.symm
 ·rw [if_neg hF];rw [show sg b++(W++46::Fr)++t=sg b++(W++46::(Fr++t)) by simp];unfold parseS;rw [if_neg (by simp only [List.length_append,List.length_cons];omega),split_some h.dW h.good h.dF hF ht];exact tl Fr rfl
theorem parse_print {m e:Int} (h:rightB m e=true):parseS (printS m e)=(m,e,true):=by
 obtain ⟨W,Fr,hp⟩:=print_parts h;have:=parse_tail hp nonDig_nil rfl (by simp);rw [List.append_nil] at this;rw [this];show mk m (e+0)=_;rw [Int.add_zero];exact mk_right m e h
end Go.Proofs.YtclghelocglnlaaGreatDoor.Dec
namespace Go.Proofs.YtclghelocglnlaaGreatDoor.Dec
open Go.RowKit Go.Sort
structure DecAt (w:World) (b:Nat) (m e:Int):Prop where
 c0:w.cell? ⟨b,0,none⟩=some (.int .i64 m)
 c1:w.cell? ⟨b,1,none⟩=some (.int .i64 e)
 fz:∀o,w.frozen? ⟨b,o,none⟩=false
 lt:b < w.heap.size
theorem DecAt.below {w w':World} {b:Nat} {m e:Int} (h:DecAt w b m e) (hb:Below w.heap.size w w'):DecAt w' b m e:=
 ⟨by rw [(bcell hb).1 _ _ h.lt];exact h.c0,by rw [(bcell hb).1 _ _ h.lt];exact h.c1,fun o=>by rw [(bcell hb).2 _ _ h.lt];exact h.fz o,Nat.lt_of_lt_of_le h.lt hb.size⟩
theorem DecAt.alloc {w:World} {b:Nat} {m e:Int} (h:DecAt w b m e) (o:Obj):DecAt (w.alloc o) b m e:=h.below ((Below.refl _ _).alloc (Nat.le_refl _) o)
theorem DecAt.new (w:World) (m e:Int) (t:TypeId):DecAt (w.alloc (.cells #[.int .i64 m,.int .i64 e] t)) w.heap.size m e:=
 ⟨by simp,by simp,fun o=>by simp,by simp⟩
end Go.Proofs.YtclghelocglnlaaGreatDoor.Dec
namespace Go.Proofs.YtclghelocglnlaaGreatDoor.Dec
open Go.RowKit Go.Sort
theorem print_len {m e:Int} (h:rightB m e=true):(printS m e).length<=40/\printS m e≠ []:=by
 obtain ⟨W,Fr,hp⟩:=print_parts h;have h1:=hp.len;have h2:=good_ne hp.good;rw [hp.text]
 constructor
 ·unfold sg ptl
  split <;> split <;> simp <;> omega
 ·intro h0;simp at h0;exact h2 h0.2.1
end Go.Proofs.YtclghelocglnlaaGreatDoor.Dec
