import Derived.Test.YtclghelocglnlaaGreatDoorDecB
import Derived.Test.YtclghelocglnlaaGreatDoorQuoA
set_option maxHeartbeats 0
set_option maxRecDepth 100000
set_option linter.all false
namespace Go.Proofs.YtclghelocglnlaaGreatDoor.Lex
def blankB (c:UInt8):Bool:=([32,9,10,13]:List UInt8).contains c
def signB (c:UInt8):Bool:=([123,125,91,93,44,58]:List UInt8).contains c
def numB (c:UInt8):Bool:=([48,49,50,51,52,53,54,55,56,57,43,45,46,101,69]:List UInt8).contains c
def digB (c:UInt8):Bool:=decide (48<=c.toNat) && decide (c.toNat<=57)
def letB (c:UInt8):Bool:=decide (97<=c.toNat) && decide (c.toNat<=122)
def spanN (p:UInt8->Bool) (l:List UInt8):Nat:=(l.takeWhile p).length
theorem spanN_le (p:UInt8->Bool) (l:List UInt8):spanN p l<=l.length:=by
 unfold spanN;exact (List.takeWhile_sublist p).length_le
theorem spanN_yes {p:UInt8->Bool} {c:UInt8} (h:p c=true) (l:List UInt8):spanN p (c::l)=1+spanN p l:=by
 unfold spanN;rw [List.takeWhile_cons_of_pos h];simp;omega
theorem spanN_no {p:UInt8->Bool} {c:UInt8} (h:p c=false) (l:List UInt8):spanN p (c::l)=0:=by
 unfold spanN;rw [List.takeWhile_cons_of_neg (by simp [h])];rfl
theorem take_spanN (p:UInt8->Bool) (l:List UInt8):l.take (spanN p l)=l.takeWhile p:=by
 unfold spanN;have h:=List.takeWhile_append_dropWhile (p:=p) (l:=l);have h2:(List.takeWhile p l++List.dropWhile p l).take (List.takeWhile p l).length=List.takeWhile p l:=List.take_left
 rwa [h] at h2
structure Tok where
 k:Nat
 t:List UInt8
 m:Int
 e:Int
 p:Nat
def tok0:Tok:=⟨0,[],0,0,0⟩
def Tok.at_ (x:Tok) (n:Nat):Tok:={ x with p:=n }
def cellsT (x:Tok):List Value:= [.int .i64 x.k,.string ⟨x.t.toArray⟩,.int .i64 x.m,.int .i64 x.e,.int .i64 x.p]
def tokV (x:Tok):Value:= .agg #[.int .i64 x.k,.string ⟨x.t.toArray⟩,.int .i64 x.m,.int .i64 x.e,.int .i64 x.p]
def textL (l:List UInt8):Tok×Nat:=if (Quo.unqS l).2.2=true then (⟨2,(Quo.unqS l).1,0,0,0⟩,(Quo.unqS l).2.1) else (tok0,0)
def numberL (l:List UInt8):Tok×Nat:=
 if (Dec.parseS (l.takeWhile numB)).2.2=true then (⟨3,l.takeWhile numB,(Dec.parseS (l.takeWhile numB)).1,(Dec.parseS (l.takeWhile numB)).2.1,0⟩,spanN numB l) else (tok0,0)
def threeB (l:List UInt8):Bool:=l== [116,114,117,101] || l== [102,97,108,115,101] || l== [110,117,108,108]
def wordL (l:List UInt8):Tok×Nat:=if threeB (l.takeWhile letB)=true then (⟨4,l.takeWhile letB,0,0,0⟩,spanN letB l) else (tok0,0)
def firstL (l:List UInt8):Tok×Nat:=
 match l with
 | []=>(tok0,0)
 | c::r=>if signB c=true then (⟨1,[c],0,0,0⟩,1) else if c.toNat=34 then textL (c::r) else if c.toNat=45∨digB c=true then numberL (c::r)
    else if letB c=true then wordL (c::r) else (tok0,0)
abbrev Res:=Sum Nat (List Tok)
def consR (x:Tok):Res->Res
 | .inl n=> .inl n
 | .inr l=> .inr (x::l)
def combR (acc:List Tok):Res->Res
 | .inl n=> .inl n
 | .inr l=> .inr (acc++l)
theorem combR_nil (r:Res):combR [] r=r:=by cases r <;> rfl
theorem combR_cons (acc:List Tok) (x:Tok) (r:Res):combR acc (consR x r)=combR (acc++ [x]) r:=by cases r <;> simp [combR,consR]
theorem combR_comb (a b:List Tok) (r:Res):combR a (combR b r)=combR (a++b) r:=by cases r <;> simp [combR]
theorem consR_comb (x:Tok) (r:Res):consR x r=combR [x] r:=by cases r <;> rfl
def scanL (l:List UInt8) (n:Nat):Res:=
 match l with
 | []=> .inr [⟨5,[],0,0,n⟩]
 | c::r=>
   if blankB c=true then scanL r (n+1)
   else if h:(firstL (c::r)).2=0 then .inl n
   else consR ((firstL (c::r)).1.at_ n) (scanL ((c::r).drop (firstL (c::r)).2) (n+(firstL (c::r)).2))
termination_by l.length
decreasing_by all_goals (simp only [List.length_drop,List.length_cons];omega)
theorem scanL_nil (n:Nat):scanL [] n= .inr [⟨5,[],0,0,n⟩]:=by rw [scanL]
theorem scanL_blank {c:UInt8} (h:blankB c=true) (r:List UInt8) (n:Nat):scanL (c::r) n=scanL r (n+1):=by rw [scanL,if_pos h]
theorem scanL_bad {l:List UInt8} (h0:l≠ []) (h:blankB (l.getD 0 0)=false) (h1:(firstL l).2=0) (n:Nat):scanL l n= .inl n:=by
 cases l with
 | nil=>exact absurd rfl h0
 | cons c r=>rw [scanL,if_neg (by simpa using h),dif_pos h1]
theorem scanL_tok {l:List UInt8} (h0:l≠ []) (h:blankB (l.getD 0 0)=false) (h1:(firstL l).2≠0) (n:Nat):
 scanL l n=consR ((firstL l).1.at_ n) (scanL (l.drop (firstL l).2) (n+(firstL l).2)):=by
 cases l with
 | nil=>exact absurd rfl h0
 | cons c r=>rw [scanL,if_neg (by simpa using h),dif_neg h1]
theorem scanL_span (l:List UInt8) (n:Nat):scanL l n=scanL (l.drop (spanN blankB l)) (n+spanN blankB l):=by
 induction l generalizing n with
 | nil=>rfl
 | cons c r ih=>
   cases h:blankB c with
   | true=>
     rw [scanL_blank h,ih,spanN_yes h,show (c::r).drop (1+spanN blankB r)=r.drop (spanN blankB r) by rw [Nat.add_comm];rfl]
     congr 1;omega
   | false=>rw [spanN_no h];rfl
theorem drop_span_head (p:UInt8->Bool) (l:List UInt8) (h:l.drop (spanN p l)≠ []):p ((l.drop (spanN p l)).getD 0 0)=false:=by
 induction l with
 | nil=>simp at h
 | cons c r ih=>
   cases hp:p c with
   | true=>rw [spanN_yes hp,Nat.add_comm] at h⊢;exact ih h
   | false=>rw [spanN_no hp];exact hp
def scanS (l:List UInt8):Res:=if 20000 < l.length then .inl 0 else scanL l 0
def toksR:Res->List Tok
 | .inl _=> []
 | .inr l=>l
def errR:Res->Int
 | .inl _=>30
 | .inr _=>0
def placeR:Res->Nat
 | .inl n=>n
 | .inr _=>0
theorem textL_le (l:List UInt8):(textL l).2<=l.length:=by
 unfold textL
 split
 ·rename_i h;unfold Quo.unqS at h⊢
  split at h
  ·rename_i h1;rw [if_pos h1] at *
   cases hu:Quo.unqB (l.drop 1) with
   | none=>rw [hu] at h;simp at h
   | some q=>
     obtain ⟨t,k⟩:=q;have:=(Quo.unq_some _ (l.drop 1) (Nat.le_refl _) t k hu).2.2;have hl:l≠ []:=(by rintro rfl;simp [Lib.hasPrefix] at h1);have:0 < l.length:=List.length_pos_iff.2 hl;simp only [List.length_drop] at *;show k+1<=l.length
     omega
  ·simp at h
 ·exact Nat.zero_le _
theorem firstL_le (l:List UInt8):(firstL l).2<=l.length:=by
 unfold firstL
 split
 ·simp
 ·rename_i c r
  split
  ·simp
  ·split
   ·exact textL_le _
   ·split
    ·unfold numberL;split
     ·exact spanN_le _ _
     ·exact Nat.zero_le _
    ·split
     ·unfold wordL;split
      ·exact spanN_le _ _
      ·exact Nat.zero_le _
     ·exact Nat.zero_le _
def Fin (l:List UInt8):Prop:=∀c r,l=c::r->numB c=false/\letB c=false
theorem fin_nil:Fin []:=fun _ _ h=>by cases h
theorem blank_facts {c:UInt8} (h:blankB c=true):numB c=false/\letB c=false:=by
 simp only [blankB,List.contains_eq_mem,decide_eq_true_eq,List.mem_cons,List.not_mem_nil,or_false] at h;rcases h with rfl | rfl | rfl | rfl <;> decide
theorem sign_facts {c:UInt8} (h:signB c=true):numB c=false/\letB c=false/\blankB c=false:=by
 simp only [signB,List.contains_eq_mem,decide_eq_true_eq,List.mem_cons,List.not_mem_nil,or_false] at h;rcases h with rfl | rfl | rfl | rfl | rfl | rfl <;> decide
theorem fin_blank {c:UInt8} (h:blankB c=true) (r:List UInt8):Fin (c::r):=fun _ _ e=>by cases e;exact blank_facts h
theorem fin_sign {c:UInt8} (h:signB c=true) (r:List UInt8):Fin (c::r):=fun _ _ e=>by cases e;exact ⟨(sign_facts h).1,(sign_facts h).2.1⟩
structure IsW (w:List UInt8) (x:Tok):Prop where
 ne:w≠ []
 nb:blankB (w.getD 0 0)=false
 first:∀rest,Fin rest->firstL (w++rest)=(x,w.length)
theorem getD_append0 {w:List UInt8} (h:w≠ []) (r:List UInt8):(w++r).getD 0 0=w.getD 0 0:=by
 cases w with
 | nil=>exact absurd rfl h
 | cons=>rfl
theorem scan_word {w:List UInt8} {x:Tok} (h:IsW w x) {rest:List UInt8} (hr:Fin rest) (n:Nat):scanL (w++rest) n=consR (x.at_ n) (scanL rest (n+w.length)):=by
 have hl:0 < w.length:=List.length_pos_iff.2 h.ne;rw [scanL_tok (by simp [h.ne]) (by rw [getD_append0 h.ne];exact h.nb) (by rw [h.first rest hr];simp only;omega),h.first rest hr];simp
theorem takeWhile_all {p:UInt8->Bool} {w rest:List UInt8} (hw:∀c∈w,p c=true) (hr:∀c r,rest=c::r->p c=false):(w++rest).takeWhile p=w:=by
 rw [List.takeWhile_append_of_pos hw]
 cases rest with
 | nil=>simp
 | cons c r=>rw [List.takeWhile_cons_of_neg (by simp [hr c r rfl])];simp
theorem isW_three {w:List UInt8} (h:threeB w=true):IsW w ⟨4,w,0,0,0⟩:=by
 have hw:w= [116,114,117,101]∨w= [102,97,108,115,101]∨w= [110,117,108,108]:=by
  simpa [threeB,or_assoc] using h
 have hl:∀c∈w,letB c=true:=by rcases hw with rfl | rfl | rfl <;> decide
 refine ⟨by rcases hw with rfl | rfl | rfl <;> simp,by rcases hw with rfl | rfl | rfl <;> decide,fun rest hr=> ?_⟩;have ht:(w++rest).takeWhile letB=w:=takeWhile_all hl (fun c r e=>(hr c r e).2)
 have hf:firstL (w++rest)=wordL (w++rest):=by
  rcases hw with rfl | rfl | rfl <;> simp [firstL,signB,digB,letB]
 rw [hf,wordL,spanN,ht,if_pos h]
theorem isW_quote {rs:List Nat} (h:∀r∈rs,Quo.vr r):IsW (Quo.quoteL (Quo.flat rs)) ⟨2,Quo.flat rs,0,0,0⟩:=by
 have hq:Quo.quoteL (Quo.flat rs)=34::(Quo.bodyQ rs++ [34]):=by unfold Quo.quoteL;rw [Quo.qBody_flat' h]
 refine ⟨by rw [hq];simp,by rw [hq];exact (by decide:blankB 34=false),fun rest _=> ?_⟩
 have hu:Quo.unqS (Quo.quoteL (Quo.flat rs)++rest)=(Quo.flat rs,(Quo.bodyQ rs).length+2,true):=by
  unfold Quo.unqS;rw [hq,if_pos (by simp [Lib.hasPrefix]),show (34::(Quo.bodyQ rs++ [34])++rest:List UInt8).drop 1=Quo.bodyQ rs++34::rest from by simp,Quo.unq_body h]
 have hf:firstL (Quo.quoteL (Quo.flat rs)++rest)=textL (Quo.quoteL (Quo.flat rs)++rest):=by
  rw [hq];simp [firstL,signB]
 rw [hf,textL,hu,if_pos rfl];rw [hq];simp
theorem digs_num {l:List UInt8} (h:Dec.Digs l):∀c∈l,numB c=true:=by
 intro c hc;have h1:=h c hc;unfold Dec.isDig at h1;simp only [Bool.and_eq_true,decide_eq_true_eq] at h1
 have:c=48∨c=49∨c=50∨c=51∨c=52∨c=53∨c=54∨c=55∨c=56∨c=57:=by
  have e:∀n:Nat,n < 256->(c=UInt8.ofNat n↔c.toNat=n):=fun n hn=>⟨fun e=>by rw [e];simp;omega,fun e=>by rw [<-e];simp⟩
  have e0:=e 48 (by omega);have e1:=e 49 (by omega);have e2:=e 50 (by omega);have e3:=e 51 (by omega);have e4:=e 52 (by omega);have e5:=e 53 (by omega);have e6:=e 54 (by omega);have e7:=e 55 (by omega);have e8:=e 56 (by omega);have e9:=e 57 (by omega);simp only [show UInt8.ofNat 48=48 from rfl,show UInt8.ofNat 49=49 from rfl,show UInt8.ofNat 50=50 from rfl,show UInt8.ofNat 51=51 from rfl,show UInt8.ofNat 52=52 from rfl,show UInt8.ofNat 53=53 from rfl,show UInt8.ofNat 54=54 from rfl,show UInt8.ofNat 55=55 from rfl,show UInt8.ofNat 56=56 from rfl,show UInt8.ofNat 57=57 from rfl] at e0 e1 e2 e3 e4 e5 e6 e7 e8 e9;rw [e0,e1,e2,e3,e4,e5,e6,e7,e8,e9]
  omega
 rcases this with rfl | rfl | rfl | rfl | rfl | rfl | rfl | rfl | rfl | rfl <;> decide
theorem isDig_digB (c:UInt8):Dec.isDig c=digB c:=by
 unfold Dec.isDig digB;rw [Bool.eq_iff_iff];simp only [Bool.and_eq_true,decide_eq_true_eq]
 omega
theorem isW_num {m e:Int} (h:Dec.rightB m e=true):IsW (Dec.printS m e) ⟨3,Dec.printS m e,m,e,0⟩:=by
 obtain ⟨W,Fr,hp⟩:=Dec.print_parts h;have hpp:=Dec.parse_print h;have hne:=(Dec.print_len h).2;have hWne:W≠ []:=Dec.good_ne hp.good
 have hn:∀c∈Dec.printS m e,numB c=true:=by
  rw [hp.text];intro c hc;simp only [List.mem_append] at hc;rcases hc with hc | hc | hc
  ·unfold Dec.sg at hc;split at hc
   ·simp at hc;subst hc;decide
   ·simp at hc
  ·exact digs_num hp.dW c hc
  ·unfold Dec.ptl at hc;split at hc
   ·simp at hc
   ·simp at hc;rcases hc with rfl | hc
    ·decide
    ·exact digs_num hp.dF c hc
 have hh:∃c r,Dec.printS m e=c::r/\(c.toNat=45∨digB c=true):=by
  rw [hp.text];unfold Dec.sg
  split
  ·exact ⟨45,_,rfl,.inl (by decide)⟩
  ·cases W with
   | nil=>exact absurd rfl hWne
   | cons c r=>exact ⟨c,_,rfl,.inr (by rw [<-isDig_digB];exact hp.dW c (by simp))⟩
 obtain ⟨c,r,hcr,hc⟩:=hh
 have hc2:signB c=false/\c.toNat≠34/\blankB c=false:=by
  have hnc:=hn c (by rw [hcr];simp);simp only [numB,List.contains_eq_mem,decide_eq_true_eq,List.mem_cons,List.not_mem_nil,or_false] at hnc;rcases hnc with rfl | rfl | rfl | rfl | rfl | rfl | rfl | rfl | rfl | rfl | rfl | rfl | rfl | rfl | rfl <;> decide
 refine ⟨hne,by rw [hcr];exact hc2.2.2,fun rest hr=> ?_⟩;have ht:(Dec.printS m e++rest).takeWhile numB=Dec.printS m e:=takeWhile_all hn (fun c r e=>(hr c r e).1)
 have hf:firstL (Dec.printS m e++rest)=numberL (Dec.printS m e++rest):=by
  rw [hcr];simp only [List.cons_append,firstL];rw [if_neg (by simp [hc2.1]),if_neg hc2.2.1,if_pos hc]
 rw [hf,numberL,spanN,ht,hpp,if_pos rfl]
def wordsT (n:Nat):List (List UInt8×Tok)->List Tok×Nat
 | []=>([],n)
 | (w,x)::r=>(x.at_ n::(wordsT (n+w.length+1) r).1,(wordsT (n+w.length+1) r).2)
def wordsL (ws:List (List UInt8×Tok)):List UInt8:=ws.flatMap fun q=>q.1++ [32]
end Go.Proofs.YtclghelocglnlaaGreatDoor.Lex
