import Derived.Test.YtclghelocglnlaaGreatDoorJs
set_option maxHeartbeats 0
set_option maxRecDepth 100000
set_option linter.all false
namespace Go.Proofs.YtclghelocglnlaaGreatDoor.Js
open Lex
def EndL (l:List Tok):Prop:=∃l0 x,l=l0++ [x]/\x.k=5
theorem EndL.ne {l:List Tok} (h:EndL l):l≠ []:=by obtain ⟨l0,x,rfl,_⟩:=h;simp
theorem EndL.tail {x:Tok} {l:List Tok} (h:EndL (x::l)) (hx:x.k≠5):EndL l:=by
 obtain ⟨l0,y,he,hy⟩:=h
 cases l0 with
 | nil=>simp at he;rw [he.1] at hx;exact absurd hy hx
 | cons z r=>simp at he;exact ⟨r,y,he.2,hy⟩
theorem EndL.cons {l:List Tok} (h:EndL l) (x:Tok):EndL (x::l):=by obtain ⟨l0,y,rfl,hy⟩:=h;exact ⟨x::l0,y,rfl,hy⟩
theorem sgB_k {x:Tok} {c:UInt8} (h:sgB x c=true):x.k=1/\x.t= [c]:=by unfold sgB at h;simpa using h
theorem begun_k {x:Tok} (h:(begunS x).k≠0):x.k≠5:=by
 intro h5
 apply h
 unfold begunS;rw [if_neg (by omega),if_neg (by omega),if_neg (by omega)];rfl
def Good (f:List Tok->R):Prop:=∀l,EndL l->EndL (f l).l/\(f l).l <:+l/\((f l).er=0->(f l).l.length < l.length)
theorem more_good {close:UInt8} {fin:J} {next:List Tok->R} {l:List Tok} (h:EndL l) (hn:∀l',EndL l'->l' <:+l->l'.length < l.length->EndL (next l').l/\(next l').l <:+l'):
 EndL (moreS close fin next l).l/\(moreS close fin next l).l <:+l:=by
 cases l with
 | nil=>exact absurd rfl h.ne
 | cons y l'=>
   unfold moreS;simp only
   split
   ·rename_i hy;exact ⟨h.tail (by rw [(sgB_k hy).1];decide),List.suffix_cons _ _⟩
   ·split
    ·rename_i hy;obtain ⟨a,b⟩:=hn l' (h.tail (by rw [(sgB_k hy).1];decide)) (List.suffix_cons _ _) (by simp);exact ⟨a,b.trans (List.suffix_cons _ _)⟩
    ·exact ⟨h,List.suffix_refl _⟩
theorem arr_good {f:List Tok->R} (hf:Good f):∀(n:Nat) (acc:List J) (l:List Tok),EndL l->EndL (arrL f n acc l).l/\(arrL f n acc l).l <:+l
 | 0,acc,l,h=>⟨h,List.suffix_refl _⟩
 | n+1,acc,l,h=>by
   obtain ⟨a,b,c⟩:=hf l h;rw [arrL]
   split
   ·have:=more_good (close:=93) (fin:= .mk 6 0 0 [] [] (acc++ [(f l).j])) (next:=arrL f n (acc++ [(f l).j])) a (fun l' h1 _ _=>arr_good hf n _ l' h1);exact ⟨this.1,this.2.trans b⟩
   ·exact ⟨a,b⟩
theorem name_good {seen:List (List UInt8)} {l:List Tok} (h:EndL l):EndL (nameS seen l).2.2/\(nameS seen l).2.2 <:+l:=by
 cases l with
 | nil=>exact absurd rfl h.ne
 | cons x l1=>
   unfold nameS;simp only
   split
   ·rename_i hx
    split
    ·exact ⟨h,List.suffix_refl _⟩
    ·have h1:=h.tail (by omega)
     cases l1 with
     | nil=>exact absurd rfl h1.ne
     | cons y l2=>
       simp only
       split
       ·rename_i hy;exact ⟨h1.tail (by rw [(sgB_k hy).1];decide),(List.suffix_cons _ _).trans (List.suffix_cons _ _)⟩
       ·exact ⟨h1,List.suffix_cons _ _⟩
   ·exact ⟨h,List.suffix_refl _⟩
theorem obj_good {f:List Tok->R} (hf:Good f):∀(n:Nat) (ns:List (List UInt8)) (acc:List J) (l:List Tok),EndL l->EndL (objL f n ns acc l).l/\(objL f n ns acc l).l <:+l
 | 0,ns,acc,l,h=>⟨h,List.suffix_refl _⟩
 | n+1,ns,acc,l,h=>by
   obtain ⟨n1,n2⟩:=name_good (seen:=ns) h;obtain ⟨a,b,c⟩:=hf _ n1;rw [objL]
   split
   ·split
    ·have:=more_good (close:=125) (fin:= .mk 7 0 0 [] (ns++ [(nameS ns l).2.1]) (acc++ [(f (nameS ns l).2.2).j])) (next:=objL f n (ns++ [(nameS ns l).2.1]) (acc++ [(f (nameS ns l).2.2).j])) a (fun l' h1 _ _=>obj_good hf n _ _ l' h1);exact ⟨this.1,this.2.trans (b.trans n2)⟩
    ·exact ⟨a,b.trans n2⟩
   ·exact ⟨n1,n2⟩
theorem arrS_good {f:List Tok->R} (hf:Good f) {l:List Tok} (h:EndL l):EndL (arrS f l).l/\(arrS f l).l <:+l:=by
 cases l with
 | nil=>exact absurd rfl h.ne
 | cons y l'=>
   unfold arrS;simp only
   split
   ·rename_i hy;exact ⟨h.tail (by rw [(sgB_k hy).1];decide),List.suffix_cons _ _⟩
   ·exact arr_good hf _ _ _ h
theorem objS_good {f:List Tok->R} (hf:Good f) {l:List Tok} (h:EndL l):EndL (objS f l).l/\(objS f l).l <:+l:=by
 cases l with
 | nil=>exact absurd rfl h.ne
 | cons y l'=>
   unfold objS;simp only
   split
   ·rename_i hy;exact ⟨h.tail (by rw [(sgB_k hy).1];decide),List.suffix_cons _ _⟩
   ·exact obj_good hf _ _ _ _ h
theorem val_good:∀n,Good (valS n)
 | 0,l,h=>by
   cases l with
   | nil=>exact absurd rfl h.ne
   | cons x l=>
     rw [valS];refine ⟨h,List.suffix_refl _,fun h0=> ?_⟩;simp only at h0
     split at h0 <;> simp at h0
 | n+1,l,h=>by
   cases l with
   | nil=>exact absurd rfl h.ne
   | cons x l=>
     rw [valS]
     split
     ·exact ⟨h,List.suffix_refl _,fun h0=>absurd (show (40:Int)=0 from h0) (by decide)⟩
     ·rename_i hk;have ht:=h.tail (begun_k hk)
      split
      ·obtain ⟨a,b⟩:=arrS_good (val_good n) ht;exact ⟨a,b.trans (List.suffix_cons _ _),fun _=>Nat.lt_of_le_of_lt b.length_le (by simp)⟩
      ·split
       ·obtain ⟨a,b⟩:=objS_good (val_good n) ht;exact ⟨a,b.trans (List.suffix_cons _ _),fun _=>Nat.lt_of_le_of_lt b.length_le (by simp)⟩
       ·exact ⟨ht,List.suffix_cons _ _,fun _=>by simp⟩
theorem comb_inr {x:Tok} {r:Res} {ts:List Tok} (h:consR x r= .inr ts):∃l,r= .inr l/\ts=x::l:=by
 cases r with
 | inl n=>simp [consR] at h
 | inr l=>simp [consR] at h;exact ⟨l,rfl,h.symm⟩
theorem scan_ind {P:List UInt8->Nat->List Tok->Prop} (h0:∀n,P [] n [⟨5,[],0,0,n⟩]) (h1:∀c r n ts,blankB c=true->P r (n+1) ts->P (c::r) n ts)
 (h2:∀l n ts,l≠ []->(firstL l).2≠0->P (l.drop (firstL l).2) (n+(firstL l).2) ts->P l n ((firstL l).1.at_ n::ts)):
 ∀(N:Nat) (l:List UInt8) (n:Nat) (ts:List Tok),l.length<=N->scanL l n= .inr ts->P l n ts:=by
 intro N
 induction N with
 | zero=>
   intro l n ts hl h;obtain rfl:l= []:=List.length_eq_zero_iff.1 (by omega);rw [scanL_nil] at h
   cases h
   exact h0 n
 | succ N ih=>
   intro l n ts hl h
   cases l with
   | nil=>rw [scanL_nil] at h;cases h;exact h0 n
   | cons c r=>
     cases hb:blankB c with
     | true=>
       rw [scanL_blank hb] at h;exact h1 c r n ts hb (ih r (n+1) ts (by simpa using hl) h)
     | false=>
       by_cases hz:(firstL (c::r)).2=0
       ·rw [scanL_bad (l:=c::r) (by simp) hb hz] at h;cases h
       ·rw [scanL_tok (l:=c::r) (by simp) hb hz] at h;obtain ⟨l',h3,rfl⟩:=comb_inr h;exact h2 (c::r) n l' (by simp) hz (ih _ _ _ (by rw [List.length_drop];simp at hl⊢;omega) h3)
theorem scan_end {l:List UInt8} {n:Nat} {ts:List Tok} (h:scanL l n= .inr ts):EndL ts:=
 scan_ind (P:=fun _ _ ts=>EndL ts) (fun n=>⟨[],_,rfl,rfl⟩) (fun _ _ _ _ _ h=>h) (fun _ _ _ _ _ h=>h.cons _) l.length l n ts (Nat.le_refl _) h
structure TokG (N:Nat) (x:Tok):Prop where
 txt:x.k=2->Quo.wholeB x.t=true
 num:x.k=3->Dec.rightB x.m x.e=true
 len:x.t.length<=N
 kind:x.k<=5
theorem parse_right {l:List UInt8} (h:(Dec.parseS l).2.2=true):Dec.rightB (Dec.parseS l).1 (Dec.parseS l).2.1=true:=by
 unfold Dec.parseS at h⊢
 split at h
 ·cases h
 ·rename_i hl;rw [if_neg hl];unfold Dec.valS at h⊢
  split at h
  ·cases h
  ·exact Dec.mk_is_right _ _ h
theorem first_good {l:List UInt8} (h:(firstL l).2≠0):TokG l.length (firstL l).1:=by
 unfold firstL at h⊢
 split at h
 ·simp at h
 ·rename_i c r
  split at h
  ·rename_i h1;rw [if_pos h1];exact ⟨fun h=>by simp at h,fun h=>by simp at h,by simp,by simp⟩
  ·rename_i h1;rw [if_neg h1]
   split at h
   ·rename_i h2;rw [if_pos h2];unfold textL at h⊢
    split at h
    ·rename_i h3;rw [if_pos h3];unfold Quo.unqS at h3⊢
     split at h3
     ·rename_i h4;rw [if_pos h4]
      cases hu:Quo.unqB ((c::r).drop 1) with
      | none=>rw [hu] at h3;simp at h3
      | some q=>
        obtain ⟨t,k⟩:=q;obtain ⟨⟨rs,hr,ht⟩,h5,h6⟩:=Quo.unq_some _ _ (Nat.le_refl _) t k hu;simp only;refine ⟨fun _=> ?_,fun h=>by simp at h,?_,by simp⟩
        ·show Quo.wholeB t=true;rw [ht];exact Quo.wholeB_flat' hr
        ·show t.length<=_;simp at h6⊢;omega
     ·simp at h3
    ·simp at h
   ·rename_i h2;rw [if_neg h2]
    split at h
    ·rename_i h3;rw [if_pos h3];unfold numberL at h⊢
     split at h
     ·rename_i h4;rw [if_pos h4];exact ⟨fun h=>by simp at h,fun _=>parse_right h4,(List.takeWhile_sublist _).length_le,by simp⟩
     ·simp at h
    ·rename_i h3;rw [if_neg h3]
     split at h
     ·rename_i h4;rw [if_pos h4];unfold wordL at h⊢
      split at h
      ·rename_i h5;rw [if_pos h5];exact ⟨fun h=>by simp at h,fun h=>by simp at h,(List.takeWhile_sublist _).length_le,by simp⟩
      ·simp at h
     ·simp at h
theorem TokG.mono {N N':Nat} {x:Tok} (h:TokG N x) (hN:N<=N'):TokG N' x:=⟨h.txt,h.num,Nat.le_trans h.len hN,h.kind⟩
theorem scan_good {l:List UInt8} {n:Nat} {ts:List Tok} (h:scanL l n= .inr ts):∀x∈ts,TokG l.length x:=
 scan_ind (P:=fun l _ ts=>∀x∈ts,TokG l.length x)
  (fun n x hx=>by simp at hx;subst hx;exact ⟨fun h=>by simp at h,fun h=>by simp at h,by simp,by simp⟩)
  (fun c r n ts _ ih x hx=>(ih x hx).mono (by simp))
  (fun l n ts _ h0 ih x hx=>by
    rcases List.mem_cons.1 hx with rfl | hx
    ·have:=first_good h0;exact ⟨this.txt,this.num,this.len,this.kind⟩
    ·exact (ih x hx).mono (by simp)) l.length l n ts (Nat.le_refl _) h
end Go.Proofs.YtclghelocglnlaaGreatDoor.Js
