import Derived.Lib.MapLaws
set_option maxHeartbeats 0
set_option maxRecDepth 100000
set_option linter.all false
namespace Go.Proofs.YtclghelocglnlaaGreatDoor.Quo
open Go.Lib
def vr (r:Nat):Prop:=r < 55296∨(57344<=r/\r<=1114111)
def enc (r:Nat):List UInt8:=encodeRune (r:Int)
def flat (rs:List Nat):List UInt8:=rs.flatMap enc
def badB (l:List UInt8):Bool:=decide (decodeL l=(65533,1))
theorem toNat_byte {z:Int} (h0:0<=z) (h1:z < 256):(z.toNat.toUInt8).toNat=z.toNat:=by
 simp;omega
theorem enc_one {r:Nat} (h:r < 128):enc r= [r.toUInt8]:=by
 unfold enc encodeRune;rw [encodeRuneZ_one (by omega) (by omega)];simp
theorem enc_len (r:Nat):1<=(enc r).length/\(enc r).length<=4:=by
 have:=encodeRuneZ_length (r:Int)
 simpa [enc,encodeRune] using this
theorem dec_enc {r:Nat} (h:vr r) (l:List UInt8):decodeL (enc r++l)=(r,(enc r).length):=by
 rw [decodeL_N];unfold enc encodeRune
 by_cases h1:r < 128
 ·rw [encodeRuneZ_one (by omega) (by omega)];simp only [List.map_cons,List.map_nil,List.cons_append,List.nil_append,List.length_cons,List.getD_cons_zero,List.getD_cons_succ];rw [toNat_byte (by omega) (by omega)];unfold decodeN;rw [if_pos (by omega)]
  rfl
 ·by_cases h2:r < 2048
  ·rw [encodeRuneZ_two (by omega) (by omega)];simp only [List.map_cons,List.map_nil,List.cons_append,List.nil_append,List.length_cons,List.getD_cons_zero,List.getD_cons_succ];rw [toNat_byte (by omega) (by omega),toNat_byte (by omega) (by omega)];unfold decodeN;rw [if_neg (by omega),if_pos (by omega),if_pos (by omega)]
   apply Prod.ext
   ·show _=r;omega
   ·rfl
  ·by_cases h3:r < 65536
   ·unfold vr at h;rw [encodeRuneZ_three (by omega)];simp only [List.map_cons,List.map_nil,List.cons_append,List.nil_append,List.length_cons,List.getD_cons_zero,List.getD_cons_succ];rw [toNat_byte (by omega) (by omega),toNat_byte (by omega) (by omega),toNat_byte (by omega) (by omega)];unfold decodeN;rw [if_neg (by omega),if_neg (by omega),if_pos (by omega),if_pos (by omega)]
    apply Prod.ext
    ·show _=r;omega
    ·rfl
   ·unfold vr at h;rw [encodeRuneZ_four (by omega) (by omega)];simp only [List.map_cons,List.map_nil,List.cons_append,List.nil_append,List.length_cons,List.getD_cons_zero,List.getD_cons_succ];rw [toNat_byte (by omega) (by omega),toNat_byte (by omega) (by omega),toNat_byte (by omega) (by omega),toNat_byte (by omega) (by omega)];unfold decodeN;rw [if_neg (by omega),if_neg (by omega),if_neg (by omega),if_pos (by omega),if_pos (by omega)]
    apply Prod.ext
    ·show _=r;omega
    ·rfl
theorem enc_high {r:Nat} (j:Nat) (hj:1<=j) (hl:j < (enc r).length):128<=((enc r).getD j 0).toNat:=by
 unfold enc encodeRune encodeRuneZ at *
 split at hl
 ·simp at hl;omega
 ·rename_i h1;rw [if_neg h1]
  split at hl
  ·rename_i h2;rw [if_pos h2];obtain rfl:j=1:=by simp at hl;omega
   simp only [List.map_cons,List.map_nil,List.getD_cons_zero,List.getD_cons_succ];rw [toNat_byte (by omega) (by omega)];omega
  ·rename_i h2;rw [if_neg h2]
   split at hl
   ·rename_i h3;rw [if_pos h3];have:j=1∨j=2:=(by simp at hl;omega);rcases this with rfl | rfl
    all_goals
     simp only [List.map_cons,List.map_nil,List.getD_cons_zero,List.getD_cons_succ];rw [toNat_byte (by omega) (by omega)];omega
   ·rename_i h3;rw [if_neg h3]
    split at hl
    ·rename_i h4;rw [if_pos h4];have:j=1∨j=2∨j=3:=(by simp at hl;omega);rcases this with rfl | rfl | rfl
     all_goals
      simp only [List.map_cons,List.map_nil,List.getD_cons_zero,List.getD_cons_succ];rw [toNat_byte (by omega) (by omega)];omega
    ·rename_i h4;rw [if_neg h4];have:j=1∨j=2:=(by simp at hl;omega);rcases this with rfl | rfl
     all_goals
      simp only [List.map_cons,List.map_nil,List.getD_cons_zero,List.getD_cons_succ]
      decide
theorem good_front {l:List UInt8} (hne:l≠ []) (hb:badB l=false):vr (decodeL l).1/\(enc (decodeL l).1).length=(decodeL l).2/\l=enc (decodeL l).1++l.drop (decodeL l).2/\1<=(decodeL l).2/\(decodeL l).2<=l.length:=by
 have hb':¬((decodeL l).1=65533/\(decodeL l).2=1):=fun h=>by
  unfold badB at hb;exact absurd (Prod.ext h.1 h.2:decodeL l=(65533,1)) (by simpa using hb)
 have he:enc (decodeL l).1=l.take (decodeL l).2:=encode_decode l hne hb'
 have hw:1<=(decodeL l).2/\(decodeL l).2<=l.length/\vr (decodeL l).1:=by
  have hl:0 < l.length:=List.length_pos_iff.2 hne;have k0:=(l.getD 0 0).toNat_lt;rw [decodeL_N] at hb'⊢;unfold vr;rcases decodeN_shape l.length (l.getD 0 0).toNat (l.getD 1 0).toNat (l.getD 2 0).toNat (l.getD 3 0).toNat with ⟨c,e⟩ | ⟨c1,c2,c3,cv,e⟩ | ⟨c1,c2,c3,c4,cv,cs,e⟩ | ⟨c1,c2,c3,c4,c5,cv,cw,e⟩ | e
  all_goals rw [e] at hb'⊢
  all_goals simp only at hb'⊢
  ·omega
  ·omega
  ·omega
  ·omega
  ·simp at hb'
 refine ⟨hw.2.2,?_,?_,hw.1,hw.2.1⟩
 ·rw [he,List.length_take];omega
 ·conv=>lhs;rw [<-List.take_append_drop (decodeL l).2 l]
  rw [he]
theorem width_pos {l:List UInt8}:1<=(decodeL l).2:=by
 rw [decodeL_N];rcases decodeN_shape l.length (l.getD 0 0).toNat (l.getD 1 0).toNat (l.getD 2 0).toNat (l.getD 3 0).toNat with ⟨c,e⟩ | ⟨c1,c2,c3,cv,e⟩ | ⟨c1,c2,c3,c4,cv,cs,e⟩ | ⟨c1,c2,c3,c4,c5,cv,cw,e⟩ | e
 all_goals rw [e]
 all_goals simp
theorem enc_fffd:enc 65533= [239,191,189]:=by decide+kernel
theorem enc_good {r:Nat} (h:vr r) (l:List UInt8):badB (enc r++l)=false:=by
 unfold badB;rw [dec_enc h]
 have:¬((r,(enc r).length)=(65533,1)):=fun e=>by
  have e1:r=65533:=congrArg Prod.fst e;have e2:(enc r).length=1:=congrArg Prod.snd e;rw [e1,enc_fffd] at e2;simp at e2
 simpa using this
def wholeB (l:List UInt8):Bool:=
 if h:l= [] then true else if badB l then false else wholeB (l.drop (decodeL l).2)
termination_by l.length
decreasing_by
 have:=width_pos (l:=l);have:=List.length_pos_iff.2 h;simp only [List.length_drop]
 omega
theorem wholeB_nil:wholeB []=true:=by rw [wholeB];simp
theorem wholeB_bad {l:List UInt8} (hne:l≠ []) (h:badB l=true):wholeB l=false:=by rw [wholeB];simp [hne,h]
theorem wholeB_good {l:List UInt8} (hne:l≠ []) (h:badB l=false):wholeB l=wholeB (l.drop (decodeL l).2):=by
 conv=>lhs;rw [wholeB]
 simp [hne,h]
theorem enc_ne (r:Nat):enc r≠ []:=fun h=>by have:=(enc_len r).1;rw [h] at this;simp at this
theorem wholeB_enc {r:Nat} (h:vr r) (l:List UInt8):wholeB (enc r++l)=wholeB l:=by
 rw [wholeB_good (by simp [enc_ne]) (enc_good h l),dec_enc h];simp
theorem flat_cons (r:Nat) (rs:List Nat):flat (r::rs)=enc r++flat rs:=by simp [flat]
theorem wholeB_flat {rs:List Nat} (h:∀r∈rs,vr r) (l:List UInt8):wholeB (flat rs++l)=wholeB l:=by
 induction rs with
 | nil=>rfl
 | cons r rs ih=>
   rw [flat_cons,List.append_assoc,wholeB_enc (h r (by simp)),ih fun x hx=>h x (by simp [hx])]
theorem wholeB_flat' {rs:List Nat} (h:∀r∈rs,vr r):wholeB (flat rs)=true:=by
 have:=wholeB_flat h []
 rwa [List.append_nil,wholeB_nil] at this
theorem split (n:Nat):∀l:List UInt8,l.length<=n->∃rs t,(∀r∈rs,vr r)/\l=flat rs++t/\(t= []∨(t≠ []/\badB t=true)):=by
 induction n with
 | zero=>intro l hl;exact ⟨[],l,by simp,rfl,.inl (List.length_eq_zero_iff.1 (by omega))⟩
 | succ n ih=>
   intro l hl
   by_cases hne:l= []
   ·exact ⟨[],l,by simp,rfl,.inl hne⟩
   ·cases hb:badB l with
    | true=>exact ⟨[],l,by simp,rfl,.inr ⟨hne,hb⟩⟩
    | false=>
      obtain ⟨hv,hlen,heq,h1,h2⟩:=good_front hne hb;obtain ⟨rs,t,hrs,he,ht⟩:=ih (l.drop (decodeL l).2) (by rw [List.length_drop];omega);refine ⟨(decodeL l).1::rs,t,?_,?_,ht⟩
      ·intro r hr;rcases List.mem_cons.1 hr with rfl | hr
       ·exact hv
       ·exact hrs r hr
      ·rw [flat_cons,List.append_assoc,<-he];exact heq
theorem whole_flat {l:List UInt8} (h:wholeB l=true):∃rs,(∀r∈rs,vr r)/\l=flat rs:=by
 obtain ⟨rs,t,hrs,he,ht⟩:=split l.length l (Nat.le_refl _);rcases ht with rfl | ⟨hne,hb⟩
 ·exact ⟨rs,hrs,by rw [he,List.append_nil]⟩
 ·rw [he,wholeB_flat hrs,wholeB_bad hne hb] at h
  cases h
theorem broken_iff {l:List UInt8} (hne:l≠ []):(decide ((decodeL l).1=65533) && !(hasPrefix l [239,191,189]))=badB l:=by
 cases hb:badB l with
 | true=>
   have he:decodeL l=(65533,1):=by simpa [badB] using hb
   have hp:hasPrefix l [239,191,189]=false:=by
    cases hp:hasPrefix l [239,191,189] with
    | false=>rfl
    | true=>
      unfold hasPrefix at hp;obtain ⟨t,ht⟩:=List.isPrefixOf_iff_prefix.1 hp;rw [<-ht,<-enc_fffd,enc_good (by unfold vr;omega)] at hb
      cases hb
   simp [he,hp]
 | false=>
   obtain ⟨hv,hlen,heq,h1,h2⟩:=good_front hne hb
   by_cases h:(decodeL l).1=65533
   ·rw [h,enc_fffd] at heq
    have hp:hasPrefix l [239,191,189]=true:=by
     unfold hasPrefix;exact List.isPrefixOf_iff_prefix.2 ⟨_,heq.symm⟩
    simp [hp]
   ·simp [h]
end Go.Proofs.YtclghelocglnlaaGreatDoor.Quo
namespace Go.Proofs.YtclghelocglnlaaGreatDoor.Quo
open Go.Lib
def hexd (d:Nat):UInt8:=([48,49,50,51,52,53,54,55,56,57,97,98,99,100,101,102]:List UInt8).getD d 0
def qr (r:Nat):List UInt8:=
 if r=34 then [92,34] else if r=92 then [92,92] else if 32<=r then enc r
 else if r=8 then [92,98] else if r=9 then [92,116] else if r=10 then [92,110] else if r=12 then [92,102] else if r=13 then [92,114]
 else [92,117,48,48,hexd (r / 16),hexd (r % 16)]
def bodyQ (rs:List Nat):List UInt8:=rs.flatMap qr
def qBody (l:List UInt8):List UInt8:=
 if h:l= [] then [] else qr (decodeL l).1++qBody (l.drop (decodeL l).2)
termination_by l.length
decreasing_by
 have:=width_pos (l:=l);have:=List.length_pos_iff.2 h;simp only [List.length_drop]
 omega
def quoteL (l:List UInt8):List UInt8:=34::(qBody l++ [34])
theorem qBody_nil:qBody []= []:=by rw [qBody];simp
theorem qBody_step {l:List UInt8} (h:l≠ []):qBody l=qr (decodeL l).1++qBody (l.drop (decodeL l).2):=by
 conv=>lhs;rw [qBody]
 simp [h]
theorem qBody_flat {rs:List Nat} (h:∀r∈rs,vr r) (l:List UInt8):qBody (flat rs++l)=bodyQ rs++qBody l:=by
 induction rs with
 | nil=>rfl
 | cons r rs ih=>
   have hv:=h r (by simp);rw [flat_cons,List.append_assoc,qBody_step (by simp [enc_ne]),dec_enc hv,List.drop_left,ih fun x hx=>h x (by simp [hx])];simp [bodyQ]
theorem qBody_flat' {rs:List Nat} (h:∀r∈rs,vr r):qBody (flat rs)=bodyQ rs:=by
 have:=qBody_flat h []
 rwa [List.append_nil,qBody_nil,List.append_nil] at this
def digL (c:UInt8):Option Nat:=
 if 48<=c.toNat/\c.toNat<=57 then some (c.toNat - 48) else if 97<=c.toNat/\c.toNat<=102 then some (c.toNat - 87)
 else if 65<=c.toNat/\c.toNat<=70 then some (c.toNat - 55) else none
def digs:Nat->List UInt8->Option Nat
 | n,[]=>some n
 | n,c::r=>match digL c with
   | none=>none
   | some d=>digs (n * 16+d) r
def unitL (l:List UInt8):Option Nat:=
 if l.length < 6∨hasPrefix l [92,117]=false then none else digs 0 ((l.drop 2).take 4)
def isF (n:Nat):Bool:=decide (55296<=n) && decide (n < 56320)
def isS (n:Nat):Bool:=decide (56320<=n) && decide (n < 57344)
def numL (l:List UInt8):Nat×Nat:=
 match unitL l with
 | none=>(0,0)
 | some f=>if isS f then (0,0) else if isF f then
    (match unitL (l.drop 6) with
     | none=>(0,0)
     | some s=>if isS s then (65536+(f - 55296) * 1024+(s - 56320),12) else (0,0))
   else (f,6)
def escL (l:List UInt8):Nat×Nat:=
 if l.length < 2 then (0,0)
 else if l.getD 1 0=34∨l.getD 1 0=92∨l.getD 1 0=47 then ((l.getD 1 0).toNat,2)
 else if l.getD 1 0=117 then numL l
 else if l.getD 1 0=98 then (8,2) else if l.getD 1 0=116 then (9,2) else if l.getD 1 0=110 then (10,2)
 else if l.getD 1 0=102 then (12,2) else if l.getD 1 0=114 then (13,2) else (0,0)
def unqB (l:List UInt8):Option (List UInt8×Nat):=
 if h:l= [] then none
 else if (decodeL l).1=34 then some ([],1)
 else if (decodeL l).1=92 then
  (if h2:(escL l).2=0 then none else (unqB (l.drop (escL l).2)).map fun p=>(enc (escL l).1++p.1,(escL l).2+p.2))
 else if (decodeL l).1 < 32∨badB l=true then none
 else (unqB (l.drop (decodeL l).2)).map fun p=>(enc (decodeL l).1++p.1,(decodeL l).2+p.2)
termination_by l.length
decreasing_by
 ·have:=List.length_pos_iff.2 h;simp only [List.length_drop]
  omega
 ·have:=width_pos (l:=l);have:=List.length_pos_iff.2 h;simp only [List.length_drop]
  omega
def unqS (l:List UInt8):List UInt8×Nat×Bool:=
 if hasPrefix l [34] then (match unqB (l.drop 1) with
  | some p=>(p.1,p.2+1,true)
  | none=>([],0,false))
 else ([],0,false)
theorem unqB_nil:unqB []=none:=by rw [unqB];simp
theorem unqB_end {l:List UInt8} (h:l≠ []) (h1:(decodeL l).1=34):unqB l=some ([],1):=by rw [unqB];simp [h,h1]
theorem unqB_esc0 {l:List UInt8} (h:l≠ []) (h1:(decodeL l).1=92) (h2:(escL l).2=0):unqB l=none:=by rw [unqB];simp [h,h1,h2]
theorem unqB_esc {l:List UInt8} (h:l≠ []) (h1:(decodeL l).1=92) (h2:(escL l).2≠0):unqB l=(unqB (l.drop (escL l).2)).map fun p=>(enc (escL l).1++p.1,(escL l).2+p.2):=by
 conv=>lhs;rw [unqB]
 simp [h,h1,h2]
theorem unqB_low {l:List UInt8} (h:l≠ []) (h1:(decodeL l).1≠34) (h3:(decodeL l).1≠92) (h2:(decodeL l).1 < 32∨badB l=true):unqB l=none:=by
 rw [unqB];simp only [h,h1,h3,if_false,dite_false,if_pos h2]
theorem unqB_plain {l:List UInt8} (h:l≠ []) (h1:(decodeL l).1≠34) (h3:(decodeL l).1≠92) (h2:32<=(decodeL l).1) (h4:badB l=false):
 unqB l=(unqB (l.drop (decodeL l).2)).map fun p=>(enc (decodeL l).1++p.1,(decodeL l).2+p.2):=by
 have:¬((decodeL l).1 < 32∨badB l=true):=by rw [h4];simp;omega
 conv=>lhs;rw [unqB]
 simp only [h,h1,h3,if_false,dite_false,if_neg this]
theorem dec_ascii {c:UInt8} (h:c.toNat < 128) (l:List UInt8):decodeL (c::l)=(c.toNat,1):=by
 have:=dec_enc (r:=c.toNat) (by unfold vr;omega) l
 rwa [enc_one h,show c.toNat.toUInt8=c by simp] at this
theorem digL_lt {c:UInt8} {d:Nat} (h:digL c=some d):d < 16/\c.toNat < 128:=by
 unfold digL at h
 split at h
 ·simp at h;omega
 ·split at h
  ·simp at h;omega
  ·split at h
   ·simp at h;omega
   ·cases h
theorem digs_lt:∀(l:List UInt8) (n k:Nat),digs n l=some k->k < (n+1) * 16 ^ l.length/\∀c∈l,c.toNat < 128
 | [],n,k,h=>by simp [digs] at h;subst h;simp
 | c::r,n,k,h=>by
   unfold digs at h
   cases hd:digL c with
   | none=>rw [hd] at h;cases h
   | some d=>
     rw [hd] at h;obtain ⟨h1,h2⟩:=digs_lt r _ _ h;obtain ⟨h3,h4⟩:=digL_lt hd;refine ⟨Nat.lt_of_lt_of_le h1 ?_,fun x hx=> ?_⟩
     ·rw [List.length_cons,Nat.pow_succ,Nat.mul_comm (16 ^ r.length) 16,<-Nat.mul_assoc];exact Nat.mul_le_mul_right _ (by omega)
     ·rcases List.mem_cons.1 hx with rfl | hx
      ·exact h4
      ·exact h2 x hx
theorem getD_mem_take {l:List UInt8} {a k j:Nat} (h1:a<=j) (h2:j < a+k) (h3:j < l.length):l.getD j 0∈(l.drop a).take k:=by
 rw [List.getD_eq_getElem?_getD,List.getElem?_eq_getElem h3,Option.getD_some];rw [List.mem_take_iff_getElem];refine ⟨j - a,by simp only [List.length_drop];omega,?_⟩;rw [List.getElem_drop]
 congr 1
 omega
theorem unitL_facts {l:List UInt8} {f:Nat} (h:unitL l=some f):f < 65536/\6<=l.length/\∀j,j < 6->(l.getD j 0).toNat < 128:=by
 unfold unitL at h
 split at h
 ·cases h
 ·rename_i hc;have hl:6<=l.length:=by omega
  have hp:hasPrefix l [92,117]=true:=by
   cases hh:hasPrefix l [92,117] with
   | true=>rfl
   | false=>exact absurd (.inr hh) hc
  obtain ⟨h1,h2⟩:=digs_lt _ _ _ h;have h4:((l.drop 2).take 4).length=4:=by simp;omega
  rw [h4] at h1;refine ⟨by omega,hl,fun j hj=> ?_⟩
  by_cases hj2:j < 2
  ·obtain ⟨t,ht⟩:=List.isPrefixOf_iff_prefix.1 hp;rw [<-ht];have:j=0∨j=1:=by omega
   rcases this with rfl | rfl <;> simp
  ·exact h2 _ (getD_mem_take (by omega) (by omega) (by omega))
theorem ascii_more {l:List UInt8} {a k:Nat} (h1:∀j,j < a->(l.getD j 0).toNat < 128) (h2:∀j,j < k->((l.drop a).getD j 0).toNat < 128):∀j,j < a+k->(l.getD j 0).toNat < 128:=fun j hj=>by
 by_cases h:j < a
 ·exact h1 j h
 ·have:=h2 (j - a) (by omega)
  rwa [getD_dropU,show a+(j - a)=j by omega] at this
theorem enc_len_le {r:Nat}:(r < 128->(enc r).length=1)/\(r < 65536->(enc r).length<=3):=by
 refine ⟨fun h=>by rw [enc_one h];rfl,fun h=> ?_⟩;unfold enc encodeRune encodeRuneZ
 repeat' split
 all_goals simp
 omega
theorem numL_facts {l:List UInt8} (h:(numL l).2≠0):vr (numL l).1/\(numL l).2<=l.length/\(∀j,j < (numL l).2->(l.getD j 0).toNat < 128)/\(enc (numL l).1).length<=(numL l).2:=by
 cases hu:unitL l with
 | none=>simp [numL,hu] at h
 | some f=>
   obtain ⟨hf,hl,ha⟩:=unitL_facts hu
   cases hs:isS f with
   | true=>simp [numL,hu,hs] at h
   | false=>
     cases hi:isF f with
     | false=>
       have e:numL l=(f,6):=(by simp [numL,hu,hs,hi]);rw [e]
       have hv:vr f:=by
        unfold vr;simp [isS] at hs;simp [isF] at hi
        omega
       have:=(enc_len f).2;exact ⟨hv,hl,ha,by show (enc f).length<=6;omega⟩
     | true=>
       cases hu2:unitL (l.drop 6) with
       | none=>simp [numL,hu,hs,hi,hu2] at h
       | some s=>
         obtain ⟨hf2,hl2,ha2⟩:=unitL_facts hu2
         cases hs2:isS s with
         | false=>simp [numL,hu,hs,hi,hu2,hs2] at h
         | true=>
           have e:numL l=(65536+(f - 55296) * 1024+(s - 56320),12):=(by simp [numL,hu,hs,hi,hu2,hs2]);rw [e];rw [List.length_drop] at hl2
           have hv:vr (65536+(f - 55296) * 1024+(s - 56320)):=by
            unfold vr;simp [isS] at hs2;simp [isF] at hi
            omega
           have:=(enc_len (65536+(f - 55296) * 1024+(s - 56320))).2;exact ⟨hv,by show 12<=_;omega,ascii_more (a:=6) (k:=6) ha ha2,by show (enc (65536+(f - 55296) * 1024+(s - 56320))).length<=12;omega⟩
theorem escL_facts {l:List UInt8} (hl0:(l.getD 0 0).toNat < 128) (h:(escL l).2≠0):
 vr (escL l).1/\(escL l).2<=l.length/\(∀j,j < (escL l).2->(l.getD j 0).toNat < 128)/\(enc (escL l).1).length<=(escL l).2:=by
 unfold escL at h⊢
 split
 ·rename_i hc;simp [hc] at h
 rename_i hc;rw [if_neg hc] at h
 have two:∀n,n < 128->(l.getD 1 0).toNat < 128->vr (n,2).1/\(n,2).2<=l.length/\(∀j,j < (n,2).2->(l.getD j 0).toNat < 128)/\(enc (n,2).1).length<=(n,2).2:=fun n hn h1=>by
  refine ⟨by unfold vr;show n < _∨_;omega,by show 2<=_;omega,fun j hj=> ?_,by show _<=2;rw [enc_len_le.1 hn];omega⟩;have:j=0∨j=1:=by have:j < 2:=hj;omega
  rcases this with rfl | rfl
  ·exact hl0
  ·exact h1
 split
 ·rename_i h1;have:(l.getD 1 0).toNat < 128:=by rcases h1 with h1 | h1 | h1 <;> rw [h1] <;> decide
  exact two _ this this
 rename_i h1;rw [if_neg h1] at h
 split
 ·rename_i h2;rw [if_pos h2] at h;exact numL_facts h
 rename_i h2;rw [if_neg h2] at h
 split
 ·rename_i h3;exact two 8 (by omega) (by rw [h3];decide)
 rename_i h3;rw [if_neg h3] at h
 split
 ·rename_i h4;exact two 9 (by omega) (by rw [h4];decide)
 rename_i h4;rw [if_neg h4] at h
 split
 ·rename_i h5;exact two 10 (by omega) (by rw [h5];decide)
 rename_i h5;rw [if_neg h5] at h
 split
 ·rename_i h6;exact two 12 (by omega) (by rw [h6];decide)
 rename_i h6;rw [if_neg h6] at h
 split
 ·rename_i h7;exact two 13 (by omega) (by rw [h7];decide)
 rename_i h7;rw [if_neg h7] at h;simp at h
theorem dec92 (l:List UInt8):decodeL (92::l)=(92,1):=dec_ascii (c:=92) (by decide) l
theorem esc_two {c:UInt8} {n:Nat} (l:List UInt8) (h:escL (92::c::l)=(n,2)):unqB (92::c::l)=(unqB l).map fun p=>(enc n++p.1,2+p.2):=by
 rw [unqB_esc (by simp) (by rw [dec92]) (by rw [h];simp),h]
 rfl
theorem esc_low {r:Nat} (h:r < 32) (l:List UInt8):escL ([92,117,48,48,hexd (r / 16),hexd (r % 16)]++l)=(r,6):=by
 have hu:unitL ([92,117,48,48,hexd (r / 16),hexd (r % 16)]++l)=some r:=by
  unfold unitL;rw [if_neg (by simp [hasPrefix,List.isPrefixOf])];show digs 0 [48,48,hexd (r / 16),hexd (r % 16)]=some r;have:∀r,r < 32->digs 0 [48,48,hexd (r / 16),hexd (r % 16)]=some r:=by decide+kernel
  exact this r h
 have e:numL ([92,117,48,48,hexd (r / 16),hexd (r % 16)]++l)=(r,6):=by
  unfold numL;rw [hu];have h1:isS r=false:=by simp [isS];omega
  have h2:isF r=false:=by simp [isF];omega
  simp [h1,h2]
 unfold escL;rw [if_neg (by simp),if_neg (by simp),if_pos (by rfl)];exact e
theorem qr_unq {r:Nat} (h:vr r) (l:List UInt8):unqB (qr r++l)=(unqB l).map fun p=>(enc r++p.1,(qr r).length+p.2):=by
 unfold qr
 split
 ·rename_i h1;subst h1;exact esc_two l (by simp [escL])
 split
 ·rename_i h1;subst h1;exact esc_two l (by simp [escL])
 split
 ·rename_i h1 h2 h3;rw [unqB_plain (by simp [enc_ne]) (by rw [dec_enc h];exact h1) (by rw [dec_enc h];exact h2) (by rw [dec_enc h];exact h3) (enc_good h l),dec_enc h,List.drop_left]
 split
 ·rename_i h1;subst h1;exact esc_two l (by simp [escL])
 split
 ·rename_i h1;subst h1;exact esc_two l (by simp [escL])
 split
 ·rename_i h1;subst h1;exact esc_two l (by simp [escL])
 split
 ·rename_i h1;subst h1;exact esc_two l (by simp [escL])
 split
 ·rename_i h1;subst h1;exact esc_two l (by simp [escL])
 ·rename_i h3 _ _ _ _ _;have e:=esc_low (r:=r) (by omega) l;rw [unqB_esc (by simp) (by rw [List.cons_append,dec92]) (by rw [e];simp),e]
  rfl
theorem unq_body {rs:List Nat} (h:∀r∈rs,vr r) (l:List UInt8):unqB (bodyQ rs++34::l)=some (flat rs,(bodyQ rs).length+1):=by
 induction rs with
 | nil=>exact unqB_end (by simp) (by rw [show bodyQ []++34::l=34::l from rfl,dec_ascii (by decide)];rfl)
 | cons r rs ih=>
   have e:bodyQ (r::rs)=qr r++bodyQ rs:=by simp [bodyQ]
   rw [e,List.append_assoc,qr_unq (h r (by simp)),ih fun x hx=>h x (by simp [hx]),flat_cons];simp [Nat.add_assoc]
theorem unq_some (n:Nat):∀l:List UInt8,l.length<=n->∀t k,unqB l=some (t,k)->(∃rs,(∀r∈rs,vr r)/\t=flat rs)/\t.length+1<=k/\k<=l.length:=by
 induction n with
 | zero=>
   intro l hl t k h;rw [List.length_eq_zero_iff.1 (by omega:l.length=0),unqB_nil] at h
   cases h
 | succ n ih=>
   intro l hl t k h
   by_cases hne:l= []
   ·rw [hne,unqB_nil] at h;cases h
   have hpos:1<=l.length:=List.length_pos_iff.2 hne
   by_cases h1:(decodeL l).1=34
   ·rw [unqB_end hne h1] at h;simp at h;exact ⟨⟨[],by simp,by rw [h.1];rfl⟩,by rw [h.1,<-h.2];simp,by omega⟩
   by_cases h2:(decodeL l).1=92
   ·by_cases h3:(escL l).2=0
    ·rw [unqB_esc0 hne h2 h3] at h;cases h
    ·rw [unqB_esc hne h2 h3] at h
     cases hr:unqB (l.drop (escL l).2) with
     | none=>rw [hr] at h;cases h
     | some p=>
       obtain ⟨t',k'⟩:=p;rw [hr] at h;simp at h
       have h0:(l.getD 0 0).toNat < 128:=by
        rw [decodeL_N] at h2;rcases decodeN_shape l.length (l.getD 0 0).toNat (l.getD 1 0).toNat (l.getD 2 0).toNat (l.getD 3 0).toNat with ⟨c,e⟩ | ⟨c1,c2,c3,cv,e⟩ | ⟨c1,c2,c3,c4,cv,cs,e⟩ | ⟨c1,c2,c3,c4,c5,cv,cw,e⟩ | e
        ·exact c
        all_goals (rw [e] at h2;simp only at h2;omega)
       obtain ⟨f1,f2,f3,f4⟩:=escL_facts h0 h3;obtain ⟨⟨rs,hrs,ht⟩,hk1,hk2⟩:=ih _ (by rw [List.length_drop];omega) _ _ hr;rw [List.length_drop] at hk2;refine ⟨⟨(escL l).1::rs,?_,by rw [flat_cons,<-ht,h.1]⟩,?_,by omega⟩
       ·intro r hr;rcases List.mem_cons.1 hr with rfl | hr
        ·exact f1
        ·exact hrs r hr
       ·rw [<-h.1,<-h.2,List.length_append];omega
   by_cases h3:(decodeL l).1 < 32∨badB l=true
   ·rw [unqB_low hne h1 h2 h3] at h;cases h
   have hb:badB l=false:=by
    cases hb:badB l with
    | false=>rfl
    | true=>exact absurd (.inr hb) h3
   rw [unqB_plain hne h1 h2 (by omega) hb] at h
   cases hr:unqB (l.drop (decodeL l).2) with
   | none=>rw [hr] at h;cases h
   | some p=>
     obtain ⟨t',k'⟩:=p;rw [hr] at h;simp at h;obtain ⟨g1,g2,g3,g4,g5⟩:=good_front hne hb;obtain ⟨⟨rs,hrs,ht⟩,hk1,hk2⟩:=ih _ (by rw [List.length_drop];omega) _ _ hr;rw [List.length_drop] at hk2;refine ⟨⟨(decodeL l).1::rs,?_,by rw [flat_cons,<-ht,h.1]⟩,?_,by omega⟩
     ·intro r hr;rcases List.mem_cons.1 hr with rfl | hr
      ·exact g1
      ·exact hrs r hr
     ·rw [<-h.1,<-h.2,List.length_append];omega
theorem dec_le (l:List UInt8):(enc (decodeL l).1).length<=3 * (decodeL l).2/\(l≠ []->(decodeL l).2<=l.length):=by
 cases hb:badB l with
 | true=>
   have hd:decodeL l=(65533,1):=by simpa [badB] using hb
   rw [hd];exact ⟨by show (enc 65533).length<=3;rw [enc_fffd];decide,fun h=>List.length_pos_iff.2 h⟩
 | false=>
   by_cases hne:l= []
   ·subst hne;exact ⟨by decide+kernel,fun h=>absurd rfl h⟩
   ·obtain ⟨_,h2,_,_,h5⟩:=good_front hne hb;exact ⟨by omega,fun _=>h5⟩
theorem qr_le6 (r:Nat):(qr r).length<=6:=by
 have:=(enc_len r).2;unfold qr
 repeat' split
 all_goals simp
 all_goals omega
theorem qBody_len (n:Nat):∀l:List UInt8,l.length<=n->(qBody l).length<=6 * l.length:=by
 induction n with
 | zero=>
   intro l hl;rw [List.length_eq_zero_iff.1 (by omega:l.length=0),qBody_nil];simp
 | succ n ih=>
   intro l hl
   by_cases hne:l= []
   ·rw [hne,qBody_nil];simp
   ·have h1:=width_pos (l:=l);have h2:=(dec_le l).2 hne;have h3:=ih (l.drop (decodeL l).2) (by rw [List.length_drop];have:=List.length_pos_iff.2 hne;omega);have h4:=qr_le6 (decodeL l).1;rw [List.length_drop] at h3;rw [qBody_step hne,List.length_append]
    omega
end Go.Proofs.YtclghelocglnlaaGreatDoor.Quo
