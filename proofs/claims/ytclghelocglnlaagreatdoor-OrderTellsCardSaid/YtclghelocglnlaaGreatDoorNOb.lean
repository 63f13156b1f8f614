import Derived.Test.YtclghelocglnlaaGreatDoorMS
import Derived.Test.YtclghelocglnlaaGreatDoorME
set_option maxHeartbeats 0
set_option maxRecDepth 100000
set_option linter.all false
namespace Go.Proofs.YtclghelocglnlaaGreatDoor.Od
open Go.RowKit Js
structure St where
 id:Int
 seq:Int
 rel:Bool
def st0:St:=⟨0,0,false⟩
structure O where
 h:Int
 v:List UInt8
 o:Int
 u:Int
 ns:List St
 es:List St
def numB (n:Int):Bool:=decide (0<=n) && decide (n<=1000000000)
def nodesB:Int->Bool->List St->Bool
 | _,_,[]=>true
 | q,prev,x::r=>numB x.id && (numB x.seq && (x.seq==q && ((!x.rel || prev) && nodesB (q+2) x.rel r)))
def edgesB:List St->List St->Bool
 | e::es,a::b::r=>numB e.id && (numB e.seq && (e.seq==a.seq+1 && (e.rel==b.rel && edgesB es (b::r))))
 | [],_=>true
 | _::_,[]=>false
 | _::_,[_]=>false
def rightO (nm:List UInt8->Bool) (x:O):Bool:=
 nm x.v && (numB x.h && (numB x.o && (numB x.u && (decide (1<=x.ns.length) && (decide (x.ns.length<=64) && (decide (x.es.length+1=x.ns.length) &&
  (decide ((x.ns.headD st0).seq % 2=0) && ((x.ns.headD st0).rel && (nodesB (x.ns.headD st0).seq true x.ns && edgesB x.es x.ns)))))))))
def baseO (x:O):Nat:=(x.ns.filter (·.rel)).length
def stB (a b:St):Bool:=a.id==b.id && (a.seq==b.seq && a.rel==b.rel)
def stsB:List St->List St->Bool
 | [],[]=>true
 | a::r,b::s=>stB a b && stsB r s
 | [],_::_=>false
 | _::_,[]=>false
def sameO (a b:O):Bool:=a.h==b.h && (a.v==b.v && (a.o==b.o && (a.u==b.u && (stsB a.ns b.ns && stsB a.es b.es))))
theorem stB_iff {a b:St}:stB a b=true↔a=b:=by
 obtain ⟨i,q,r⟩:=a;obtain ⟨i',q',r'⟩:=b;unfold stB;simp
theorem stsB_iff:∀{l m:List St},stsB l m=true↔l=m
 | [],[]=>by simp [stsB]
 | a::r,b::s=>by rw [stsB,Bool.and_eq_true,stB_iff,stsB_iff];simp
 | [],_::_=>by simp [stsB]
 | _::_,[]=>by simp [stsB]
theorem sameO_iff {a b:O}:sameO a b=true↔a=b:=by
 obtain ⟨h,v,o,u,ns,es⟩:=a;obtain ⟨h',v',o',u',ns',es'⟩:=b;unfold sameO;simp only [Bool.and_eq_true,stsB_iff,beq_iff_eq,O.mk.injEq]
def hdrL:List UInt8:= [104,101,97,100,101,114,73,100]
def serL:List UInt8:= [115,101,114,105,97,108,78,117,109,98,101,114]
def ordL:List UInt8:= [111,114,100,101,114,73,100]
def updL:List UInt8:= [111,114,100,101,114,85,112,100,97,116,101,73,100]
def nodL:List UInt8:= [110,111,100,101,115]
def edgL:List UInt8:= [101,100,103,101,115]
def nidL:List UInt8:= [110,111,100,101,73,100]
def eidL:List UInt8:= [101,100,103,101,73,100]
def seqL:List UInt8:= [115,101,113,117,101,110,99,101,73,100]
def relL:List UInt8:= [114,101,108,101,97,115,101,100]
def numJ (n:Int):J:= .mk 4 (Dec.mk n 0).1 (Dec.mk n 0).2.1 [] [] []
def boolJ (b:Bool):J:= .mk (if b=true then 3 else 2) 0 0 [] [] []
def partJ (nm:List UInt8) (x:St):J:= .mk 7 0 0 [] [nm,seqL,relL] [numJ x.id,numJ x.seq,boolJ x.rel]
def layJ (x:O):J:= .mk 7 0 0 [] [hdrL,serL,ordL,updL,nodL,edgL] [numJ x.h,.mk 5 0 0 x.v [] [],numJ x.o,numJ x.u,.mk 6 0 0 [] [] (x.ns.map (partJ nidL)),.mk 6 0 0 [] [] (x.es.map (partJ eidL))]
def fieldS {α:Type} (f:J->α×Bool) (j:J) (nm:List UInt8):Option α:=if (getS j nm).2=true then (if (f (getS j nm).1).2=true then some (f (getS j nm).1).1 else none) else none
def readJ (nm:List UInt8) (j:J):Option St:=
 match fieldS numS j nm,fieldS numS j seqL,fieldS flagS j relL with
 | some i,some q,some r=>some ⟨i,q,r⟩
 | _,_,_=>none
def readL (nm:List UInt8):List J->Option (List St)
 | []=>some []
 | x::r=>match readJ nm x,readL nm r with
   | some a,some l=>some (a::l)
   | _,_=>none
def toldJ (j:J):Option O:=
 match fieldS numS j hdrL,fieldS txtS j serL,fieldS numS j ordL,fieldS numS j updL,fieldS lstS j nodL,fieldS lstS j edgL with
 | some h,some v,some o,some u,some ns,some es=>match readL nidL ns,readL eidL es with
   | some a,some b=>some ⟨h,v,o,u,a,b⟩
   | _,_=>none
 | _,_,_,_,_,_=>none
def takeJ (nm:List UInt8->Bool) (j:J):Option O:=
 match toldJ j with
 | some x=>if rightO nm x=true then some x else none
 | none=>none
theorem numB_iff {n:Int} (h:numB n=true):0<=n/\n<=1000000000:=by unfold numB at h;simpa using h
theorem ten_pow {q n:Int} {k:Nat} (hq:q≠0) (h:q * 10 ^ k=n) (h0:0<=n) (h1:n<=1000000000):k<=9/\0<=q/\q<=1000000000:=by
 have hp:(0:Int) < 10 ^ k:=Int.pow_pos (by decide)
 have hq0:0 < q:=by
  rcases Int.lt_or_le 0 q with h2 | h2
  ·exact h2
  ·have:q * 10 ^ k < 0:=Int.mul_neg_of_neg_of_pos (by omega) hp
   omega
 have h2:q * 1<=q * 10 ^ k:=Int.mul_le_mul_of_nonneg_left (by omega) (by omega);have h3:1 * 10 ^ k<=q * (10:Int) ^ k:=Int.mul_le_mul_of_nonneg_right (by omega) (by omega);refine ⟨?_,by omega,by omega⟩;rcases Nat.lt_or_ge k 10 with h4 | h4
 ·omega
 ·obtain ⟨c,rfl⟩:∃c,k=10+c:=⟨k - 10,by omega⟩;have h5:(10:Int) ^ (10+c)=10 ^ 10 * 10 ^ c:=Int.pow_add ..;have h6:(10:Int) ^ 10=10000000000:=by decide
  have h7:(0:Int) < 10 ^ c:=Int.pow_pos (by decide);rw [h6] at h5
  omega
theorem num_told {n:Int} (h:numB n=true):numS (numJ n)=(n,true)/\Dec.rightB (Dec.mk n 0).1 (Dec.mk n 0).2.1=true:=by
 obtain ⟨h0,h1⟩:=numB_iff h;have hk:(numJ n).k=4:=rfl;unfold numS;rw [if_pos hk];show Dec.intS (Dec.mk n 0).1 (Dec.mk n 0).2.1=(n,true)/\_
 by_cases hn:n=0
 ·subst hn;rw [Dec.mk_zero];exact ⟨by decide,by decide⟩
 ·have hv:=Dec.strip_val n;have hs:=Dec.strip_ne n hn;generalize hst:Dec.strip n=st at hv hs;obtain ⟨q,k⟩:=st;simp only at hv hs;obtain ⟨g1,g2,g3⟩:=ten_pow hs.2 hv.symm h0 h1
  have hm:Dec.mk n 0=(q,(k:Int),true):=by
   unfold Dec.mk Dec.p15;rw [if_neg hn,hst];simp only;rw [if_pos (by omega)];simp
  rw [hm]
  have hr:Dec.rightB q (k:Int)=true:=by
   have:=Dec.mk_is_right n 0 (by rw [hm])
   rwa [hm] at this
  refine ⟨?_,hr⟩;unfold Dec.intS Dec.raiseS;simp only;rw [if_pos ⟨hr,by omega⟩,Int.toNat_natCast,<-hv,if_pos (by omega)]
theorem flag_told (b:Bool):flagS (boolJ b)=(b,true):=by cases b <;> rfl
theorem part_told {nm:List UInt8} {x:St} (h1:numB x.id=true) (h2:numB x.seq=true) (n1:nm≠seqL) (n2:nm≠relL):readJ nm (partJ nm x)=some x:=by
 have g1:getS (partJ nm x) nm=(numJ x.id,true):=by
  unfold getS plc partJ;simp [J.k,J.ns,J.is,plcL]
 have g2:getS (partJ nm x) seqL=(numJ x.seq,true):=by
  unfold getS plc partJ;simp [J.k,J.ns,J.is,plcL,n1]
 have g3:getS (partJ nm x) relL=(boolJ x.rel,true):=by
  unfold getS plc partJ;simp [J.k,J.ns,J.is,plcL,n2,show seqL≠relL by decide]
 unfold readJ fieldS;rw [g1,g2,g3];simp [(num_told h1).1,(num_told h2).1,flag_told]
theorem parts_told {nm:List UInt8} (n1:nm≠seqL) (n2:nm≠relL):∀{l:List St},(∀x∈l,numB x.id=true/\numB x.seq=true)->readL nm (l.map (partJ nm))=some l
 | [],_=>rfl
 | x::r,h=>by
   rw [List.map_cons,readL,part_told (h x (List.mem_cons_self ..)).1 (h x (List.mem_cons_self ..)).2 n1 n2,parts_told n1 n2 (fun y hy=>h y (List.mem_cons_of_mem _ hy))]
theorem nodes_nums:∀{q:Int} {p:Bool} {l:List St},nodesB q p l=true->∀x∈l,numB x.id=true/\numB x.seq=true
 | _,_,[],_,x,hx=>by simp at hx
 | q,p,y::r,h,x,hx=>by
   rw [nodesB] at h;simp only [Bool.and_eq_true] at h;rcases List.mem_cons.1 hx with rfl | hx
   ·exact ⟨h.1,h.2.1⟩
   ·exact nodes_nums h.2.2.2.2 x hx
theorem edges_nums:∀{es l:List St},edgesB es l=true->∀x∈es,numB x.id=true/\numB x.seq=true
 | [],_,_,x,hx=>by simp at hx
 | e::es,a::b::r,h,x,hx=>by
   rw [edgesB] at h;simp only [Bool.and_eq_true] at h;rcases List.mem_cons.1 hx with rfl | hx
   ·exact ⟨h.1,h.2.1⟩
   ·exact edges_nums h.2.2.2.2 x hx
 | _::_,[],h,_,_=>by simp [edgesB] at h
 | _::_,[_],h,_,_=>by simp [edgesB] at h
theorem take_lay {nm:List UInt8->Bool} {x:O} (h:rightO nm x=true):takeJ nm (layJ x)=some x:=by
 have hr:=h;unfold rightO at h;simp only [Bool.and_eq_true] at h;obtain ⟨h1,h2,h3,h4,h5,h6,h7,h8,h9,h10,h11⟩:=h
 have g:∀(i:Nat) (n:List UInt8) (y:J),plcL n [hdrL,serL,ordL,updL,nodL,edgL] 0 6=(i:Int)-> [numJ x.h,J.mk 5 0 0 x.v [] [],numJ x.o,numJ x.u,J.mk 6 0 0 [] [] (x.ns.map (partJ nidL)),J.mk 6 0 0 [] [] (x.es.map (partJ eidL))].getD i j0=y->getS (layJ x) n=(y,true):=by
  intro i n y hp hy
  have hpl:plc (layJ x) n=(i:Int):=by
   unfold plc;rw [if_pos (show (layJ x).k=7 from rfl)];exact hp
  unfold getS;rw [hpl,if_neg (by omega),Int.toNat_natCast,<-hy]
  rfl
 have g0:=g 0 hdrL _ (by decide) rfl;have g1:=g 1 serL _ (by decide) rfl;have g2:=g 2 ordL _ (by decide) rfl;have g3:=g 3 updL _ (by decide) rfl;have g4:=g 4 nodL _ (by decide) rfl;have g5:=g 5 edgL _ (by decide) rfl;simp only [List.getD_cons_zero,List.getD_cons_succ] at g0 g1 g2 g3 g4 g5
 have t:toldJ (layJ x)=some x:=by
  unfold toldJ fieldS;rw [g0,g1,g2,g3,g4,g5];simp only [(num_told h2).1,(num_told h3).1,(num_told h4).1,if_true];have e1:txtS (J.mk 5 0 0 x.v [] [])=(x.v,true):=rfl;have e2:∀l,lstS (J.mk 6 0 0 [] [] l)=(l,true):=fun l=>rfl
  simp only [e1,e2,if_true,parts_told (show nidL≠seqL by decide) (show nidL≠relL by decide) (nodes_nums h10),parts_told (show eidL≠seqL by decide) (show eidL≠relL by decide) (edges_nums h11)]
 unfold takeJ;rw [t];simp only;rw [if_pos hr]
end Go.Proofs.YtclghelocglnlaaGreatDoor.Od
namespace Go.Proofs.YtclghelocglnlaaGreatDoor.Od
open Go.RowKit Js
def asciiB (l:List UInt8):Bool:=l.all fun c=>decide (32<=c.toNat) && (decide (c.toNat < 128) && (decide (c.toNat≠34) && decide (c.toNat≠92)))
theorem ascii_of {l:List UInt8} (h:asciiB l=true):∀c∈l,32<=c.toNat/\c.toNat < 128/\c.toNat≠34/\c.toNat≠92:=fun c hc=>by
 have:=List.all_eq_true.1 h c hc
 simpa using this
theorem ascii_flat:∀{l:List UInt8},(∀c∈l,c.toNat < 128)->Quo.flat (l.map (·.toNat))=l
 | [],_=>rfl
 | c::r,h=>by
   have e:=ascii_flat (l:=r) (fun x hx=>h x (List.mem_cons_of_mem _ hx));have hc:Quo.enc c.toNat= [c]:=by rw [Quo.enc_one (h c (List.mem_cons_self ..))];simp
   unfold Quo.flat at e⊢;rw [List.map_cons,List.flatMap_cons,hc,e]
   rfl
theorem ascii_vr {l:List UInt8} (h:∀c∈l,c.toNat < 128):∀r∈l.map (·.toNat),Quo.vr r:=fun r hr=>by
 obtain ⟨c,hc,rfl⟩:=List.mem_map.1 hr;have:=h c hc;unfold Quo.vr
 omega
theorem ascii_whole {l:List UInt8} (h:asciiB l=true):Quo.wholeB l=true:=by
 have h1:∀c∈l,c.toNat < 128:=fun c hc=>(ascii_of h c hc).2.1
 rw [<-ascii_flat h1];exact Quo.wholeB_flat' (ascii_vr h1)
theorem ascii_body:∀{l:List UInt8},(∀c∈l,32<=c.toNat/\c.toNat < 128/\c.toNat≠34/\c.toNat≠92)->Quo.bodyQ (l.map (·.toNat))=l
 | [],_=>rfl
 | c::r,h=>by
   have e:=ascii_body (l:=r) (fun x hx=>h x (List.mem_cons_of_mem _ hx));obtain ⟨g1,g2,g3,g4⟩:=h c (List.mem_cons_self ..);have hc:Quo.enc c.toNat= [c]:=by rw [Quo.enc_one g2];simp
   have hq:Quo.qr c.toNat= [c]:=by unfold Quo.qr;rw [if_neg g3,if_neg g4,if_pos g1,hc]
   unfold Quo.bodyQ at e⊢;rw [List.map_cons,List.flatMap_cons,hq,e]
   rfl
theorem ascii_quote {l:List UInt8} (h:asciiB l=true):Quo.quoteL l=34::(l++ [34]):=by
 have h1:∀c∈l,c.toNat < 128:=fun c hc=>(ascii_of h c hc).2.1
 unfold Quo.quoteL
 conv=>lhs;rw [<-ascii_flat h1]
 rw [Quo.qBody_flat' (ascii_vr h1),ascii_body (ascii_of h)]
theorem quote_size {l:List UInt8} (h:asciiB l=true):(Quo.quoteL l).length=l.length+2:=by rw [ascii_quote h];simp
theorem num_right {n:Int} (d:Nat) (hd:d<=16) (h:numB n=true):rightJ d (numJ n)=true:=by
 unfold numJ;rw [rightJ,rightL];have h1:=(num_told h).2;simp [hd,bareB,formB,h1]
theorem flag_right (b:Bool) (d:Nat) (hd:d<=16):rightJ d (boolJ b)=true:=by
 unfold boolJ;rw [rightJ,rightL]
 cases b <;> simp [hd,bareB,formB]
theorem num_len {n:Int} (h:numB n=true):(printJ (numJ n)).length<=40:=by
 unfold numJ;rw [printJ,if_neg (by decide),if_neg (by decide),if_neg (by decide),if_pos rfl];exact (Dec.print_len (num_told h).2).1
theorem flag_len (b:Bool):(printJ (boolJ b)).length<=5:=by
 cases b
 ·show (printJ (.mk 2 0 0 [] [] [])).length<=5;rw [printJ,if_neg (by decide),if_pos rfl];decide
 ·show (printJ (.mk 3 0 0 [] [] [])).length<=5;rw [printJ,if_neg (by decide),if_neg (by decide),if_pos rfl];decide
theorem part_right {nm:List UInt8} {x:St} (d:Nat) (hd:d+1<=16) (h1:numB x.id=true) (h2:numB x.seq=true) (ha:asciiB nm=true) (n1:nm≠seqL) (n2:nm≠relL):rightJ d (partJ nm x)=true:=by
 unfold partJ;rw [rightJ,rightL,rightL,rightL,rightL,num_right _ hd h1,num_right _ hd h2,flag_right _ _ hd];have w1:=ascii_whole ha;have w2:=ascii_whole (l:=seqL) (by decide);have w3:=ascii_whole (l:=relL) (by decide);have hd':d<=16:=by omega
 have c1:(seqL==nm)=false:=by simpa using fun e=>n1 e.symm
 have c2:(relL==nm)=false:=by simpa using fun e=>n2 e.symm
 have c3:(relL==seqL)=false:=by decide
 simp [hd',bareB,formB,namesB,w1,w2,w3,c1,c2,c3]
 first | done | (refine ⟨fun e=>n1 e.symm,fun e=>n2 e.symm,by decide⟩) | skip
theorem part_len {nm:List UInt8} {x:St} (h1:numB x.id=true) (h2:numB x.seq=true) (ha:asciiB nm=true):(printJ (partJ nm x)).length<=nm.length+123:=by
 have l1:=num_len h1;have l2:=num_len h2;have l3:=flag_len x.rel;have q1:=quote_size ha;have q2:=quote_size (l:=seqL) (by decide);have q3:=quote_size (l:=relL) (by decide);have s2:seqL.length=10:=rfl;have s3:relL.length=8:=rfl;unfold partJ;rw [printJ,if_neg (by decide),if_neg (by decide),if_neg (by decide),if_neg (by decide),if_neg (by decide),if_neg (by decide),if_pos rfl,printL,printL,printL,printL];simp only [List.headD_cons,List.tail_cons,List.length_append,List.length_cons,List.length_nil,if_true,Bool.false_eq_true,if_false]
 omega
end Go.Proofs.YtclghelocglnlaaGreatDoor.Od
namespace Go.Proofs.YtclghelocglnlaaGreatDoor.Od
open Go.RowKit Js
def NameOk (nm:List UInt8->Bool):Prop:=∀l,nm l=true->asciiB l=true/\l.length<=16
def layS (x:O):List UInt8:=Se.sealS (printJ (layJ x))
def takeS (nm:List UInt8->Bool) (s:List UInt8):Int×Option O:=
 match Se.openS s with
 | none=>(60,none)
 | some t=>if (parseS t).1=0 then (match takeJ nm (parseS t).2.1 with | some x=>(0,some x) | none=>(80,none)) else ((parseS t).1,none)
theorem parts_right {nm:List UInt8} (ha:asciiB nm=true) (n1:nm≠seqL) (n2:nm≠relL) (d:Nat) (hd:d+1<=16):∀{l:List St},(∀x∈l,numB x.id=true/\numB x.seq=true)->rightL d (l.map (partJ nm))=true
 | [],_=>by rw [List.map_nil,rightL]
 | x::r,h=>by
   rw [List.map_cons,rightL,part_right d hd (h x (List.mem_cons_self ..)).1 (h x (List.mem_cons_self ..)).2 ha n1 n2,parts_right ha n1 n2 d hd (fun y hy=>h y (List.mem_cons_of_mem _ hy))]
   rfl
theorem parts_len {nm:List UInt8} (ha:asciiB nm=true):∀{l:List St} (f:Bool),(∀x∈l,numB x.id=true/\numB x.seq=true)->(printL false f [] (l.map (partJ nm))).length<=l.length * (nm.length+124)
 | [],f,_=>by rw [List.map_nil,printL];simp
 | x::r,f,h=>by
   have h1:=part_len (h x (List.mem_cons_self ..)).1 (h x (List.mem_cons_self ..)).2 ha;have h2:=parts_len ha (l:=r) false (fun y hy=>h y (List.mem_cons_of_mem _ hy));rw [List.map_cons,printL];simp only [List.tail_nil,List.length_append,List.length_cons,Bool.false_eq_true,if_false,List.length_nil];rw [Nat.add_mul]
   cases f <;> simp <;> omega
theorem arr_right {d:Nat} (hd:d+1<=16) {l:List J} (h:rightL (d+1) l=true):rightJ d (.mk 6 0 0 [] [] l)=true:=by
 rw [rightJ,h];have hd':d<=16:=by omega
 simp [hd',bareB,formB]
theorem names_right:namesB [] [hdrL,serL,ordL,updL,nodL,edgL]=true:=by
 simp only [namesB,ascii_whole (show asciiB hdrL=true by decide),ascii_whole (show asciiB serL=true by decide),ascii_whole (show asciiB ordL=true by decide),ascii_whole (show asciiB updL=true by decide),ascii_whole (show asciiB nodL=true by decide),ascii_whole (show asciiB edgL=true by decide)]
 decide
theorem rightO_parts {nm:List UInt8->Bool} {x:O} (h:rightO nm x=true):nm x.v=true/\numB x.h=true/\numB x.o=true/\numB x.u=true/\1<=x.ns.length/\x.ns.length<=64/\x.es.length+1=x.ns.length/\
 (∀y∈x.ns,numB y.id=true/\numB y.seq=true)/\(∀y∈x.es,numB y.id=true/\numB y.seq=true):=by
 unfold rightO at h;simp only [Bool.and_eq_true,decide_eq_true_eq] at h;obtain ⟨h1,h2,h3,h4,h5,h6,h7,h8,h9,h10,h11⟩:=h;exact ⟨h1,h2,h3,h4,h5,h6,h7,nodes_nums h10,edges_nums h11⟩
theorem lay_right {nm:List UInt8->Bool} (hn:NameOk nm) {x:O} (h:rightO nm x=true):rightJ 1 (layJ x)=true:=by
 obtain ⟨h1,h2,h3,h4,_,_,_,h8,h9⟩:=rightO_parts h;have r1:=arr_right (d:=2) (by omega) (parts_right (nm:=nidL) (by decide) (by decide) (by decide) 3 (by omega) h8);have r2:=arr_right (d:=2) (by omega) (parts_right (nm:=eidL) (by decide) (by decide) (by decide) 3 (by omega) h9)
 have rv:rightJ 2 (.mk 5 0 0 x.v [] [])=true:=by
  rw [rightJ,rightL];simp [bareB,formB,ascii_whole (hn _ h1).1]
 unfold layJ;rw [rightJ,rightL,rightL,rightL,rightL,rightL,rightL,rightL,num_right 2 (by omega) h2,num_right 2 (by omega) h3,num_right 2 (by omega) h4,rv,r1,r2];simp [bareB,formB,names_right]
theorem lay_len {nm:List UInt8->Bool} (hn:NameOk nm) {x:O} (h:rightO nm x=true):(printJ (layJ x)).length<=20000:=by
 obtain ⟨h1,h2,h3,h4,h5,h6,h7,h8,h9⟩:=rightO_parts h;obtain ⟨v1,v2⟩:=hn _ h1;have l1:=num_len h2;have l2:=num_len h3;have l3:=num_len h4;have l4:=quote_size v1;have l5:=parts_len (nm:=nidL) (by decide) true h8;have l6:=parts_len (nm:=eidL) (by decide) true h9;have a1:nidL.length=6:=rfl;have a2:eidL.length=6:=rfl;rw [a1] at l5;rw [a2] at l6;have q1:=quote_size (l:=hdrL) (by decide);have q2:=quote_size (l:=serL) (by decide);have q3:=quote_size (l:=ordL) (by decide);have q4:=quote_size (l:=updL) (by decide);have q5:=quote_size (l:=nodL) (by decide);have q6:=quote_size (l:=edgL) (by decide);have b1:hdrL.length=8:=rfl;have b2:serL.length=12:=rfl;have b3:ordL.length=7:=rfl;have b4:updL.length=13:=rfl;have b5:nodL.length=5:=rfl;have b6:edgL.length=5:=rfl;have p5:(printJ (.mk 5 0 0 x.v [] [])).length=x.v.length+2:=by rw [printJ,if_neg (by decide),if_neg (by decide),if_neg (by decide),if_neg (by decide),if_pos rfl,l4]
 have p6:∀l,(printJ (.mk 6 0 0 [] [] l)).length=(printL false true [] l).length+2:=fun l=>by
  rw [printJ,if_neg (by decide),if_neg (by decide),if_neg (by decide),if_neg (by decide),if_neg (by decide),if_pos rfl];simp
 have p7:=p6 (x.ns.map (partJ nidL));have p8:=p6 (x.es.map (partJ eidL));unfold layJ;rw [printJ,if_neg (by decide),if_neg (by decide),if_neg (by decide),if_neg (by decide),if_neg (by decide),if_neg (by decide),if_pos rfl,printL,printL,printL,printL,printL,printL,printL];simp only [List.headD_cons,List.tail_cons,List.length_append,List.length_cons,List.length_nil,if_true,Bool.false_eq_true,if_false]
 omega
theorem takeS_layS {nm:List UInt8->Bool} (hn:NameOk nm) {x:O} (h:rightO nm x=true):takeS nm (layS x)=(0,some x):=by
 unfold takeS layS;rw [Se.open_seal];simp only;rw [parse_print (lay_right hn h) (lay_len hn h),if_pos rfl,take_lay h]
end Go.Proofs.YtclghelocglnlaaGreatDoor.Od
namespace Go.Proofs.YtclghelocglnlaaGreatDoor.Od
open Go.RowKit Js Lex
def stV (x:St):Value:= .agg #[.int .i64 x.id,.int .i64 x.seq,.bool x.rel]
def StsAt (S:Nat->Prop) (w:World) (v:Value) (l:List St):Prop:=
 ∃ao cap,v= .slice ao l.length cap/\l.length<=cap/\l.length<=5864062014805/\(∀x∈l,i64B x.id/\i64B x.seq)/\
  (0 < l.length->∃b off,ao=some ⟨b,off,none⟩/\S b/\b < w.heap.size/\∀i,i < l.length->LiesAt w b (off+i * 3) (stV (l.getD i st0)))
def oV (h:Int) (v:List UInt8) (o u:Int) (nv ev:Value):Value:= .agg #[.int .i64 h,.string ⟨v.toArray⟩,.int .i64 o,.int .i64 u,nv,ev]
def OAt (S:Nat->Prop) (w:World) (v:Value) (x:O):Prop:=
 ∃nv ev,v=oV x.h x.v x.o x.u nv ev/\i64B x.h/\x.v.length<=140737488355328/\i64B x.o/\i64B x.u/\StsAt S w nv x.ns/\StsAt S w ev x.es
theorem StsAt.keep {S S':Nat->Prop} {w w':World} {v:Value} {l:List St} (h:StsAt S w v l) (hS:∀b,S b->b < w.heap.size->S' b) (hk:∀b,S b->b < w.heap.size->w'.heap[b]?=w.heap[b]?) (hs:w.heap.size<=w'.heap.size):StsAt S' w' v l:=by
 obtain ⟨ao,cap,h1,h2,h3,h4,h5⟩:=h;refine ⟨ao,cap,h1,h2,h3,h4,fun hp=> ?_⟩;obtain ⟨b,off,e1,e2,e3,e4⟩:=h5 hp;exact ⟨b,off,e1,hS b e2 e3,Nat.lt_of_lt_of_le e3 hs,fun i hi=>(e4 i hi).keep (hk b e2 e3)⟩
theorem StsAt.below {S:Nat->Prop} {w w':World} {v:Value} {l:List St} (h:StsAt S w v l) {B:Nat} (hb:Below B w w') (hB:w.heap.size<=B):StsAt S w' v l:=
 h.keep (fun _ h _=>h) (fun b _ hl=>hb.block b (by omega)) hb.size
theorem StsAt.any {S:Nat->Prop} {w:World} {v:Value} {l:List St} (h:StsAt S w v l):StsAt Any w v l:=h.keep (fun _ _ _=>trivial) (fun _ _ _=>rfl) (Nat.le_refl _)
theorem OAt.keep {S S':Nat->Prop} {w w':World} {v:Value} {x:O} (h:OAt S w v x) (hS:∀b,S b->b < w.heap.size->S' b) (hk:∀b,S b->b < w.heap.size->w'.heap[b]?=w.heap[b]?) (hs:w.heap.size<=w'.heap.size):OAt S' w' v x:=by
 obtain ⟨nv,ev,h1,h2,h3,h4,h5,h6,h7⟩:=h;exact ⟨nv,ev,h1,h2,h3,h4,h5,h6.keep hS hk hs,h7.keep hS hk hs⟩
theorem OAt.below {S:Nat->Prop} {w w':World} {v:Value} {x:O} (h:OAt S w v x) {B:Nat} (hb:Below B w w') (hB:w.heap.size<=B):OAt S w' v x:=
 h.keep (fun _ h _=>h) (fun b _ hl=>hb.block b (by omega)) hb.size
theorem OAt.any {S:Nat->Prop} {w:World} {v:Value} {x:O} (h:OAt S w v x):OAt Any w v x:=h.keep (fun _ _ _=>trivial) (fun _ _ _=>rfl) (Nat.le_refl _)
theorem three_cells {w:World} {b off:Nat} {x:St} (h:LiesAt w b off (stV x)):w.cell? ⟨b,off,none⟩=some (.int .i64 x.id)/\w.cell? ⟨b,off+1,none⟩=some (.int .i64 x.seq)/\w.cell? ⟨b,off+2,none⟩=some (.bool x.rel):=
 ⟨h 0 _ rfl,h 1 _ rfl,h 2 _ rfl⟩
theorem OAt.open_ {S:Nat->Prop} {w:World} {v:Value} {x:O} (h:OAt S w v x):
 ∃an cn ae ce,v= .agg #[.int .i64 x.h,.string ⟨x.v.toArray⟩,.int .i64 x.o,.int .i64 x.u,.slice an x.ns.length cn,.slice ae x.es.length ce]/\i64B x.h/\x.v.length<=140737488355328/\i64B x.o/\i64B x.u/\StsAt S w (.slice an x.ns.length cn) x.ns/\StsAt S w (.slice ae x.es.length ce) x.es:=by
 obtain ⟨nv,ev,h1,h2,h3,h4,h5,h6,h7⟩:=h;obtain ⟨an,cn,e1,_⟩:=id h6;obtain ⟨ae,ce,e2,_⟩:=id h7;subst e1 e2;exact ⟨an,cn,ae,ce,h1,h2,h3,h4,h5,h6,h7⟩
theorem sts_nil {S:Nat->Prop} {w:World} {c:Nat}:StsAt S w (.slice none 0 c) []:=⟨none,c,rfl,by simp,by simp,fun x hx=>by simp at hx,fun h=>by simp at h⟩
def o0:O:=⟨0,[],0,0,[],[]⟩
theorem o0_at {S:Nat->Prop} {w:World}:OAt S w (.agg #[.int .i64 0,.string ⟨#[]⟩,.int .i64 0,.int .i64 0,.slice none 0 0,.slice none 0 0]) o0:=
 ⟨_,_,rfl,⟨by decide,by decide⟩,by simp [o0],⟨by decide,by decide⟩,⟨by decide,by decide⟩,sts_nil,sts_nil⟩
theorem nodesB_step {q:Int} {p:Bool} {l:List St} {k:Nat} (hk:k < l.length):nodesB q p (l.drop k)=(numB (l.getD k st0).id && (numB (l.getD k st0).seq && ((l.getD k st0).seq==q && ((!(l.getD k st0).rel || p) && nodesB (q+2) (l.getD k st0).rel (l.drop (k+1)))))):=by
 rw [List.drop_eq_getElem_cons hk,nodesB,List.getD_eq_getElem?_getD,List.getElem?_eq_getElem hk]
 rfl
theorem stsB_step {l m:List St} {k:Nat} (h1:k < l.length) (h2:k < m.length):stsB (l.drop k) (m.drop k)=(stB (l.getD k st0) (m.getD k st0) && stsB (l.drop (k+1)) (m.drop (k+1))):=by
 rw [List.drop_eq_getElem_cons h1,List.drop_eq_getElem_cons h2,stsB,List.getD_eq_getElem?_getD,List.getElem?_eq_getElem h1,List.getD_eq_getElem?_getD,List.getElem?_eq_getElem h2]
 rfl
theorem stsB_len:∀{l m:List St},l.length≠m.length->stsB l m=false
 | [],[],h=>absurd rfl h
 | a::r,b::s,h=>by rw [stsB,stsB_len (l:=r) (m:=s) (by simpa using h),Bool.and_false]
 | [],_::_,_=>rfl
 | _::_,[],_=>rfl
theorem base_step {l:List St} {k:Nat} (hk:k < l.length):((l.drop k).filter (·.rel)).length=(if (l.getD k st0).rel=true then 1 else 0)+((l.drop (k+1)).filter (·.rel)).length:=by
 rw [List.drop_eq_getElem_cons hk,List.getD_eq_getElem?_getD,List.getElem?_eq_getElem hk];simp only [List.filter_cons,Option.getD_some]
 split
 ·rw [List.length_cons];omega
 ·omega
end Go.Proofs.YtclghelocglnlaaGreatDoor.Od
namespace Go.Proofs.YtclghelocglnlaaGreatDoor.Od
open Go.RowKit Js
def stepB (a e b:St):Bool:=(numB e.id && (numB e.seq && (numB b.id && numB b.seq))) && (e.seq==a.seq+1 && (b.seq==e.seq+1 && (b.rel==e.rel && (a.rel || !e.rel))))
def stepsB:List St->List St->Bool
 | e::es,a::b::r=>stepB a e b && stepsB es (b::r)
 | [],_=>true
 | _::_,[]=>false
 | _::_,[_]=>false
def firstB (a:St):Bool:=numB a.id && (numB a.seq && (decide (a.seq % 2=0) && a.rel))
def lineB (ns es:List St):Bool:=decide (1<=ns.length) && (decide (ns.length<=64) && (decide (es.length+1=ns.length) && (firstB (ns.headD st0) && stepsB es ns)))
theorem steps_nodes:∀{es r:List St} {a:St},es.length=r.length->stepsB es (a::r)=(nodesB (a.seq+2) a.rel r && edgesB es (a::r))
 | [],[],a,_=>by simp [stepsB,nodesB,edgesB]
 | e::es,b::r,a,h=>by
   rw [stepsB,nodesB,edgesB,steps_nodes (es:=es) (r:=r) (a:=b) (by simpa using h)]
   by_cases hs:b.seq=a.seq+2
   ·rw [hs];have e1:(a.seq+2==a.seq+2)=true:=by simp
    have e2:(a.seq+2==e.seq+1)=(e.seq==a.seq+1):=by
     rw [Bool.eq_iff_iff];simp;omega
    unfold stepB;rw [hs,e1,e2];have e3:(b.rel==e.rel)=(e.rel==b.rel):=(by cases b.rel <;> cases e.rel <;> rfl);rw [e3];generalize numB e.id=x1;generalize numB e.seq=x2;generalize numB b.id=x3;generalize numB (a.seq+2)=x4;generalize (e.seq==a.seq+1)=x5;generalize nodesB (a.seq+2+2) b.rel r=x6;generalize edgesB es (b::r)=x7;generalize a.rel=y1;generalize b.rel=y2;generalize e.rel=y3
    revert x1 x2 x3 x4 x5 x6 x7 y1 y2 y3
    decide
   ·have e1:(b.seq==a.seq+2)=false:=by simpa using hs
    have e2:(e.seq==a.seq+1 && b.seq==e.seq+1)=false:=by
     rw [Bool.eq_false_iff];simp;omega
    have e3:stepB a e b=false:=by
     unfold stepB;rw [<-Bool.and_assoc (e.seq==a.seq+1),e2];simp
    rw [e1,e3];simp
 | [],_::_,_,h=>by simp at h
 | _::_,[],_,h=>by simp at h
theorem line_right (nm:List UInt8->Bool) (x:O):rightO nm x=((numB x.h && (numB x.o && numB x.u)) && (nm x.v && lineB x.ns x.es)):=by
 obtain ⟨h,v,o,u,ns,es⟩:=x;unfold rightO lineB;simp only
 by_cases hl:1<=ns.length/\es.length+1=ns.length
 ·obtain ⟨h1,h2⟩:=hl
  match ns,h1 with
  | a::r,_=>
    have h3:es.length=r.length:=(by simpa using h2);rw [steps_nodes h3,nodesB];have hd:(a::r).headD st0=a:=rfl;have h2':decide (es.length+1=(a::r).length)=true:=(by simpa using h3);rw [hd,h2'];have e1:(a.seq==a.seq)=true:=(by simp);have e2:(!a.rel || true)=true:=(by simp);rw [e1,e2];unfold firstB;generalize nm v=x0;generalize numB h=x1;generalize numB o=x2;generalize numB u=x3;generalize decide (1<=(a::r).length)=x4;generalize decide ((a::r).length<=64)=x5;generalize numB a.id=x6;generalize numB a.seq=x7;generalize decide (a.seq % 2=0)=x8;generalize a.rel=x9;generalize nodesB (a.seq+2) x9 r=y1;generalize edgesB es (a::r)=y2
    cases x0 <;> cases x1 <;> cases x2 <;> cases x3 <;> cases x4 <;> cases x5 <;> cases x6 <;> cases x7 <;> cases x8 <;> cases x9 <;> simp
 ·have hf:(decide (1<=ns.length) && decide (es.length+1=ns.length))=false:=by
   rw [Bool.eq_false_iff];simpa using hl
  generalize decide (1<=ns.length)=x4 at *;generalize decide (es.length+1=ns.length)=x5 at *
  cases x4
  ·simp
  ·cases x5
   ·simp
   ·simp at hf
theorem stepsB_step {es ns:List St} {k:Nat} (h1:k < es.length) (h2:k+1 < ns.length):stepsB (es.drop k) (ns.drop k)=(stepB (ns.getD k st0) (es.getD k st0) (ns.getD (k+1) st0) && stepsB (es.drop (k+1)) (ns.drop (k+1))):=by
 rw [drop_getD0 st0 h1,drop_getD0 st0 (show k < ns.length by omega),drop_getD0 st0 h2,stepsB]
theorem edgesB_step {es ns:List St} {k:Nat} (h1:k < es.length) (h2:k+1 < ns.length):edgesB (es.drop k) (ns.drop k)=(numB (es.getD k st0).id && (numB (es.getD k st0).seq && ((es.getD k st0).seq==(ns.getD k st0).seq+1 && ((es.getD k st0).rel==(ns.getD (k+1) st0).rel && edgesB (es.drop (k+1)) (ns.drop (k+1)))))):=by
 rw [drop_getD0 st0 h1,drop_getD0 st0 (show k < ns.length by omega),drop_getD0 st0 h2,edgesB]
theorem stepsB_nil (ns:List St):stepsB [] ns=true:=by cases ns <;> rfl
theorem edgesB_nil (ns:List St):edgesB [] ns=true:=by cases ns <;> rfl
theorem field_tell {α:Type} (z:α) (f:J->α×Bool) (j:J) (nm:List UInt8):fieldS f j nm=if (tellG z f j nm).2=true then some (tellG z f j nm).1 else none:=by
 unfold fieldS tellG getS
 by_cases h:plc j nm < 0
 ·simp [h]
 ·simp [h]
def partT (nm:List UInt8) (j:J):St×Bool:=
 (⟨(tellG 0 numS j nm).1,(tellG 0 numS j seqL).1,(tellG false flagS j relL).1⟩,(tellG 0 numS j nm).2 && ((tellG 0 numS j seqL).2 && (tellG false flagS j relL).2))
def allT (nm:List UInt8) (l:List J):List St×Bool:=(l.map fun y=>(partT nm y).1,l.all fun y=>(partT nm y).2)
theorem read_part (nm:List UInt8) (j:J):readJ nm j=if (partT nm j).2=true then some (partT nm j).1 else none:=by
 unfold readJ partT;rw [field_tell 0 numS j nm,field_tell 0 numS j seqL,field_tell false flagS j relL];generalize tellG 0 numS j nm=a;generalize tellG 0 numS j seqL=b;generalize tellG false flagS j relL=c;obtain ⟨a1,a2⟩:=a;obtain ⟨b1,b2⟩:=b;obtain ⟨c1,c2⟩:=c
 cases a2 <;> cases b2 <;> cases c2 <;> rfl
theorem read_all (nm:List UInt8):∀l:List J,readL nm l=if (allT nm l).2=true then some (allT nm l).1 else none
 | []=>rfl
 | x::r=>by
   rw [readL,read_part,read_all nm r];unfold allT;rw [List.all_cons,List.map_cons];generalize (partT nm x).2=a;generalize (r.all fun y=>(partT nm y).2)=b
   cases a <;> cases b <;> rfl
def toldT (j:J):O×Bool:=
 (⟨(tellG 0 numS j hdrL).1,(tellG [] txtS j serL).1,(tellG 0 numS j ordL).1,(tellG 0 numS j updL).1,(allT nidL (lsG j nodL).1).1,(allT eidL (lsG j edgL).1).1⟩,
   (tellG 0 numS j hdrL).2 && ((tellG [] txtS j serL).2 && ((tellG 0 numS j ordL).2 && ((tellG 0 numS j updL).2 && (((lsG j nodL).2 && (allT nidL (lsG j nodL).1).2) && ((lsG j edgL).2 && (allT eidL (lsG j edgL).1).2))))))
theorem told_all (j:J):toldJ j=if (toldT j).2=true then some (toldT j).1 else none:=by
 unfold toldJ toldT;rw [field_tell 0 numS j hdrL,field_tell [] txtS j serL,field_tell 0 numS j ordL,field_tell 0 numS j updL,field_tell [] lstS j nodL,field_tell [] lstS j edgL];rw [show tellG [] lstS j nodL=lsG j nodL from rfl,show tellG [] lstS j edgL=lsG j edgL from rfl];generalize tellG 0 numS j hdrL=a;generalize tellG [] txtS j serL=b;generalize tellG 0 numS j ordL=c;generalize tellG 0 numS j updL=d;generalize lsG j nodL=e;generalize lsG j edgL=f;obtain ⟨a1,a2⟩:=a;obtain ⟨b1,b2⟩:=b;obtain ⟨c1,c2⟩:=c;obtain ⟨d1,d2⟩:=d;obtain ⟨e1,e2⟩:=e;obtain ⟨f1,f2⟩:=f;simp only;have h1:=read_all nidL e1;have h2:=read_all eidL f1
 cases a2 <;> try rfl
 cases b2 <;> try rfl
 cases c2 <;> try rfl
 cases d2 <;> try rfl
 cases e2 <;> try rfl
 cases f2
 ·simp
 ·simp only [if_true,h1,h2];generalize (allT nidL e1).2=x;generalize (allT eidL f1).2=y
  cases x <;> cases y <;> rfl
theorem take_told (nm:List UInt8->Bool) (j:J):takeJ nm j=if (toldT j).2=true/\rightO nm (toldT j).1=true then some (toldT j).1 else none:=by
 unfold takeJ;rw [told_all]
 cases h:(toldT j).2
 ·simp
 ·simp only [if_true,true_and]
theorem allT_take {nm:List UInt8} {l:List J} {k:Nat} (hk:k < l.length):(allT nm (l.take (k+1))).1=(allT nm (l.take k)).1++ [(partT nm (l.getD k j0)).1]/\(allT nm (l.take (k+1))).2=((allT nm (l.take k)).2 && (partT nm (l.getD k j0)).2):=by
 have e:l.take (k+1)=l.take k++ [l.getD k j0]:=by
  rw [List.getD_eq_getElem?_getD,List.getElem?_eq_getElem hk,Option.getD_some,List.take_append_getElem]
 rw [e];unfold allT;simp
end Go.Proofs.YtclghelocglnlaaGreatDoor.Od
namespace Go.Proofs.YtclghelocglnlaaGreatDoor.Od
open Go.RowKit Js Lex
theorem stop_info:(Tryz.prog.info? 41).map (fun i=>(i.zero,i.size,i.bytes))=some (some (.agg #[.int .i64 0,.int .i64 0,.bool false]),3,24):=by kernel_rfl
theorem way_info:(Tryz.prog.info? 43).map (fun i=>(i.zero,i.size,i.bytes))=some (some (.agg #[.int .i64 0,.int .i64 0,.bool false]),3,24):=by kernel_rfl
def cellsS (l:List St):List Value:=l.flatMap fun x=> [.int .i64 x.id,.int .i64 x.seq,.bool x.rel]
theorem cellsS_app (l:List St) (x:St):cellsS (l++ [x])=cellsS l++ [.int .i64 x.id,.int .i64 x.seq,.bool x.rel]:=by unfold cellsS;simp
theorem cellsS_get:∀(l:List St) (j i:Nat),j < l.length->i < 3->(cellsS l)[j * 3+i]?=(aggC (stV (l.getD j st0)))[i]?
 | [],j,i,hj,_=>by simp at hj
 | x::r,j,i,hj,hi=>by
   have e:cellsS (x::r)= [.int .i64 x.id,.int .i64 x.seq,.bool x.rel]++cellsS r:=rfl;rw [e]
   cases j with
   | zero=>rw [List.getElem?_append_left (by simp;omega)];simp [aggC,stV]
   | succ j=>
     have h3:([Value.int .i64 x.id,.int .i64 x.seq,.bool x.rel]:List Value).length=3:=rfl;rw [List.getElem?_append_right (by rw [h3];omega),h3,show (j+1) * 3+i - 3=j * 3+i by omega,cellsS_get r j i (by simpa using hj) hi];simp
def goodS (x:St):Prop:=i64B x.id/\i64B x.seq
theorem sts_own {w:World} {base T:Nat} {v:Value} {l:List St} (h:w.ownsRow base T 3 v l.length (cellsS l)) (hl:l.length<=5864062014805) (hg:∀x∈l,goodS x):StsAt (fun b=>base<=b) w v l:=by
 rcases h.2 with ⟨e,h0⟩ | ⟨g,cap,cur,hv,hbg,hc,hnc,hcm,hcs,htake⟩
 ·subst e;have:l= []:=List.length_eq_zero_iff.1 h0;subst this;exact sts_nil
 ·subst hv;refine ⟨_,_,rfl,hnc,hl,hg,fun _=>⟨g,0,rfl,hbg,Own.block_lt hc,fun i hi q c hq=> ?_⟩⟩;have hq3:q < 3:=by simpa [aggC,stV] using (List.getElem?_eq_some_iff.1 hq).1
  rw [Nat.zero_add,h.cellAt (i * 3+q) (by omega),cellsS_get l i q hi hq3,hq]
theorem append_st {P:Program} {W:World} {ops:Array Oper} {rest:List Oper} {o:Oper} {a:Act} {Q:Exit->Act->World->Prop} (hgd:o.guard=none) (s x:Operand) {Ts T:TypeId} {z:Value}
 (hinfo:(P.info? T).map (fun i=>(i.zero,i.size,i.bytes))=some (some z,3,24)) (hz:z.cells.size=3) (hu:P.underlying Ts=some (.slice T))
 (ho:o.op= .call { callee:= .builtin .append,args:=#[s,x],argTypes:=#[Ts,Ts] }) (base:Nat) (v:Value) (l:List St) (hs:a.eval s=v) (hown:W.ownsRow base T 3 v l.length (cellsS l))
 (B c:Nat) (hx:a.eval x= .slice (some ⟨B,0,none⟩) 1 c) (y:St) (hB:W.heap[B]?=some (.cells #[.int .i64 y.id,.int .i64 y.seq,.bool y.rel] T (0,0)))
 (hlen:l.length+1<=1599289640355) (hbase:base<=W.heap.size)
 (h:∀a' c' w',w'.ownsRow base T 3 (.slice a' (l.length+1) c') (l.length+1) (cellsS (l++ [y]))->W.grownBy w' v.ownBlock->wpList P ops Q rest (a.put o.dst (.slice a' (l.length+1) c')) w'):wpList P ops Q (o::rest) a W:=by
 obtain ⟨i0,hi0,hz0,hz1,hz2⟩:=info_parts hinfo;refine wpList_append_own W hgd s x Ts ho base T i0 _ 3 24 hu hi0 hz0 hz1 hz2 hz (by decide) v l.length (cellsS l) hs hown ⟨B,0,none⟩ 1 c [.int .i64 y.id,.int .i64 y.seq,.bool y.rel] hx (by simp) ?_ (by simp [Value.oneCell']) (by unfold maxLen;omega) (by omega) hbase ?_
 ·intro j u hu;rw [show (⟨B,0,none⟩:Addr).add j=⟨B,j,none⟩ by simp only [Addr.add];split <;> simp_all,cell_of_row W B j _ _ _ hB]
  simpa using hu
 ·intro v' w' h2 h3 _;obtain ⟨a',c',rfl⟩:=own_slice h2;rw [<-cellsS_app] at h2;exact h a' c' w' h2 h3
theorem three_of {w:World} {b:Nat} {T:TypeId} {c0 c1 c2:Value} (h:w.heap[b]?=some (.cells #[c0,c1,c2] T (0,0))):
 (w.cell? ⟨b,0,none⟩=some c0/\w.cell? ⟨b,1,none⟩=some c1/\w.cell? ⟨b,2,none⟩=some c2)/\w.frozen? ⟨b,0,none⟩=false/\w.frozen? ⟨b,1,none⟩=false/\w.frozen? ⟨b,2,none⟩=false:=by
 have k:∀i,w.cell? ⟨b,i,none⟩=(#[c0,c1,c2]:Array Value)[i]?:=fun i=>cell_of_row _ _ _ _ _ _ h
 exact ⟨⟨k 0,k 1,k 2⟩,free_of h 0,free_of h 1,free_of h 2⟩
theorem StsAt.at_ {S:Nat->Prop} {w:World} {a:Option Addr} {n c:Nat} {l:List St} (h:StsAt S w (.slice a n c) l) {k:Nat} (hk:k < l.length):
 ∃b off,a=some ⟨b,off,none⟩/\S b/\b < w.heap.size/\goodS (l.getD k st0)/\w.cell? ⟨b,off+k * 3,none⟩=some (.int .i64 (l.getD k st0).id)/\w.cell? ⟨b,off+k * 3+1,none⟩=some (.int .i64 (l.getD k st0).seq)/\w.cell? ⟨b,off+k * 3+2,none⟩=some (.bool (l.getD k st0).rel):=by
 obtain ⟨ao,cap,h1,h2,h3,h4,h5⟩:=h
 cases h1
 obtain ⟨b,off,e1,e2,e3,e4⟩:=h5 (by omega);obtain ⟨c0,c1,c2⟩:=three_cells (e4 k hk);exact ⟨b,off,e1,e2,e3,h4 _ (by rw [List.getD_eq_getElem?_getD,List.getElem?_eq_getElem hk];exact List.getElem_mem _),c0,c1,c2⟩
theorem StsAt.len {S:Nat->Prop} {w:World} {a:Option Addr} {n c:Nat} {l:List St} (h:StsAt S w (.slice a n c) l):n=l.length/\l.length<=c/\l.length<=5864062014805:=by
 obtain ⟨ao,cap,h1,h2,h3,h4,h5⟩:=h
 cases h1
 exact ⟨rfl,h2,h3⟩
end Go.Proofs.YtclghelocglnlaaGreatDoor.Od
namespace Go.Proofs.YtclghelocglnlaaGreatDoor.Od
open Go.RowKit Js
open Quo (pickS pickS_nonneg pickS_lt)
def numR (z:Int):Int:=pickS z 1000000001
theorem numR_B (z:Int):numB (numR z)=true:=by
 have h1:=pickS_nonneg (c:=z) (n:=1000000001) (by decide);have h2:=pickS_lt (c:=z) (n:=1000000001) (by decide);unfold numB numR;simp
 omega
def cntF (x:O):Nat:=min (max x.ns.length 1) 64
def firstF (x:O):Int:=2 * pickS (x.es.length:Int) 500
def baseF (x:O) (base:Int):Int:=1+pickS base (cntF x)
def nodeF (x:O) (base:Int) (i:Nat):St:=⟨if i < x.ns.length then numR (x.ns.getD i st0).id else 0,firstF x+2 * i,decide ((i:Int) < baseF x base)⟩
def edgeF (x:O) (base:Int) (i:Nat):St:=⟨if i < x.ns.length then numR (x.ns.getD i st0).seq else 0,firstF x+2 * i - 1,decide ((i:Int) < baseF x base)⟩
def fitO (fit:List UInt8->List UInt8) (x:O) (base:Int):O:=
 ⟨numR x.h,fit x.v,numR x.o,numR x.u,(List.range' 0 (cntF x)).map (nodeF x base),(List.range' 1 (cntF x - 1)).map (edgeF x base)⟩
theorem cntF_B (x:O):1<=cntF x/\cntF x<=64:=by unfold cntF;omega
theorem firstF_B (x:O):0<=firstF x/\firstF x<=998/\firstF x % 2=0:=by
 have h1:=pickS_nonneg (c:=(x.es.length:Int)) (n:=500) (by decide);have h2:=pickS_lt (c:=(x.es.length:Int)) (n:=500) (by decide);unfold firstF
 omega
theorem baseF_B (x:O) (base:Int):1<=baseF x base/\baseF x base<=cntF x:=by
 have h:=cntF_B x;have h1:=pickS_nonneg (c:=base) (n:=(cntF x:Int)) (by omega);have h2:=pickS_lt (c:=base) (n:=(cntF x:Int)) (by omega);unfold baseF
 omega
theorem zero_B:numB 0=true:=by decide
theorem nodeF_id (x:O) (base:Int) (i:Nat):numB (nodeF x base i).id=true:=by
 show numB (if _ then _ else _)=true
 split
 ·exact numR_B _
 ·exact zero_B
theorem edgeF_id (x:O) (base:Int) (i:Nat):numB (edgeF x base i).id=true:=by
 show numB (if _ then _ else _)=true
 split
 ·exact numR_B _
 ·exact zero_B
theorem numB_of {n:Int} (h0:0<=n) (h1:n<=1000000000):numB n=true:=by unfold numB;simp;omega
theorem fit_nodes (x:O) (base:Int):∀(m k:Nat) (p:Bool),k+m<=64->((k:Int) < baseF x base->p=true)->nodesB (firstF x+2 * k) p ((List.range' k m).map (nodeF x base))=true
 | 0,k,p,_,_=>by rw [List.range'_zero,List.map_nil,nodesB]
 | m+1,k,p,hm,hp=>by
   obtain ⟨f1,f2,_⟩:=firstF_B x
   have ih:=fit_nodes x base m (k+1) (nodeF x base k).rel (by omega) (fun h=>by
    show decide ((k:Int) < baseF x base)=true;simp;omega)
   rw [List.range'_succ,List.map_cons,nodesB,nodeF_id];have e1:(nodeF x base k).seq=firstF x+2 * k:=rfl;have e2:numB (firstF x+2 * (k:Int))=true:=numB_of (by omega) (by omega)
   have e3:(!(nodeF x base k).rel || p)=true:=by
    show (!decide ((k:Int) < baseF x base) || p)=true
    by_cases h:(k:Int) < baseF x base
    ·rw [hp h];simp
    ·simp [h]
   rw [e1,e2,e3,show firstF x+2 * (k:Int)+2=firstF x+2 * ((k+1:Nat):Int) by omega,ih];simp
theorem fit_edges (x:O) (base:Int):∀(m k:Nat),k+m<=63->edgesB ((List.range' (k+1) m).map (edgeF x base)) ((List.range' k (m+1)).map (nodeF x base))=true
 | 0,k,_=>by rw [List.range'_zero,List.map_nil,edgesB]
 | m+1,k,hm=>by
   obtain ⟨f1,f2,_⟩:=firstF_B x;have ih:=fit_edges x base m (k+1) (by omega);rw [List.range'_succ (s:=k+1),List.map_cons,List.range'_succ (s:=k),List.map_cons,List.range'_succ (s:=k+1),List.map_cons,edgesB,edgeF_id];rw [List.range'_succ (s:=k+1),List.map_cons] at ih;have e1:(edgeF x base (k+1)).seq=firstF x+2 * ((k+1:Nat):Int) - 1:=rfl;have e2:numB (firstF x+2 * ((k+1:Nat):Int) - 1)=true:=numB_of (by omega) (by omega);have e3:(nodeF x base k).seq=firstF x+2 * k:=rfl;have e4:(edgeF x base (k+1)).rel=(nodeF x base (k+1)).rel:=rfl;rw [e1,e2,e3,e4,ih,show (firstF x+2 * ((k+1:Nat):Int) - 1==firstF x+2 * (k:Int)+1)=true by simp;omega];simp
theorem fit_rightO {nm:List UInt8->Bool} {fit:List UInt8->List UInt8} (hf:∀s,nm (fit s)=true) (x:O) (base:Int):rightO nm (fitO fit x base)=true:=by
 obtain ⟨c1,c2⟩:=cntF_B x;obtain ⟨f1,f2,f3⟩:=firstF_B x;obtain ⟨b1,b2⟩:=baseF_B x base;have hn:=fit_nodes x base (cntF x) 0 true (by omega) (fun _=>rfl);have he:=fit_edges x base (cntF x - 1) 0 (by omega);rw [show 0+1=1 from rfl,show cntF x - 1+1=cntF x by omega] at he
 have hh:((List.range' 0 (cntF x)).map (nodeF x base)).headD st0=nodeF x base 0:=by
  obtain ⟨c,hc⟩:∃c,cntF x=c+1:=⟨cntF x - 1,by omega⟩;rw [hc,List.range'_succ];rfl
 have hs:(nodeF x base 0).seq=firstF x+2 * ((0:Nat):Int):=rfl
 have hr:(nodeF x base 0).rel=true:=by
  show decide (((0:Nat):Int) < baseF x base)=true;simp;omega
 unfold rightO fitO;simp only [hf,numR_B,List.length_map,List.length_range',hh,hs,hr,hn,he,Bool.true_and,Bool.and_true];simp
 omega
end Go.Proofs.YtclghelocglnlaaGreatDoor.Od
namespace Go.Proofs.YtclghelocglnlaaGreatDoor.Od
open Go.RowKit Js
section
variable {nm:List UInt8->Bool} {x:O}
end
end Go.Proofs.YtclghelocglnlaaGreatDoor.Od
namespace Go.Proofs.YtclghelocglnlaaGreatDoor.Od
open Go.RowKit Js Lex
def backN (n:List UInt8):List (List UInt8):= [edgL,nodL,updL,ordL,serL,hdrL,120::n]
def backI (x:O):List J:= [.mk 6 0 0 [] [] (x.es.map (partJ eidL)),.mk 6 0 0 [] [] (x.ns.map (partJ nidL)),numJ x.u,numJ x.o,.mk 5 0 0 x.v [] [],numJ x.h,.mk 5 0 0 [121] [] []]
def backJ (x:O) (n:List UInt8):J:= .mk 7 0 0 [] (backN n) (backI x)
def lessJ (x:O) (n:List UInt8) (k:Nat):J:= .mk 7 0 0 [] ((backN n).eraseIdx k) ((backI x).eraseIdx k)
end Go.Proofs.YtclghelocglnlaaGreatDoor.Od
namespace Go.Proofs.YtclghelocglnlaaGreatDoor.Od
open Go.RowKit Js Lex
def MoreOk (n:List UInt8):Prop:=asciiB (120::n)=true/\n.length<=100
def sizeL:List (List UInt8)->List J->Nat
 | n::ns,x::r=>(Quo.quoteL n).length+(printJ x).length+2+sizeL ns r
 | _,_=>0
section
variable {nm:List UInt8->Bool} {x:O} {n:List UInt8}
end
end Go.Proofs.YtclghelocglnlaaGreatDoor.Od
