import Derived.Test.YtclghelocglnlaaGreatDoorPr
import Derived.Test.YtclghelocglnlaaGreatDoorAwake
set_option maxHeartbeats 0
set_option maxRecDepth 100000
set_option linter.all false
namespace Go.Proofs.YtclghelocglnlaaGreatDoor.Js
open Lex
mutual
def goodJ:J->Bool
 | .mk k m e t ns is=>bareB k m e t ns.length is.length && (formB k m e t ns is.length && goodL is)
def goodL:List J->Bool
 | []=>true
 | x::r=>goodJ x && goodL r
end
mutual
theorem good_right:∀(d:Nat) (j:J),rightJ d j=true->goodJ j=true
 | d,.mk k m e t ns is,h=>by
   rw [rightJ] at h;simp only [Bool.and_eq_true] at h;rw [goodJ,h.2.1,h.2.2.1,goodL_right (d+1) is h.2.2.2];rfl
theorem goodL_right:∀(d:Nat) (is:List J),rightL d is=true->goodL is=true
 | d,[],_=>by rw [goodL]
 | d,x::r,h=>by
   rw [rightL,Bool.and_eq_true] at h;rw [goodL,good_right d x h.1,goodL_right d r h.2];rfl
end
theorem goodJ_forms {j:J} (h:goodJ j=true):
 (j= .mk 1 0 0 [] [] []∨j= .mk 2 0 0 [] [] []∨j= .mk 3 0 0 [] [] []∨(∃m e,j= .mk 4 m e [] [] []/\Dec.rightB m e=true)∨(∃t,j= .mk 5 0 0 t [] []/\Quo.wholeB t=true)∨
 (∃is,j= .mk 6 0 0 [] [] is/\goodL is=true)∨(∃ns is,j= .mk 7 0 0 [] ns is/\ns.length=is.length/\namesB [] ns=true/\goodL is=true)):=by
 obtain ⟨k,m,e,t,ns,is⟩:=j;rw [goodJ] at h;simp only [Bool.and_eq_true] at h;obtain ⟨h2,h3,h4⟩:=h
 -- by the forms of a value whose items are none or good
 obtain ⟨b1,b2,b3,b4⟩:=bareB_cases h2;have nn:k≠7->ns= []:=fun hk=>List.length_eq_zero_iff.1 (b3 hk)
 have ii:k≠6->k≠7->is= []:=fun hk hk2=>List.length_eq_zero_iff.1 (b4 hk hk2)
 unfold formB at h3
 split at h3
 ·rename_i hk;rcases hk with rfl | rfl | rfl | rfl
  ·obtain ⟨rfl,rfl⟩:=b1 (by decide);obtain rfl:=b2 (by decide);obtain rfl:=nn (by decide);obtain rfl:=ii (by decide) (by decide);exact .inl rfl
  ·obtain ⟨rfl,rfl⟩:=b1 (by decide);obtain rfl:=b2 (by decide);obtain rfl:=nn (by decide);obtain rfl:=ii (by decide) (by decide);exact .inr (.inl rfl)
  ·obtain ⟨rfl,rfl⟩:=b1 (by decide);obtain rfl:=b2 (by decide);obtain rfl:=nn (by decide);obtain rfl:=ii (by decide) (by decide);exact .inr (.inr (.inl rfl))
  ·obtain ⟨rfl,rfl⟩:=b1 (by decide);obtain rfl:=b2 (by decide);obtain rfl:=nn (by decide);exact .inr (.inr (.inr (.inr (.inr (.inl ⟨is,rfl,h4⟩)))))
 ·split at h3
  ·rename_i hk;subst hk;obtain rfl:=b2 (by decide);obtain rfl:=nn (by decide);obtain rfl:=ii (by decide) (by decide);exact .inr (.inr (.inr (.inl ⟨m,e,rfl,h3⟩)))
  ·split at h3
   ·rename_i hk;subst hk;obtain ⟨rfl,rfl⟩:=b1 (by decide);obtain rfl:=nn (by decide);obtain rfl:=ii (by decide) (by decide);exact .inr (.inr (.inr (.inr (.inl ⟨t,rfl,h3⟩))))
   ·split at h3
    ·rename_i hk;subst hk;obtain ⟨rfl,rfl⟩:=b1 (by decide);obtain rfl:=b2 (by decide);simp only [Bool.and_eq_true,beq_iff_eq] at h3;exact .inr (.inr (.inr (.inr (.inr (.inr ⟨ns,is,rfl,h3.1,h3.2,h4⟩)))))
    ·cases h3
def sg (c:UInt8) (n:Nat):Tok:=⟨1,[c],0,0,n⟩
mutual
def toksJ (n:Nat):J->List Tok
 | .mk k m e t ns is=>
   if k=1 then [⟨4,nullL,0,0,n⟩] else if k=2 then [⟨4,falseL,0,0,n⟩] else if k=3 then [⟨4,trueL,0,0,n⟩] else if k=4 then [⟨3,Dec.printS m e,m,e,n⟩] else if k=5 then [⟨2,t,0,0,n⟩]
   else if k=6 then sg 91 n::(toksL false true [] (n+1) is++ [sg 93 (n+1+(printL false true [] is).length)])
   else sg 123 n::(toksL true true ns (n+1) is++ [sg 125 (n+1+(printL true true ns is).length)])
def toksL (o f:Bool) (ns:List (List UInt8)) (n:Nat):List J->List Tok
 | []=> []
 | x::r=>(if f then [] else [sg 44 n])++((if o then [⟨2,ns.headD [],0,0,n+(if f then 0 else 1)⟩,sg 58 (n+(if f then 0 else 1)+(Quo.quoteL (ns.headD [])).length)] else [])++
    (toksJ (n+(if f then 0 else 1)+(if o then (Quo.quoteL (ns.headD [])).length+1 else 0)) x++toksL o false ns.tail (n+(if f then 0 else 1)+(if o then (Quo.quoteL (ns.headD [])).length+1 else 0)+(printJ x).length) r))
end
theorem isW_whole {t:List UInt8} (h:Quo.wholeB t=true):IsW (Quo.quoteL t) ⟨2,t,0,0,0⟩:=by
 obtain ⟨rs,hr,rfl⟩:=Quo.whole_flat h;exact isW_quote hr
theorem scan_w {w:List UInt8} {x:Tok} (h:IsW w x) {rest:List UInt8} (hr:Fin rest) (n:Nat):scanL (w++rest) n=combR [x.at_ n] (scanL rest (n+w.length)):=by rw [scan_word h hr,consR_comb]
theorem scan_s {c:UInt8} (h:signB c=true) (rest:List UInt8) (n:Nat):scanL (c::rest) n=combR [sg c n] (scanL rest (n+1)):=by rw [scan_sign h,consR_comb];rfl
def NamesOk (o:Bool) (ns:List (List UInt8)) (m:Nat):Prop:=o=true->ns.length=m/\∀x∈ns,Quo.wholeB x=true
theorem fin_items (o:Bool) (ns:List (List UInt8)) (is:List J) (rest:List UInt8) (hr:Fin rest):Fin (printL o false ns is++rest):=by
 cases is with
 | nil=>rw [printL];exact hr
 | cons x r=>rw [printL];exact fin_sign (c:=44) (by decide) _
theorem names_whole':∀{ns seen:List (List UInt8)},namesB seen ns=true->∀n∈ns,Quo.wholeB n=true
 | [],_,_,n,h=>by simp at h
 | x::r,seen,h,n,hn=>by
   rw [namesB,Bool.and_eq_true,Bool.and_eq_true] at h;rcases List.mem_cons.1 hn with rfl | hn
   ·exact h.1
   ·exact names_whole' h.2.2 n hn
mutual
theorem scan_print:∀(j:J) (n:Nat) (rest:List UInt8),goodJ j=true->Fin rest->scanL (printJ j++rest) n=combR (toksJ n j) (scanL rest (n+(printJ j).length))
 | .mk k m e t ns is,n,rest,h,hr=>by
   rcases goodJ_forms h with h1 | h1 | h1 | ⟨m',e',h1,hm⟩ | ⟨t',h1,ht⟩ | ⟨is',h1,hi⟩ | ⟨ns',is',h1,hl,hn,hi⟩
   ·cases h1
    rw [printJ,toksJ,if_pos rfl,if_pos rfl,scan_w (isW_three (by decide)) hr];rfl
   ·cases h1
    rw [printJ,toksJ,if_neg (by decide),if_pos rfl,if_neg (by decide),if_pos rfl,scan_w (isW_three (by decide)) hr];rfl
   ·cases h1
    rw [printJ,toksJ,if_neg (by decide),if_neg (by decide),if_pos rfl,if_neg (by decide),if_neg (by decide),if_pos rfl,scan_w (isW_three (by decide)) hr];rfl
   ·cases h1
    rw [printJ,toksJ,if_neg (by decide),if_neg (by decide),if_neg (by decide),if_pos rfl,if_neg (by decide),if_neg (by decide),if_neg (by decide),if_pos rfl,scan_w (isW_num hm) hr];rfl
   ·cases h1
    rw [printJ,toksJ,if_neg (by decide),if_neg (by decide),if_neg (by decide),if_neg (by decide),if_pos rfl,if_neg (by decide),if_neg (by decide),if_neg (by decide),if_neg (by decide),if_pos rfl,scan_w (isW_whole ht) hr];rfl
   ·cases h1
    rw [printJ,toksJ,if_neg (by decide),if_neg (by decide),if_neg (by decide),if_neg (by decide),if_neg (by decide),if_pos rfl,if_neg (by decide),if_neg (by decide),if_neg (by decide),if_neg (by decide),if_neg (by decide),if_pos rfl];rw [List.cons_append,List.append_assoc,scan_s (by decide),scan_items is false true [] (n+1) _ hi (fun h=>by cases h) (by intro c r h;cases h;decide)];rw [List.singleton_append,scan_s (by decide),combR_comb,combR_comb];simp only [List.append_assoc,List.cons_append,List.nil_append,List.length_cons,List.length_append,List.length_nil,sg]
    congr 2;omega
   ·cases h1
    rw [printJ,toksJ,if_neg (by decide),if_neg (by decide),if_neg (by decide),if_neg (by decide),if_neg (by decide),if_neg (by decide),if_pos rfl,if_neg (by decide),if_neg (by decide),if_neg (by decide),if_neg (by decide),if_neg (by decide),if_neg (by decide)];rw [List.cons_append,List.append_assoc,scan_s (by decide),scan_items is true true ns (n+1) _ hi (fun _=>⟨hl,names_whole' hn⟩) (by intro c r h;cases h;decide)];rw [List.singleton_append,scan_s (by decide),combR_comb,combR_comb];simp only [List.append_assoc,List.cons_append,List.nil_append,List.length_cons,List.length_append,List.length_nil,sg]
    congr 2;omega
theorem scan_items:∀(is:List J) (o f:Bool) (ns:List (List UInt8)) (n:Nat) (rest:List UInt8),goodL is=true->NamesOk o ns is.length->Fin rest->scanL (printL o f ns is++rest) n=combR (toksL o f ns n is) (scanL rest (n+(printL o f ns is).length))
 | [],o,f,ns,n,rest,_,_,hr=>by rw [printL,toksL];exact (combR_nil _).symm
 | x::r,o,f,ns,n,rest,h,hn,hr=>by
   rw [goodL,Bool.and_eq_true] at h;have hx:=fun n rest hr=>scan_print x n rest h.1 hr
   have hi:=fun ns n hn=>scan_items r o false ns n rest h.2 hn hr
   rw [printL,toksL];have hF:=fin_items o ns.tail r rest hr
   have hn2:NamesOk o ns.tail r.length:=fun ho=>by
    obtain ⟨a,b⟩:=hn ho;refine ⟨by simp at a⊢;omega,fun y hy=>b y (List.mem_of_mem_tail hy)⟩
   have body:∀n,scanL (((if o=true then Quo.quoteL (ns.headD [])++ [58] else [])++(printJ x++printL o false ns.tail r))++rest) n=combR ((if o=true then [⟨2,ns.headD [],0,0,n⟩,sg 58 (n+(Quo.quoteL (ns.headD [])).length)] else [])++(toksJ (n+(if o=true then (Quo.quoteL (ns.headD [])).length+1 else 0)) x++toksL o false ns.tail (n+(if o=true then (Quo.quoteL (ns.headD [])).length+1 else 0)+(printJ x).length) r))
    (scanL rest (n+((if o=true then Quo.quoteL (ns.headD [])++ [58] else [])++(printJ x++printL o false ns.tail r)).length)):=fun n=>by
    cases o with
    | false=>
      simp only [Bool.false_eq_true,if_false,List.nil_append,List.append_assoc,Nat.add_zero];rw [hx n _ hF,hi _ _ hn2,combR_comb,List.length_append]
      congr 2;omega
    | true=>
      have hw:Quo.wholeB (ns.headD [])=true:=by
       obtain ⟨a,b⟩:=hn rfl
       cases ns with
       | nil=>simp at a
       | cons y s=>exact b y (by simp)
      simp only [if_true,List.append_assoc];rw [List.singleton_append,scan_w (isW_whole hw) (fin_sign (c:=58) (by decide) _),scan_s (by decide),hx _ _ hF,hi _ _ hn2,combR_comb,combR_comb,combR_comb];simp only [List.length_append,List.length_cons,List.length_nil,List.append_assoc,List.cons_append,List.nil_append,Tok.at_];rw [show n+((Quo.quoteL (ns.headD [])).length+1)=n+(Quo.quoteL (ns.headD [])).length+1 by omega]
      congr 2;omega
   cases f with
   | true=>
     have:=body n
     simpa only [if_true,List.nil_append,Nat.add_zero] using this
   | false=>
     have:=body (n+1);simp only [Bool.false_eq_true,if_false,List.cons_append,List.nil_append] at this⊢;rw [scan_s (by decide),this,combR_comb];simp only [List.length_cons,List.cons_append,List.nil_append]
     congr 2;omega
end
end Go.Proofs.YtclghelocglnlaaGreatDoor.Js
namespace Go.Proofs.YtclghelocglnlaaGreatDoor.Js
open Lex
theorem toks_head {x:J} (h:goodJ x=true) (p:Nat):∃y r,toksJ p x=y::r/\y.p=p/\(begunS y).k≠0/\sgB y 93=false/\sgB y 125=false:=by
 rcases goodJ_forms h with rfl | rfl | rfl | ⟨m',e',rfl,hm⟩ | ⟨t',rfl,ht⟩ | ⟨is',rfl,hi⟩ | ⟨ns',is',rfl,hl,hn,hi⟩
 ·exact ⟨⟨4,nullL,0,0,p⟩,[],by rw [toksJ,if_pos rfl],rfl,(show (1:Int)≠0 by decide),rfl,rfl⟩
 ·exact ⟨⟨4,falseL,0,0,p⟩,[],by rw [toksJ,if_neg (by decide),if_pos rfl],rfl,(show (2:Int)≠0 by decide),rfl,rfl⟩
 ·exact ⟨⟨4,trueL,0,0,p⟩,[],by rw [toksJ,if_neg (by decide),if_neg (by decide),if_pos rfl],rfl,(show (3:Int)≠0 by decide),rfl,rfl⟩
 ·exact ⟨⟨3,Dec.printS m' e',m',e',p⟩,[],by rw [toksJ,if_neg (by decide),if_neg (by decide),if_neg (by decide),if_pos rfl],rfl,by simp [begunS,J.k],rfl,rfl⟩
 ·exact ⟨⟨2,t',0,0,p⟩,[],by rw [toksJ,if_neg (by decide),if_neg (by decide),if_neg (by decide),if_neg (by decide),if_pos rfl],rfl,by simp [begunS,J.k],rfl,rfl⟩
 ·exact ⟨sg 91 p,_,by rw [toksJ,if_neg (by decide),if_neg (by decide),if_neg (by decide),if_neg (by decide),if_neg (by decide),if_pos rfl],rfl,(show (6:Int)≠0 by decide),by rfl,by rfl⟩
 ·exact ⟨sg 123 p,_,by rw [toksJ,if_neg (by decide),if_neg (by decide),if_neg (by decide),if_neg (by decide),if_neg (by decide),if_neg (by decide)],rfl,(show (7:Int)≠0 by decide),by rfl,by rfl⟩
theorem arr_toks {f:List Tok->R}:∀(r:List J) (x:J) (acc:List J) (fuel p q z:Nat) (l:List Tok),(∀y∈x::r,∀p l,f (toksJ p y++l)=⟨0,y,l⟩)->(x::r).length<=fuel->
 arrL f fuel acc (toksJ p x++(toksL false false [] q r++(sg 93 z::l)))=⟨0,.mk 6 0 0 [] [] (acc++x::r),l⟩
 | [],x,acc,fuel,p,q,z,l,hf,hl=>by
   obtain ⟨n,rfl⟩:∃n,fuel=n+1:=⟨fuel - 1,by simp at hl;omega⟩;rw [arrL,toksL,hf x (by simp)]
   rfl
 | y::r,x,acc,fuel,p,q,z,l,hf,hl=>by
   obtain ⟨n,rfl⟩:∃n,fuel=n+1:=⟨fuel - 1,by simp at hl;omega⟩;rw [arrL,toksL,hf x (by simp)];simp only [if_true,Bool.false_eq_true,if_false,List.nil_append,List.append_assoc,List.cons_append,moreS];rw [if_neg (show¬sgB (sg 44 q) 93=true by simp [sgB,sg]),if_pos (by rfl),List.tail_nil];have:=arr_toks (f:=f) r y (acc++ [x]) n (q+1+0) (q+1+0+(printJ y).length) z l (fun w hw=>hf w (List.mem_cons_of_mem _ hw)) (by simp at hl⊢;omega);rw [this];simp
theorem obj_toks {f:List Tok->R}:∀(r:List J) (x:J) (nm:List UInt8) (ms ns:List (List UInt8)) (acc:List J) (fuel a b p q z:Nat) (l:List Tok),(∀y∈x::r,∀p l,f (toksJ p y++l)=⟨0,y,l⟩)->(x::r).length<=fuel->ms.length=r.length->namesB ns (nm::ms)=true->
 objL f fuel ns acc ((⟨2,nm,0,0,a⟩:Tok)::sg 58 b::(toksJ p x++(toksL true false ms q r++(sg 125 z::l))))=⟨0,.mk 7 0 0 [] (ns++nm::ms) (acc++x::r),l⟩
 | [],x,nm,ms,ns,acc,fuel,a,b,p,q,z,l,hf,hl,hm,hn=>by
   obtain ⟨n,rfl⟩:∃n,fuel=n+1:=⟨fuel - 1,by simp at hl;omega⟩;obtain rfl:ms= []:=List.length_eq_zero_iff.1 hm;rw [namesB,Bool.and_eq_true,Bool.and_eq_true] at hn
   have hnm:nameS ns ((⟨2,nm,0,0,a⟩:Tok)::sg 58 b::(toksJ p x++(toksL true false [] q []++(sg 125 z::l))))=(0,nm,toksJ p x++(toksL true false [] q []++(sg 125 z::l))):=by
    unfold nameS
    dsimp only
    rw [if_pos rfl,if_neg (by have:=hn.2.1;simpa using this),if_pos (by rfl)]
   rw [objL,hnm,toksL];simp only [if_true];rw [hf x (by simp)]
   rfl
 | y::r,x,nm,ms,ns,acc,fuel,a,b,p,q,z,l,hf,hl,hm,hn=>by
   obtain ⟨n,rfl⟩:∃n,fuel=n+1:=⟨fuel - 1,by simp at hl;omega⟩
   cases ms with
   | nil=>simp at hm
   | cons nm2 ms=>
     rw [namesB,Bool.and_eq_true,Bool.and_eq_true] at hn
     have hnm:∀L,nameS ns ((⟨2,nm,0,0,a⟩:Tok)::sg 58 b::L)=(0,nm,L):=fun L=>by
      unfold nameS
      dsimp only
      rw [if_pos rfl,if_neg (by have:=hn.2.1;simpa using this),if_pos (by rfl)]
     rw [objL,hnm,toksL];simp only [if_true];rw [hf x (by simp)];simp only [if_true,Bool.false_eq_true,if_false,List.nil_append,List.append_assoc,List.cons_append,moreS,List.headD_cons,List.tail_cons];rw [if_neg (show¬sgB (sg 44 q) 125=true by simp [sgB,sg]),if_pos (by rfl)];have:=obj_toks (f:=f) r y nm2 ms (ns++ [nm]) (acc++ [x]) n (q+1) (q+1+(Quo.quoteL nm2).length) (q+1+((Quo.quoteL nm2).length+1)) (q+1+((Quo.quoteL nm2).length+1)+(printJ y).length) z l (fun w hw=>hf w (List.mem_cons_of_mem _ hw)) (by simp at hl⊢;omega) (by simpa using hm) hn.2.2;rw [this];simp
theorem rightL_mem {d:Nat}:∀{is:List J},rightL d is=true->∀x∈is,rightJ d x=true
 | [],_,x,hx=>by simp at hx
 | y::r,h,x,hx=>by
   rw [rightL,Bool.and_eq_true] at h;rcases List.mem_cons.1 hx with rfl | hx
   ·exact h.1
   ·exact rightL_mem h.2 x hx
theorem toks_pos {x:J} (h:goodJ x=true) (p:Nat):1<=(toksJ p x).length:=by
 obtain ⟨y,r,e,_⟩:=toks_head h p;rw [e];simp
theorem toksL_len (o:Bool):∀(r:List J) (ns:List (List UInt8)) (q:Nat),goodL r=true->r.length<=(toksL o false ns q r).length
 | [],ns,q,_=>by simp
 | x::r,ns,q,h=>by
   rw [goodL,Bool.and_eq_true] at h;rw [toksL];have:=toksL_len o r ns.tail (q+(if false=true then 0 else 1)+(if o=true then (Quo.quoteL (ns.headD [])).length+1 else 0)+(printJ x).length) h.2;simp only [List.length_append,List.length_cons];simp;simp at this
   omega
theorem val_toks:∀n,n<=16->∀(j:J) (p:Nat) (l:List Tok),rightJ (17 - n) j=true->valS n (toksJ p j++l)=⟨0,j,l⟩
 | 0,_,j,p,l,h=>by
   have:=(rightJ_forms h).1
   omega
 | n+1,hn,j,p,l,h=>by
   have ih:∀y p l,rightJ (17 - (n+1)+1) y=true->valS n (toksJ p y++l)=⟨0,y,l⟩:=fun y p l hy=>val_toks n (by omega) y p l (by rwa [show 17 - n=17 - (n+1)+1 by omega])
   rcases (rightJ_forms h).2 with rfl | rfl | rfl | ⟨m',e',rfl,hm⟩ | ⟨t',rfl,ht⟩ | ⟨is,rfl,hi⟩ | ⟨ns,is,rfl,hl,hnb,hi⟩
   ·rw [toksJ,if_pos rfl];rfl
   ·rw [toksJ,if_neg (by decide),if_pos rfl];rfl
   ·rw [toksJ,if_neg (by decide),if_neg (by decide),if_pos rfl];rfl
   ·rw [toksJ,if_neg (by decide),if_neg (by decide),if_neg (by decide),if_pos rfl];rfl
   ·rw [toksJ,if_neg (by decide),if_neg (by decide),if_neg (by decide),if_neg (by decide),if_pos rfl];rfl
   ·rw [toksJ,if_neg (by decide),if_neg (by decide),if_neg (by decide),if_neg (by decide),if_neg (by decide),if_pos rfl,List.cons_append,valS,if_neg (show¬(begunS (sg 91 p)).k=0 from (show¬((6:Int)=0) by decide)),if_pos (by rfl)]
    cases is with
    | nil=>rfl
    | cons x r=>
      have hmem:=rightL_mem hi;obtain ⟨y,s,hy,_,_,hs,_⟩:=toks_head (good_right _ _ (hmem x (by simp))) (p+1+0+0);rw [toksL];simp only [if_true,Bool.false_eq_true,if_false,List.nil_append,List.append_assoc,List.cons_append];unfold arrS;have hL:toksJ (p+1+0+0) x++(toksL false false [].tail (p+1+0+0+(printJ x).length) r++sg 93 (p+1+(printL false true [] (x::r)).length)::l)=y::(s++(toksL false false [].tail (p+1+0+0+(printJ x).length) r++sg 93 (p+1+(printL false true [] (x::r)).length)::l)):=(by rw [hy];rfl);have hA:=arr_toks (f:=valS n) r x [] (y::(s++(toksL false false [].tail (p+1+0+0+(printJ x).length) r++sg 93 (p+1+(printL false true [] (x::r)).length)::l))).length (p+1+0+0) (p+1+0+0+(printJ x).length) (p+1+(printL false true [] (x::r)).length) l (fun w hw p l=>ih w p l (hmem w hw)) ?_
      ·simp only [List.tail_nil] at hL hA⊢;rw [hL] at hA⊢
       dsimp only
       rw [if_neg (by rw [hs];decide),hA]
       rfl
      ·have q1:=toks_pos (good_right _ _ (hmem x (by simp))) (p+1+0+0)
       have hg:goodL r=true:=by
        have:=goodL_right _ _ hi;rw [goodL,Bool.and_eq_true] at this;exact this.2
       have q2:=toksL_len false r [] (p+1+0+0+(printJ x).length) hg;rw [hy] at q1;simp only [List.length_cons,List.length_append,List.tail_nil] at q1 q2⊢
       omega
   ·rw [toksJ,if_neg (by decide),if_neg (by decide),if_neg (by decide),if_neg (by decide),if_neg (by decide),if_neg (by decide),List.cons_append,valS,if_neg (show¬(begunS (sg 123 p)).k=0 from (show¬((7:Int)=0) by decide)),if_neg (show¬(begunS (sg 123 p)).k=6 from (show¬((7:Int)=6) by decide)),if_pos (by rfl)]
    cases is with
    | nil=> 
      obtain rfl:ns= []:=List.length_eq_zero_iff.1 hl
      rfl
    | cons x r=>
      cases ns with
      | nil=>simp at hl
      | cons nm ms=>
        have hmem:=rightL_mem hi;rw [toksL];simp only [if_true,Bool.false_eq_true,if_false,List.nil_append,List.append_assoc,List.cons_append,List.headD_cons,List.tail_cons];unfold objS
        dsimp only
        rw [if_neg (show¬sgB ⟨2,nm,0,0,p+1+0⟩ 125=true by simp [sgB])]
        have hg:goodL r=true:=by
         have:=goodL_right _ _ hi;rw [goodL,Bool.and_eq_true] at this;exact this.2
        have hA:=obj_toks (f:=valS n) r x nm ms [] [] (a:=p+1+0) (b:=p+1+0+(Quo.quoteL nm).length) (p:=p+1+0+((Quo.quoteL nm).length+1)) (q:=p+1+0+((Quo.quoteL nm).length+1)+(printJ x).length) (z:=p+1+(printL true true (nm::ms) (x::r)).length) (l:=l) (fun w hw p l=>ih w p l (hmem w hw)) ?_ (by simpa using hl) hnb (fuel:=((⟨2,nm,0,0,p+1+0⟩:Tok)::sg 58 (p+1+0+(Quo.quoteL nm).length)::(toksJ (p+1+0+((Quo.quoteL nm).length+1)) x++(toksL true false ms (p+1+0+((Quo.quoteL nm).length+1)+(printJ x).length) r++sg 125 (p+1+(printL true true (nm::ms) (x::r)).length)::l))).length)
        ·rw [hA];rfl
        ·have q2:=toksL_len true r ms (p+1+0+((Quo.quoteL nm).length+1)+(printJ x).length) hg;simp only [List.length_cons,List.length_append] at q2⊢
         omega
end Go.Proofs.YtclghelocglnlaaGreatDoor.Js
namespace Go.Proofs.YtclghelocglnlaaGreatDoor.Js
open Lex
theorem scan_whole {j:J} (h:goodJ j=true):scanL (printJ j) 0= .inr (toksJ 0 j++ [⟨5,[],0,0,(printJ j).length⟩]):=by
 have:=scan_print j 0 [] h fin_nil;rw [List.append_nil,scanL_nil,Nat.zero_add] at this;rw [this];rfl
theorem parse_print {j:J} (h:rightJ 1 j=true) (hl:(printJ j).length<=20000):parseS (printJ j)=(0,j,0):=by
 unfold parseS scanS;rw [if_neg (by omega),scan_whole (good_right 1 j h)]
 dsimp only
 unfold parseT;rw [val_toks 16 (by omega) j 0 _ h]
 rfl
def nestJ (o:Bool):Nat->J
 | 0=> .mk 4 1 0 [] [] []
 | k+1=>if o then .mk 7 0 0 [] [[97]] [nestJ o k] else .mk 6 0 0 [] [] [nestJ o k]
def nestL (o:Bool):Nat->List UInt8
 | 0=> [49]
 | k+1=>if o then [123,34,97,34,58]++nestL o k++ [125] else [91]++nestL o k++ [93]
def stepN (o:Bool):Nat:=if o then 5 else 1
end Go.Proofs.YtclghelocglnlaaGreatDoor.Js
