import Derived.Test.YtclghelocglnlaaGreatDoorLex
set_option maxHeartbeats 0
set_option maxRecDepth 100000
set_option linter.all false
namespace Go.Proofs.YtclghelocglnlaaGreatDoor.Js
open Lex
inductive J where
 | mk (k m e:Int) (t:List UInt8) (ns:List (List UInt8)) (is:List J)
def j0:J:= .mk 0 0 0 [] [] []
def J.k:J->Int | .mk k _ _ _ _ _=>k
def J.m:J->Int | .mk _ m _ _ _ _=>m
def J.e:J->Int | .mk _ _ e _ _ _=>e
def J.t:J->List UInt8 | .mk _ _ _ t _ _=>t
def J.ns:J->List (List UInt8) | .mk _ _ _ _ ns _=>ns
def J.is:J->List J | .mk _ _ _ _ _ is=>is
def namesB (seen:List (List UInt8)):List (List UInt8)->Bool
 | []=>true
 | n::r=>Quo.wholeB n && (!(seen.contains n) && namesB (seen++ [n]) r)
def bareB (k m e:Int) (t:List UInt8) (nn ni:Nat):Bool:=
 (k==4 || (m==0 && e==0)) && ((k==5 || t.isEmpty) && ((k==7 || nn==0) && (k==6 || (k==7 || ni==0))))
def formB (k m e:Int) (t:List UInt8) (ns:List (List UInt8)) (ni:Nat):Bool:=
 if k=1∨k=2∨k=3∨k=6 then true else if k=4 then Dec.rightB m e else if k=5 then Quo.wholeB t else if k=7 then (ns.length==ni && namesB [] ns) else false
mutual
def rightJ (d:Nat):J->Bool
 | .mk k m e t ns is=>decide (d<=16) && (bareB k m e t ns.length is.length && (formB k m e t ns is.length && rightL (d+1) is))
def rightL (d:Nat):List J->Bool
 | []=>true
 | x::r=>rightJ d x && rightL d r
end
mutual
def sameJ:J->J->Bool
 | .mk k m e t ns is,.mk k' m' e' t' ns' is'=>(k==k' && (m==m' && e==e')) && (t==t' && (ns==ns' && sameL is is'))
def sameL:List J->List J->Bool
 | [],[]=>true
 | x::r,y::s=>sameJ x y && sameL r s
 | [],_::_=>false
 | _::_,[]=>false
end
def nullL:List UInt8:= [110,117,108,108]
def falseL:List UInt8:= [102,97,108,115,101]
def trueL:List UInt8:= [116,114,117,101]
mutual
def printJ:J->List UInt8
 | .mk k m e t ns is=>
   if k=1 then nullL else if k=2 then falseL else if k=3 then trueL else if k=4 then Dec.printS m e else if k=5 then Quo.quoteL t
   else if k=6 then 91::(printL false true [] is++ [93]) else if k=7 then 123::(printL true true ns is++ [125]) else []
def printL (o f:Bool) (ns:List (List UInt8)):List J->List UInt8
 | []=> []
 | x::r=>(if f then [] else [44])++((if o then Quo.quoteL (ns.headD [])++ [58] else [])++(printJ x++printL o false ns.tail r))
end
def printS (j:J):List UInt8:=if rightJ 1 j=true then printJ j else []
theorem bareB_cases {k m e:Int} {t:List UInt8} {nn ni:Nat} (h:bareB k m e t nn ni=true):
 (k≠4->m=0/\e=0)/\(k≠5->t= [])/\(k≠7->nn=0)/\(k≠6->k≠7->ni=0):=by
 unfold bareB at h;simp only [Bool.and_eq_true,Bool.or_eq_true,beq_iff_eq,List.isEmpty_iff] at h;obtain ⟨h1,h2,h3,h4⟩:=h;refine ⟨fun hk=> ?_,fun hk=> ?_,fun hk=> ?_,fun hk hk2=> ?_⟩
 ·rcases h1 with h | h
  ·exact absurd h hk
  ·exact h
 ·rcases h2 with h | h
  ·exact absurd h hk
  ·exact h
 ·rcases h3 with h | h
  ·exact absurd h hk
  ·exact h
 ·rcases h4 with h | h | h
  ·exact absurd h hk
  ·exact absurd h hk2
  ·exact h
theorem rightJ_parts {d:Nat} {k m e:Int} {t:List UInt8} {ns:List (List UInt8)} {is:List J} (h:rightJ d (.mk k m e t ns is)=true):
 d<=16/\bareB k m e t ns.length is.length=true/\formB k m e t ns is.length=true/\rightL (d+1) is=true:=by
 rw [rightJ] at h
 simpa only [Bool.and_eq_true,decide_eq_true_eq] using h
theorem rightJ_forms {d:Nat} {j:J} (h:rightJ d j=true):d<=16/\
 (j= .mk 1 0 0 [] [] []∨j= .mk 2 0 0 [] [] []∨j= .mk 3 0 0 [] [] []∨(∃m e,j= .mk 4 m e [] [] []/\Dec.rightB m e=true)∨(∃t,j= .mk 5 0 0 t [] []/\Quo.wholeB t=true)∨
 (∃is,j= .mk 6 0 0 [] [] is/\rightL (d+1) is=true)∨(∃ns is,j= .mk 7 0 0 [] ns is/\ns.length=is.length/\namesB [] ns=true/\rightL (d+1) is=true)):=by
 obtain ⟨k,m,e,t,ns,is⟩:=j;obtain ⟨h1,h2,h3,h4⟩:=rightJ_parts h;obtain ⟨b1,b2,b3,b4⟩:=bareB_cases h2;refine ⟨h1,?_⟩;have nn:k≠7->ns= []:=fun hk=>List.length_eq_zero_iff.1 (b3 hk)
 have ii:k≠6->k≠7->is= []:=fun hk hk2=>List.length_eq_zero_iff.1 (b4 hk hk2)
 unfold formB at h3
 split at h3
 ·rename_i hk;rcases hk with rfl | rfl | rfl | rfl
  ·obtain ⟨rfl,rfl⟩:=b1 (by decide);obtain rfl:=b2 (by decide);obtain rfl:=nn (by decide);obtain rfl:=ii (by decide) (by decide);exact .inl rfl
  ·obtain ⟨rfl,rfl⟩:=b1 (by decide);obtain rfl:=b2 (by decide);obtain rfl:=nn (by decide);obtain rfl:=ii (by decide) (by decide);exact .inr (.inl rfl)
  ·obtain ⟨rfl,rfl⟩:=b1 (by decide);obtain rfl:=b2 (by decide);obtain rfl:=nn (by decide);obtain rfl:=ii (by decide) (by decide);exact .inr (.inr (.inl rfl))
  ·obtain ⟨rfl,rfl⟩:=b1 (by decide);obtain rfl:=b2 (by decide);obtain rfl:=nn (by decide);exact .inr (.inr (.inr (.inr (.inr (.inl ⟨is,rfl,h4⟩)))))
 ·split at h3
  ·rename_i hk;subst hk;obtain rfl:=b2 (by decide);obtain rfl:=nn (by decide);obtain rfl:=ii (by decide) (by decide);exact .inr (.inr (.inr (.inl ⟨m,e,rfl,h3⟩)))
  ·split at h3
   ·rename_i hk;subst hk;obtain ⟨rfl,rfl⟩:=b1 (by decide);obtain rfl:=nn (by decide);obtain rfl:=ii (by decide) (by decide);exact .inr (.inr (.inr (.inr (.inl ⟨t,rfl,h3⟩))))
   ·split at h3
    ·rename_i hk;subst hk;obtain ⟨rfl,rfl⟩:=b1 (by decide);obtain rfl:=b2 (by decide);simp only [Bool.and_eq_true,beq_iff_eq] at h3;exact .inr (.inr (.inr (.inr (.inr (.inr ⟨ns,is,rfl,h3.1,h3.2,h4⟩)))))
    ·cases h3
def kindS (t:List UInt8):Nat:=if t=nullL then 1 else if t=falseL then 2 else if t=trueL then 3 else if t= [91] then 6 else if t= [123] then 7 else 0
def begunS (x:Tok):J:=
 if x.k=2 then .mk 5 0 0 x.t [] [] else if x.k=3 then .mk 4 x.m x.e [] [] [] else if x.k=4∨x.k=1 then .mk (kindS x.t) 0 0 [] [] [] else j0
def sgB (x:Tok) (c:UInt8):Bool:=x.k==1 && x.t== [c]
structure R where
 er:Int
 j:J
 l:List Tok
def moreS (close:UInt8) (fin:J) (next:List Tok->R) (l:List Tok):R:=
 match l with
 | []=>⟨40,j0,[]⟩
 | y::l'=>if sgB y close=true then ⟨0,fin,l'⟩ else if sgB y 44=true then next l' else ⟨40,j0,y::l'⟩
def arrL (f:List Tok->R):Nat->List J->List Tok->R
 | 0,_,l=>⟨40,j0,l⟩
 | n+1,acc,l=>
   if (f l).er=0 then moreS 93 (.mk 6 0 0 [] [] (acc++ [(f l).j])) (arrL f n (acc++ [(f l).j])) (f l).l else ⟨(f l).er,j0,(f l).l⟩
def nameS (seen:List (List UInt8)) (l:List Tok):Int×List UInt8×List Tok:=
 match l with
 | []=>(40,[],[])
 | x::l1=>if x.k=2 then (if seen.contains x.t=true then (42,[],x::l1) else
    match l1 with
    | []=>(40,[],[])
    | y::l2=>if sgB y 58=true then (0,x.t,l2) else (40,[],y::l2)) else (40,[],x::l1)
def objL (f:List Tok->R):Nat->List (List UInt8)->List J->List Tok->R
 | 0,_,_,l=>⟨40,j0,l⟩
 | n+1,ns,acc,l=>
   if (nameS ns l).1=0 then
    if (f (nameS ns l).2.2).er=0 then moreS 125 (.mk 7 0 0 [] (ns++ [(nameS ns l).2.1]) (acc++ [(f (nameS ns l).2.2).j])) (objL f n (ns++ [(nameS ns l).2.1]) (acc++ [(f (nameS ns l).2.2).j])) (f (nameS ns l).2.2).l
    else ⟨(f (nameS ns l).2.2).er,j0,(f (nameS ns l).2.2).l⟩
   else ⟨(nameS ns l).1,j0,(nameS ns l).2.2⟩
def arrS (f:List Tok->R) (l:List Tok):R:=
 match l with
 | []=>⟨40,j0,[]⟩
 | y::l'=>if sgB y 93=true then ⟨0,.mk 6 0 0 [] [] [],l'⟩ else arrL f (y::l').length [] (y::l')
def objS (f:List Tok->R) (l:List Tok):R:=
 match l with
 | []=>⟨40,j0,[]⟩
 | y::l'=>if sgB y 125=true then ⟨0,.mk 7 0 0 [] [] [],l'⟩ else objL f (y::l').length [] [] (y::l')
def valS:Nat->List Tok->R
 | _,[]=>⟨40,j0,[]⟩
 | 0,x::l=>⟨if (begunS x).k=0 then 40 else 41,j0,x::l⟩
 | n+1,x::l=>if (begunS x).k=0 then ⟨40,j0,x::l⟩ else if (begunS x).k=6 then arrS (valS n) l else if (begunS x).k=7 then objS (valS n) l else ⟨0,begunS x,l⟩
def topS (r:R):Int×J×Nat:=
 if r.er=0 then (if (r.l.headD tok0).k=5 then (0,r.j,0) else (40,j0,(r.l.headD tok0).p)) else (r.er,j0,(r.l.headD tok0).p)
def parseT (ts:List Tok):Int×J×Nat:=topS (valS 16 ts)
def parseS (s:List UInt8):Int×J×Nat:=
 match scanS s with
 | .inl n=>(30,j0,n)
 | .inr ts=>parseT ts
end Go.Proofs.YtclghelocglnlaaGreatDoor.Js
