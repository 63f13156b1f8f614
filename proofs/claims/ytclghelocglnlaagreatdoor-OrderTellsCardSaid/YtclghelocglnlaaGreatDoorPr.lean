import Derived.Test.YtclghelocglnlaaGreatDoorPl
set_option maxHeartbeats 0
set_option maxRecDepth 100000
set_option linter.all false
namespace Go.Proofs.YtclghelocglnlaaGreatDoor.Js
open Lex
theorem rightL_snoc (d:Nat):∀(a:List J) (x:J),rightL d (a++ [x])=(rightL d a && rightJ d x)
 | [],x=>by simp [rightL]
 | y::r,x=>by rw [List.cons_append,rightL,rightL_snoc d r x,rightL,Bool.and_assoc]
def AllG (N:Nat) (l:List Tok):Prop:=∀x∈l,TokG N x
theorem AllG.suf {N:Nat} {l l':List Tok} (h:AllG N l) (hs:l' <:+l):AllG N l':=fun x hx=>h x (hs.mem hx)
def MakesR (N d:Nat) (f:List Tok->R):Prop:=∀l,EndL l->AllG N l->(f l).er=0->rightJ (d+1) (f l).j=true
theorem arr_right {N d:Nat} {f:List Tok->R} (hg:Good f) (hf:MakesR N d f):∀(n:Nat) (acc:List J) (l:List Tok),EndL l->AllG N l->rightL (d+1) acc=true->(arrL f n acc l).er=0->
 ∃is,(arrL f n acc l).j= .mk 6 0 0 [] [] is/\rightL (d+1) is=true
 | 0,acc,l,h,hl,ha,he=>absurd (show (40:Int)=0 from he) (by decide)
 | n+1,acc,l,h,hl,ha,he=>by
   obtain ⟨a,b,c⟩:=hg l h;rw [arrL] at he⊢
   by_cases h0:(f l).er=0
   ·rw [if_pos h0] at he⊢;have hr:=hf l h hl h0;have ha':rightL (d+1) (acc++ [(f l).j])=true:=(by rw [rightL_snoc,ha,hr];rfl);have hl':=hl.suf b;generalize hq:(f l).l=q at *
    cases q with
    | nil=>exact absurd rfl a.ne
    | cons y l'=>
      unfold moreS at he⊢;simp only at he⊢
      by_cases h1:sgB y 93=true
      ·rw [if_pos h1];exact ⟨_,rfl,ha'⟩
      ·rw [if_neg h1] at he⊢
       by_cases h2:sgB y 44=true
       ·rw [if_pos h2] at he⊢;exact arr_right hg hf n _ l' (a.tail (by rw [(sgB_k h2).1];decide)) (hl'.suf (List.suffix_cons _ _)) ha' he
       ·rw [if_neg h2] at he;exact absurd (show (40:Int)=0 from he) (by decide)
   ·rw [if_neg h0] at he;exact absurd he h0
theorem name_right {N:Nat} {seen:List (List UInt8)} {l:List Tok} (h:EndL l) (hl:AllG N l) (he:(nameS seen l).1=0):Quo.wholeB (nameS seen l).2.1=true/\seen.contains (nameS seen l).2.1=false/\(nameS seen l).2.1.length<=N:=by
 cases l with
 | nil=>exact absurd rfl h.ne
 | cons x l1=>
   unfold nameS at he⊢;simp only at he⊢
   split at he
   ·rename_i hx;rw [if_pos hx]
    split at he
    ·exact absurd (show (42:Int)=0 from he) (by decide)
    ·rename_i hs;rw [if_neg hs];have h1:=h.tail (by omega)
     cases l1 with
     | nil=>exact absurd rfl h1.ne
     | cons y l2=>
       simp only at he⊢
       split at he
       ·rename_i hy;rw [if_pos hy];exact ⟨(hl x (by simp)).txt hx,by simpa using hs,(hl x (by simp)).len⟩
       ·exact absurd (show (40:Int)=0 from he) (by decide)
   ·exact absurd (show (40:Int)=0 from he) (by decide)
theorem kind_cases (t:List UInt8):kindS t=0∨kindS t=1∨kindS t=2∨kindS t=3∨kindS t=6∨kindS t=7:=by
 unfold kindS
 split <;> (try split) <;> (try split) <;> (try split) <;> (try split) <;> simp
def Keeps (g:Tok->Tok):Prop:=∀x,(g x).k=x.k/\(g x).t=x.t/\(g x).m=x.m/\(g x).e=x.e
def R.map (g:Tok->Tok) (r:R):R:=⟨r.er,r.j,r.l.map g⟩
end Go.Proofs.YtclghelocglnlaaGreatDoor.Js
