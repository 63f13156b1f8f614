import Derived.Test.YtclghelocglnlaaGreatDoorRt
set_option maxHeartbeats 0
set_option maxRecDepth 100000
set_option linter.all false
namespace Go.Proofs.YtclghelocglnlaaGreatDoor.Js
open Go.RowKit Lex
theorem rightL_step (d:Nat) (is:List J) (k:Nat) (h:k < is.length):rightL d (is.drop k)=(rightJ d (is.getD k j0) && rightL d (is.drop (k+1))):=by
 rw [List.drop_eq_getElem_cons h,rightL,List.getD_eq_getElem?_getD,List.getElem?_eq_getElem h,Option.getD_some]
theorem jAt_form {S:Nat->Prop} {w:World} {d:Nat} {u:Value} {j:J} (h:JAt S w d u j):∃k m e t an nn cn ai ni ci,u= .agg #[.int .i64 k,.int .i64 m,.int .i64 e,.string t,.slice an nn cn,.slice ai ni ci]:=by
 obtain ⟨k,m,e,t,ns,is⟩:=j;obtain ⟨_,an,cn,ai,ci,_,h,_⟩:=h.open_;exact ⟨_,_,_,_,_,_,_,_,_,_,h⟩
theorem box_cells {w w1:World} {T:TypeId} {f:Nat×Nat} {c0 c1 c2 c3 c4 c5:Value} (hb:Below (w.alloc (.cells #[c0,c1,c2,c3,c4,c5] T f)).heap.size (w.alloc (.cells #[c0,c1,c2,c3,c4,c5] T f)) w1):
 w1.cell? ⟨w.heap.size,0,none⟩=some c0/\w1.cell? ⟨w.heap.size,1,none⟩=some c1/\w1.cell? ⟨w.heap.size,2,none⟩=some c2/\w1.cell? ⟨w.heap.size,3,none⟩=some c3/\w1.cell? ⟨w.heap.size,4,none⟩=some c4/\w1.cell? ⟨w.heap.size,5,none⟩=some c5:=by
 have h:∀i,w1.cell? ⟨w.heap.size,i,none⟩=(#[c0,c1,c2,c3,c4,c5]:Array Value)[i]?:=fun i=>by
  rw [hb.cell (p:=⟨w.heap.size,i,none⟩) (by simp)];exact cell_of_row _ _ _ _ _ _ (heap_alloc_new w _)
 exact ⟨h 0,h 1,h 2,h 3,h 4,h 5⟩
theorem rightAt_any (S:Nat->Prop):∀(d:Nat) (v:Value) (j:J) (w:World) (dep:Nat),dep<=1000->JAt S w d v j->Calls Tryz.prog 81 #[v,.int .i64 dep] w (Ret (.bool (rightJ dep j)) w):=by
 intro d
 induction d with
 | zero=>intro v j w dep _ h;exact h.elim
 | succ d ih=>
   intro v j w dep hd h;obtain ⟨k,m,e,t,ns,is⟩:=j;obtain ⟨d',an,cn,ai,ci,hd',rfl,hk,hm,he,ht,hns,_,hn,_,hi,hit⟩:=h.open_;obtain rfl:d'=d:=by omega
   have hb:∀o,Below w.heap.size w (w.alloc o):=fun o=>(Below.refl _ _).alloc (Nat.le_refl _) _
   have HB:=Lib.hid hb;have IH:=Lib.hid ih;have HI:=Lib.hid hit;have B1:=Lib.hid (fun w=>bare_of k m e t an ai ns.length cn is.length ci w hn hi);have F1:=Lib.hid (fun w' hb=>form_of S k m e t an ai ns cn is.length ci w' ht (hns.below (w':=w') (B:=w.heap.size) hb (Nat.le_refl _)) hn hi);clear hb ih hit h hns hk hm he ht hd';have HJ:=Lib.hid (show rightJ dep (.mk k m e t ns is)=_ from by rw [rightJ]);rw [HJ.out]
   by_cases h16:16 < dep
   ·have hd2:decide (dep<=16)=false:=(by simp;omega);have t1:(16:Int) < (dep:Int):=(by omega);rw [hd2]
    go_enter Tryz.func81,Tryz.ntmps81
    go_wp2_with fail
    go_ret
    exact ⟨rfl,HB.out _⟩
   ·have hd2:decide (dep<=16)=true:=(by simp;omega);have t1:decide ((16:Int) < (dep:Int))=false:=(by simp;omega);rw [hd2];generalize ns.length=nn at *;generalize hB:bareB k m e t nn is.length=rb at *;generalize hF:formB k m e t ns is.length=rf at *
    cases rb with
    | false=>
      go_enter Tryz.func81,Tryz.ntmps81
      go_wp2_with (go_at_call 113;(with_reducible refine (B1.out _).mono ?_);rintro e1 w1 ⟨rfl,hb1⟩)
      go_ret
      exact ⟨Quo.ret_bool (by simp),(HB.out _).trans (hb1.mono (by simp))⟩
    | true=>
      cases rf with
      | false=>
        go_enter Tryz.func81,Tryz.ntmps81
        go_wp2_with (first | (go_at_call 113;(with_reducible refine (B1.out _).mono ?_);rintro e1 w1 ⟨rfl,hb1⟩;have hbb:=(HB.out _).trans (hb1.mono (by simp));obtain ⟨c0,c1,c2,c3,c4,c5⟩:=box_cells hb1) | (go_at_call 114;(with_reducible refine (F1.out _ hbb).mono ?_);rintro e2 w2 ⟨rfl,hb2⟩))
        go_ret
        exact ⟨Quo.ret_bool (by simp),hbb.trans (hb2.mono hbb.size)⟩
      | true=>
        go_enter Tryz.func81,Tryz.ntmps81
        go_wp2_with (first | (go_at_call 113;(with_reducible refine (B1.out _).mono ?_);rintro e1 w1 ⟨rfl,hb1⟩;have hbb:=(HB.out _).trans (hb1.mono (by simp));obtain ⟨c0,c1,c2,c3,c4,c5⟩:=box_cells hb1) | (go_at_call 114;(with_reducible refine (F1.out _ hbb).mono ?_);rintro e2 w2 ⟨rfl,hb2⟩;obtain ⟨f0,f1,f2,f3,f4,f5⟩:=box_cells (hb1.trans (hb2.mono hb1.size))))
        have hb3:=hbb.trans (hb2.mono hbb.size);have HJ2:Hid (rightL (dep+1) is=rightL (dep+1) is):=rfl;clear HJ B1 F1 hb1 hb2 hbb c0 c1 c2 c3 c4 c5 f0 f1 f2 f3 f4 f5 hB hF;obtain ⟨R,HR⟩:∃R,Hid (rightL (dep+1) is=R):=⟨_,rfl⟩;rw [HR.out];have HL:Hid (is.length=is.length):=rfl;obtain ⟨n,HN⟩:∃n,Hid (is.length=n):=⟨_,rfl⟩;rw [HN.out] at hi⊢
        go_loopw [22] (fun i wr=>∃k:Nat,k<=n/\i= .int .i64 k/\Below w.heap.size w wr/\Hid (R=rightL (dep+1) (is.drop k))) (fun i _=>n - (intOf i).toNat)
        case atStart=>exact ⟨0,Nat.zero_le _,rfl,hb3,HR.out.symm⟩
        case round=>
         clear hb3 w2 w1;obtain ⟨k,hk,rfl,hb,HK⟩:=hrel
         by_cases hlt:k < n
         ·obtain ⟨b,off,rfl,hS,hbl,hel⟩:=HI.out (by rw [HN.out];omega);obtain ⟨u,hu1,hu2⟩:=hel k (by rw [HN.out];exact hlt);obtain ⟨k',m',e',t',an',nn',cn',ai',ni',ci',rfl⟩:=jAt_form hu2;obtain ⟨x0,x1,x2,x3,x4,x5⟩:=(hu1.keep (hb.block b hbl)).six;have hJ:=hu2.below hb (Nat.le_refl _);have hst:=rightL_step (dep+1) is k (by rw [HN.out];exact hlt);have C1:=Lib.hid (fun w' (hb':Below wr.heap.size wr w')=>IH.out _ _ w' (dep+1) (by omega) (hJ.below hb' (Nat.le_refl _)));rw [show ((dep+1:Nat):Int)=(dep:Int)+1 by omega] at C1;have HS1:=Lib.hid hst;have hal:∀o,Below wr.heap.size wr (wr.alloc o):=fun o=>(Below.refl _ _).alloc (Nat.le_refl _) _
          have HA:=Lib.hid hal;have hsz:=hb.size;clear hel hu1 hu2 hJ hst hal;generalize rightJ (dep+1) (is.getD k j0)=r at *
          cases r with
          | false=>
            go_wp2_with (go_at_call 81;(with_reducible refine (C1.out _ (HA.out _)).mono ?_);rintro e1 w1 ⟨rfl,hb1⟩)
            go_ret
            exact ⟨Quo.ret_bool (by rw [HK.out,HS1.out];simp),hb.trans (((HA.out _).trans (hb1.mono (by simp))).mono hsz)⟩
          | true=>
            go_wp2_with (go_at_call 81;(with_reducible refine (C1.out _ (HA.out _)).mono ?_);rintro e1 w1 ⟨rfl,hb1⟩)
            go_roundw
            case rel=>exact ⟨k+1,by omega,by go_num,hb.trans (((HA.out _).trans (hb1.mono (by simp))).mono hsz),by show _=_;rw [HK.out,HS1.out];simp⟩
            case measure=>simp [intOf];omega
         ·have HE:Hid (R=true):=by show _=_;rw [HK.out,List.drop_of_length_le (by rw [HN.out];omega)];rfl
          go_wp2_with fail
          go_ret
          exact ⟨Quo.ret_bool (by first | (rw [HR.out,HE.out];done) | (rw [HR.out,HE.out];simp)),hb⟩
theorem right_of (S:Nat->Prop) (v:Value) (j:J) (w:World) (h:JA S w v j):Calls Tryz.prog 45 #[v] w (Ret (.bool (rightJ 1 j)) w):=by
 obtain ⟨d,h⟩:=h;obtain ⟨k,m,e,t,an,nn,cn,ai,ni,ci,rfl⟩:=jAt_form h;have hb:∀o,Below w.heap.size w (w.alloc o):=fun o=>(Below.refl _ _).alloc (Nat.le_refl _) _
 have HB:=Lib.hid hb;have C1:=Lib.hid (fun o=>rightAt_any S d _ j (w.alloc o) 1 (by omega) (h.below (HB.out o) (Nat.le_refl _)));rw [show ((1:Nat):Int)=1 from rfl] at C1;clear hb h
 go_enter Tryz.func45,Tryz.ntmps45
 go_wp2_with (go_at_call 81;(with_reducible refine (C1.out _).mono ?_);rintro e1 w1 ⟨rfl,hb1⟩)
 go_ret
 exact ⟨rfl,(HB.out _).trans (hb1.mono (by simp))⟩
end Go.Proofs.YtclghelocglnlaaGreatDoor.Js
