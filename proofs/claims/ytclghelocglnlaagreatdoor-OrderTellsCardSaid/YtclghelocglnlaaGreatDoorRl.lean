import Derived.Deep.Upon
import Derived.Test.YtclghelocglnlaaGreatDoorMPq
set_option maxHeartbeats 0
set_option maxRecDepth 100000
set_option linter.all false
namespace Go.Proofs.YtclghelocglnlaaGreatDoor.Js
open Go.RowKit Lex
theorem flat_cells (w:World) (b:Nat):∀(us:List Value) (off:Nat),(∀i,i < us.length->(aggC (us.getD i undef)).length=6/\LiesAt w b (off+i * 6) (us.getD i undef))->
 (us.flatMap aggC).length=us.length * 6/\∀j u,(us.flatMap aggC)[j]?=some u->w.cell? ⟨b,off+j,none⟩=some u
 | [],off,_=>⟨rfl,fun j u h=>by simp at h⟩
 | v::r,off,h=>by
   obtain ⟨h6,hl⟩:=h 0 (by simp);have e0:(v::r).getD 0 undef=v:=rfl;rw [e0] at h6 hl
   obtain ⟨ih1,ih2⟩:=flat_cells w b r (off+6) (fun i hi=>by
    have:=h (i+1) (by simpa using hi);have e1:(v::r).getD (i+1) undef=r.getD i undef:=(by simp);rw [e1,show off+(i+1) * 6=off+6+i * 6 by omega] at this;exact this)
   refine ⟨by rw [List.flatMap_cons,List.length_append,ih1,h6,List.length_cons];omega,fun j u hj=> ?_⟩;rw [List.flatMap_cons,List.getElem?_append] at hj
   split at hj
   ·have:=hl j u hj
    rwa [show off+0 * 6+j=off+j by omega] at this
   ·rw [h6] at hj;have h7:6<=j:=(by omega);have:=ih2 (j - 6) u hj
    rwa [show off+6+(j - 6)=off+j by omega] at this
theorem items_cells {S:Nat->Prop} {w:World} {d b off:Nat} {is:List J} (h:∀i,i < is.length->∃u,LiesAt w b (off+i * 6) u/\JAt S w d u (is.getD i j0)):
 ∃us:List Value,us.length=is.length/\(∀i,i < is.length->JAt S w d (us.getD i undef) (is.getD i j0))/\(us.flatMap aggC).length=is.length * 6/\(∀j u,(us.flatMap aggC)[j]?=some u->w.cell? ⟨b,off+j,none⟩=some u)/\∀u∈us.flatMap aggC,u.oneCell'=true:=by
 have hx:∃us:List Value,us.length=is.length/\∀i,i < is.length->LiesAt w b (off+i * 6) (us.getD i undef)/\JAt S w d (us.getD i undef) (is.getD i j0):=by
  have:∀n,n<=is.length->∃us:List Value,us.length=n/\∀i,i < n->LiesAt w b (off+i * 6) (us.getD i undef)/\JAt S w d (us.getD i undef) (is.getD i j0):=by
   intro n
   induction n with
   | zero=>exact fun _=>⟨[],rfl,fun i hi=>by omega⟩
   | succ n ih=>
     intro hn;obtain ⟨us,h1,h2⟩:=ih (by omega);obtain ⟨u,q1,q2⟩:=h n (by omega);refine ⟨us++ [u],by simp [h1],fun i hi=> ?_⟩
     by_cases e:i < n
     ·rw [List.getD_eq_getElem?_getD,List.getElem?_append_left (by omega),<-List.getD_eq_getElem?_getD];exact h2 i e
     ·obtain rfl:i=n:=by omega
      have:(us++ [u]).getD i undef=u:=(by rw [List.getD_eq_getElem?_getD,List.getElem?_append_right (by omega),h1];simp);rw [this];exact ⟨q1,q2⟩
  exact this _ (Nat.le_refl _)
 obtain ⟨us,h1,h2⟩:=hx
 have h6:∀i,i < us.length->(aggC (us.getD i undef)).length=6/\LiesAt w b (off+i * 6) (us.getD i undef):=fun i hi=>by
  obtain ⟨q1,q2⟩:=h2 i (by omega);obtain ⟨k,m,e,t,an,nn,cn,ai,ni,ci,e1⟩:=jAt_form q2;exact ⟨by rw [e1];rfl,q1⟩
 obtain ⟨f1,f2⟩:=flat_cells w b us off h6;refine ⟨us,h1,fun i hi=>(h2 i hi).2,by rw [f1,h1],f2,fun u hu=> ?_⟩;obtain ⟨v,hv,hu⟩:=List.mem_flatMap.1 hu;obtain ⟨i,hi,rfl⟩:=List.mem_iff_getElem.1 hv;obtain ⟨k,m,e,t,an,nn,cn,ai,ni,ci,e1⟩:=jAt_form (h2 i (by omega)).2;rw [List.getD_eq_getElem?_getD,List.getElem?_eq_getElem hi] at e1;simp only [Option.getD_some] at e1;rw [e1] at hu;simp [aggC] at hu;rcases hu with rfl | rfl | rfl | rfl | rfl | rfl <;> rfl
end Go.Proofs.YtclghelocglnlaaGreatDoor.Js
namespace Go.Proofs.YtclghelocglnlaaGreatDoor.Js
open Go.RowKit Lex
def AI (S:Nat->Prop) (w:World) (d:Nat) (is:List J) (a':Option Addr) (c':Nat) (w':World):Prop:=is.length<=c'/\ItemsAt (fun b=>S b∨w.heap.size<=b) w' d a' is/\Below w.heap.size w w'
theorem below_grown {w w':World} (h:w.grownBy w' none):Below w.heap.size w w':=⟨h.os,h.tape,h.output,h.size,fun b hb=>h.block b hb (by simp)⟩
theorem plain_add (b off j:Nat):(⟨b,off,none⟩:Addr).add j=⟨b,off+j,none⟩:=by
 simp only [Addr.add];split <;> simp_all
theorem its_in {S:Nat->Prop} {base n:Nat} {ai:Option Addr} {ni ci:Nat} {vs:List Value} {acc:List J} {w:World} (hrow:w.ownsRow base 49 6 (.slice ai ni ci) acc.length (vs.flatMap aggC)) (vl:vs.length=acc.length) (items:∀i,i < acc.length->JAt S w n (vs.getD i undef) (acc.getD i j0)):
 ni=acc.length/\acc.length<=ci/\ItemsAt (fun b=>S b∨base<=b) w n ai acc:=by
 have hmem:∀v∈vs,∃i,i < acc.length/\v=vs.getD i undef:=fun v hv=>by
  obtain ⟨i,hi,rfl⟩:=List.mem_iff_getElem.1 hv;exact ⟨i,by rw [<-vl];exact hi,by rw [List.getD_eq_getElem?_getD,List.getElem?_eq_getElem hi];rfl⟩
 have h6:∀v∈vs,(aggC v).length=6:=fun v hv=>by
  obtain ⟨i,hi,rfl⟩:=hmem v hv;obtain ⟨_,_,_,_,_,_,_,_,_,_,e⟩:=jAt_form (items i hi);rw [e];rfl
 rcases hrow.2 with ⟨e,h0⟩ | ⟨g,cap,cur,hv,hbg,hg,hnc,_⟩
 ·simp at e;exact ⟨by omega,by omega,fun hp=>by omega⟩
 ·cases hv
  refine ⟨rfl,hnc,fun hp=>⟨g,0,rfl,.inr hbg,Own.block_lt hg,fun i hi=>⟨vs.getD i undef,fun q c hc=> ?_,(items i hi).keep (fun b h _=> .inl h) (fun _ _ _=>rfl) (Nat.le_refl _)⟩⟩⟩;have hi2:i < vs.length:=by rw [vl];exact hi
  have hq:q < 6:=by
   have:=(List.getElem?_eq_some_iff.1 hc).1;rw [h6 _ (by rw [List.getD_eq_getElem?_getD,List.getElem?_eq_getElem hi2];exact List.getElem_mem _)] at this;exact this
  rw [Nat.zero_add,hrow.cellAt (i * 6+q) (by omega),flat6_get h6 i q hi2 hq,hc]
theorem run_append_items (ty:TypeId) (S:Nat->Prop) (w:World) (d:Nat) (ai:Option Addr) (ci:Nat) (is:List J) (hl:is.length<=1599289640354) (hI:ItemsAt S w d ai is):
 ∃a' c' w',(Builtin.append_ #[47,47] ty #[.slice none 0 0,.slice ai is.length ci]).run Tryz.prog w= .ok (.slice a' is.length c') w'/\AI S w d is a' c' w':=by
 obtain ⟨i0,hi0,hz0,hz1,hz2⟩:=info_parts json_info
 by_cases h0:is.length=0
 ·rw [h0];refine ⟨none,0,w,?_,by omega,fun hp=>by omega,Below.refl _ _⟩
  cases ai with
  | none=>exact run_append_nothing w _ _ _ _ i0 Tryz.underlying47 hi0 none 0 0 (Nat.le_refl _) _ (Src.ofNil w Tryz.underlying47 ci)
  | some a=>exact run_append_nothing w _ _ _ _ i0 Tryz.underlying47 hi0 none 0 0 (Nat.le_refl _) _ (Src.ofSlice w Tryz.underlying47 a 0 ci [] (by simp) (fun j u h=>by simp at h) (fun u h=>by simp at h))
 ·obtain ⟨b,off,rfl,_,hb,hit⟩:=hI (by omega);obtain ⟨us,hu1,hu2,hu3,hu4,hu5⟩:=items_cells hit;obtain ⟨v',w',hr,hown,hgrow,hn,hat⟩:=run_append_own_at (P:=Tryz.prog) w w.heap.size 47 ty 49 i0 _ 6 88 Tryz.underlying47 hi0 hz0 hz1 hz2 rfl (by decide) (.slice none 0 0) 0 [] (World.ownsRow_nil _ _ _ _) ⟨b,off,none⟩ is.length ci (us.flatMap aggC) hu3 (fun j u h=>by rw [plain_add];exact hu4 j u h) hu5 (by unfold maxLen;omega) (by omega) (Nat.le_refl _);rw [Nat.zero_add,List.nil_append] at hown;obtain ⟨a',c',rfl⟩:=own_slice hown;have hB:=below_grown hgrow;obtain ⟨_,hc,hI'⟩:=its_in hown hu1 (fun i hi=>(hu2 i hi).below hB (Nat.le_refl _));exact ⟨a',c',w',hr,hc,hI',hB⟩
theorem wpList_append_items {ops:Array Oper} {rest:List Oper} {o:Oper} {a:Act} {w:World} {Q:Exit->Act->World->Prop} (hgd:o.guard=none) (s x:Operand)
 (ho:o.op= .call { callee:= .builtin .append,args:=#[s,x],argTypes:=#[47,47] }) (hs:a.eval s= .slice none 0 0) (ai:Option Addr) (n ci:Nat) (hx:a.eval x= .slice ai n ci)
 (S:Nat->Prop) (d:Nat) (is:List J) (hn:is.length=n) (hl:is.length<=1599289640354) (hI:ItemsAt S w d ai is)
 (h:∀a' c' w',AI S w d is a' c' w'->wpList Tryz.prog ops Q rest (a.put o.dst (.slice a' n c')) w'):wpList Tryz.prog ops Q (o::rest) a w:=by
 subst hn;obtain ⟨a',c',w',hr,hA⟩:=run_append_items o.type S w d ai ci is hl hI;refine wpList_plain hgd fun _ hK=> ?_
 unfold Oper.wp execOp;simp only [ho,resolve,invoke,builtin,Sem.run_bind,Sem.run_pure,Result.andThen_ok,List.map_toArray,List.map_cons,List.map_nil,hs,hx,hr];exact hK _ _ (h a' c' w' hA)
theorem jAt_its {S:Nat->Prop} {w:World} {d:Nat} {j:J} {k m e:Int} {t:ByteArray} {an:Option Addr} {nn cn:Nat} {ai:Option Addr} {ni ci:Nat} (h:JAt S w d (.agg #[.int .i64 k,.int .i64 m,.int .i64 e,.string t,.slice an nn cn,.slice ai ni ci]) j):
 j.is.length=ni/\ni<=ci/\j.is.length<=1599289640354/\ItemsAt S w d ai j.is:=by
 obtain ⟨k',m',e',t',ns,is⟩:=j;obtain ⟨d',an',cn',ai',ci',hd,hv,_,_,_,_,_,_,_,h1,h2,h3⟩:=h.open_;simp only [Value.agg.injEq,Array.mk.injEq,List.cons.injEq,Value.int.injEq,Value.string.injEq,Value.slice.injEq,true_and,and_true] at hv;obtain ⟨rfl,rfl,rfl,rfl,_,rfl,rfl,rfl⟩:=hv;have hI:ItemsAt S w d' ai is:=h3;exact ⟨rfl,h1,h2,hI.deep (by omega)⟩
def RLs (w:World) (d:Nat) (r:List J×Bool) (e:Ending) (w':World):Prop:=
 ∃ai ci,e= .returned (.tuple #[.slice ai r.1.length ci,.bool r.2])/\r.1.length<=ci/\r.1.length<=1599289640354/\ItemsAt Any w' d ai r.1/\Below w.heap.size w w'
theorem rlist_any (S:Nat->Prop) (d:Nat) (v:Value) (j:J) (nm:List UInt8) (w:World) (h:JAt S w d v j):Calls Tryz.prog 43 #[v,.string ⟨nm.toArray⟩] w (RLs w d (withG ([],false) lstS (getS j nm))):=by
 have G1:=Lib.hid (fun o=>rget_any S d v j nm (w.alloc o) (h.below ((Below.refl _ _).alloc (Nat.le_refl _) _) (Nat.le_refl _)));unfold RG at G1;generalize getS j nm=R at *;obtain ⟨x,b⟩:=R;obtain ⟨k,m,e,t,an,nn,cn,ai,ni,ci,rfl⟩:=jAt_form h;clear h;unfold withG
 cases b with
 | false=>
   rw [if_neg (by simp)]
   go_enter Tryz.func43,Tryz.ntmps43
   go_wp2_with (go_at_call 56;(with_reducible refine (G1.out _).mono ?_);rintro e1 w1 ⟨k2,m2,e2',t2,an2,nn2,cn2,ai2,ni2,ci2,rfl,hJ,hb⟩)
   go_ret2
   exact ⟨none,0,rfl,Nat.le_refl _,Nat.zero_le _,fun h=>by simp at h,(below_box hb).alloc (below_box hb).size _⟩
 | true=>
   rw [if_pos rfl]
   by_cases hk:x.k=6
   ·have hx:lstS x=(x.is,true):=(by unfold lstS;rw [if_pos hk]);rw [hx];clear hx
    go_enter Tryz.func43,Tryz.ntmps43
    go_wp2_with (first
     | (go_at_call 56;(with_reducible refine (G1.out _).mono ?_);rintro e1 w1 ⟨k2,m2,e2',t2,an2,nn2,cn2,ai2,ni2,ci2,rfl,hJ,hb⟩;obtain ⟨h1,_,_,h4,_⟩:=jAt_tell hJ;rw [hk] at h1;subst h1;obtain ⟨q1,q2,q3,q4⟩:=jAt_its hJ;have HBX:=Lib.hid ((below_box hb).alloc (below_box hb).size (.cells #[.int .i64 6,.int .i64 m2,.int .i64 e2',.string t2,.slice an2 nn2 cn2,.slice ai2 ni2 ci2] 49));have HL:=Lib.hid q1;have HM:=Lib.hid q3;have HI:=Lib.hid (ItemsAt.below q4 (hb.alloc hb.size (.cells #[.int .i64 6,.int .i64 m2,.int .i64 e2',.string t2,.slice an2 nn2 cn2,.slice ai2 ni2 ci2] 49)));clear hJ q1 q3 q4)
     | (refine wpList_append_items (by rfl) _ _ (by rfl) (by rfl) _ _ _ (by rfl) _ _ _ HL.out HM.out HI.out ?_;intro a' c' w' hA;have HA:=Lib.hid hA;clear hA))
    go_ret2
    obtain ⟨r1,r2,r3⟩:=HA.out;have e9:Ending.returned (.tuple #[.slice a' x.is.length c',.bool true])=Ending.returned (.tuple #[.slice a' ni2 c',.bool true]):=(by rw [HL.out]);exact ⟨a',c',e9.symm,r1,HM.out,r2.keep (fun _ _ _=>trivial) (fun _ _ _=>rfl) (Nat.le_refl _),HBX.out.trans (r3.mono HBX.out.size)⟩
   ·have hx:lstS x=([],false):=(by unfold lstS;rw [if_neg hk]);rw [hx]
    go_enter Tryz.func43,Tryz.ntmps43
    go_wp2_with (go_at_call 56;(with_reducible refine (G1.out _).mono ?_);rintro e1 w1 ⟨k2,m2,e2',t2,an2,nn2,cn2,ai2,ni2,ci2,rfl,hJ,hb⟩;obtain ⟨h1,_⟩:=jAt_tell hJ;have hk2:(k2 !=6)=true:=by rw [<-h1];simpa using hk)
    go_ret2
    exact ⟨none,0,rfl,Nat.le_refl _,Nat.zero_le _,fun h=>by simp at h,(below_box hb).alloc (below_box hb).size _⟩
theorem rarr_any (d:Nat) (w:World) (ai:Option Addr) (ci:Nat) (is:List J) (hl:is.length<=1599289640354) (hc:is.length<=ci) (hit:ItemsAt Any w d ai is):
 Calls Tryz.prog 25 #[.slice ai is.length ci] w (fun e w'=>∃a' c',e= .returned (.agg #[.int .i64 6,.int .i64 0,.int .i64 0,.string ⟨#[]⟩,.slice none 0 0,.slice a' is.length c'])/\JAt Any w' (d+1) (.agg #[.int .i64 6,.int .i64 0,.int .i64 0,.string ⟨#[]⟩,.slice none 0 0,.slice a' is.length c']) (.mk 6 0 0 [] [] is)/\Below w.heap.size w w'):=by
 have HL:=Lib.hid hl
 have hit2:ItemsAt (fun b=>b < w.heap.size) w d ai is:=fun hp=>by
  obtain ⟨b,off,q1,q2,q3,q4⟩:=hit hp;exact ⟨b,off,q1,q3,q3,fun i hi=>by obtain ⟨u,r1,r2⟩:=q4 i hi;exact ⟨u,r1,r2.keep (fun b _ h=>h) (fun _ _ _=>rfl) (Nat.le_refl _)⟩⟩
 have HI:=Lib.hid (ItemsAt.below hit2 (belowOne w (.cells zero6 49)));unfold zero6 at HI;clear hit hit2
 go_enter Tryz.func25,Tryz.ntmps25
 go_wp2_with (refine wpList_append_items (by rfl) _ _ (by rfl) (by rfl) _ _ _ (by rfl) _ _ _ rfl HL.out HI.out ?_;intro a' c' w' hA;obtain ⟨r1,r2,hb1⟩:=hA;obtain ⟨x1,x2,x3⟩:=ans_one hb1;obtain ⟨⟨z0,z1,z2,z3,z4,z5⟩,g0,g1,g2,g3,g4,g5⟩:=twelve_of x1;have R1:=Lib.hid r1;have R2:=Lib.hid r2;clear r1 r2)
 refine bodyPost_ret (v:= .agg #[.int .i64 6,.int .i64 0,.int .i64 0,.string ⟨#[]⟩,.slice none 0 0,.slice a' is.length c']) (by simp [results,Tryz.results25,go_sem,z0,z1,z2,z3,z4,z5]) rfl ?_;have z:i64B 0:=⟨by decide,by decide⟩
 have hI3:∀c0 c1 c2 c3 c4 c5,ItemsAt Any (put6 w' w.heap.size 0 c0 c1 c2 c3 c4 c5) d a' is:=fun c0 c1 c2 c3 c4 c5=>R2.out.keep (fun _ _ _=>trivial) (fun b hb _=>put6_block _ _ 0 _ _ _ _ _ _ b (by
  have hb':b < w.heap.size∨(w.alloc (.cells zero6 49)).heap.size<=b:=hb;simp at hb';omega)) (by rw [put6_size];exact Nat.le_refl _)
 exact ⟨a',c',rfl,⟨_,_,_,rfl,⟨by decide,by decide⟩,z,z,by unfold txtB;simp,strs_none,R1.out,HL.out,hI3 _ _ _ _ _ _⟩,below_put6' x3 (Nat.le_refl _) (.int .i64 6) (.int .i64 0) (.int .i64 0) (.string ⟨#[]⟩) (.slice none 0 0) (.slice a' is.length c')⟩
end Go.Proofs.YtclghelocglnlaaGreatDoor.Js
