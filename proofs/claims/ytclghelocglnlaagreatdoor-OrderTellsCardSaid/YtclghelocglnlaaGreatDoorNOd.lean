import Derived.Test.YtclghelocglnlaaGreatDoorInv
import Derived.Test.YtclghelocglnlaaGreatDoorNOc
set_option maxHeartbeats 0
set_option maxRecDepth 100000
set_option linter.all false
namespace Go.Proofs.YtclghelocglnlaaGreatDoor.Od
open Go.RowKit Js
theorem all_run {ops:Array Oper} {l:Array Bool} {md:Region.Mode} (hac:∀(i:Nat) (o:Oper),ops[i]?=some o->∀e∈o.after.toList,e.on < i) (hs:l.size=ops.size) (hr:Region.ready md ops l= []):∀i,i < ops.size->l.getD i false=true:=by
 intro i
 induction i using Nat.strongRecOn with
 | ind i ih=>
   intro hi
   cases h:l.getD i false with
   | true=>rfl
   | false=>
     exfalso
     have hm:i∈Region.ready md ops l:=by
      unfold Region.ready;rw [List.mem_filter];refine ⟨List.mem_range.2 hi,?_⟩
      have h1:l.getD i true=false:=by
       rw [Array.getD_eq_getD_getElem?,Array.getElem?_eq_getElem (by omega)] at h⊢;exact h
      rw [h1,Array.getElem?_eq_getElem hi];simp only [Bool.not_false,Bool.true_and,Option.map_some,Option.getD_some];rw [Array.all_eq_true'];intro e he
      have h2:=ih e.on (hac i _ (Array.getElem?_eq_getElem hi) e (by simpa using he)) (by
       have:=hac i _ (Array.getElem?_eq_getElem hi) e (by simpa using he)
       omega)
      rw [h2,Bool.or_true]
     rw [hr] at hm
     cases hm
def acB (ops:Array Oper):Bool:=(List.range ops.size).all fun i=>match ops[i]? with | some o=>o.after.toList.all (fun e=>decide (e.on < i)) | none=>true
def lastB (ops:Array Oper) (N:Nat):Bool:=match ops[N]? with | some o=>(List.range N).all (fun j=>o.after.toList.any fun e=>Region.binds .any e && e.on==j) | none=>true
theorem acB_of {ops:Array Oper} (h:acB ops=true):∀(i:Nat) (o:Oper),ops[i]?=some o->∀e∈o.after.toList,e.on < i:=fun i o ho e he=>by
 have hi:i < ops.size:=(Array.getElem?_eq_some_iff.1 ho).1;have h1:=List.all_eq_true.1 h i (List.mem_range.2 hi);rw [ho] at h1;have h2:=List.all_eq_true.1 h1 e he
 simpa using h2
theorem lastB_of {ops:Array Oper} {N:Nat} (h:lastB ops N=true):∀o,ops[N]?=some o->∀j,j < N->∃e∈o.after.toList,Region.binds .any e=true/\e.on=j:=fun o ho j hj=>by
 unfold lastB at h;rw [ho] at h;have h1:=List.all_eq_true.1 h j (List.mem_range.2 hj);obtain ⟨e,he,h2⟩:=List.any_eq_true.1 h1;rw [Bool.and_eq_true,beq_iff_eq] at h2;exact ⟨e,he,h2.1,h2.2⟩
theorem wpOp_here {P:Program} {ops:Array Oper} {Q:Exit->Act->World->Prop} {i:Nat} {K:Act->World->Prop} {a:Act} {w:World} {o:Oper} (ho:ops[i]?=some o)
 (h:∀K':Act->World->Prop,(∀a w,K a w->K' a w)->if Region.wanted o (yielded ops a.tmps)=true then Oper.wp P o a w K' Q else K' (a.put o.dst undef) w):wpOp P ops Q i K a w:=by
 have:=h K (fun _ _ h=>h);unfold wpOp;rw [ho]
 by_cases hw:Region.wanted o (yielded ops a.tmps)=true
 ·rw [if_pos hw] at this;simp only [hw,if_true];exact .inl this
 ·rw [if_neg hw] at this;simp only [hw];exact this
def Stable (p:Value->World->Prop):Prop:=∀z w w',p z w->Below w.heap.size w w'->p z w'
theorem stable_eq (v:Value):Stable (fun z _=>z=v):=fun _ _ _ h _=>h
structure FF (w0:World) (PS:List (Value->World->Prop)) (zs:List Value) (l:Array Bool) (w:World):Prop where
 bel:Below w0.heap.size w0 w
 fact:∀j p z,PS[j]?=some p->zs[j]?=some z->l.getD j false=true->p z w
theorem FF.step {w0 w w':World} {PS:List (Value->World->Prop)} {zs:List Value} {l:Array Bool} (h:FF w0 PS zs l w) (hs:∀p∈PS,Stable p) {i:Nat} (hi:i < zs.length) {v:Value} (hb:Below w.heap.size w w') (hv:∀p,PS[i]?=some p->p v w'):
 FF w0 PS (zs.set i v) (l.setIfInBounds i true) w':=by
 refine ⟨h.bel.trans (hb.mono h.bel.size),fun j q z hj hz hL=> ?_⟩
 by_cases e:i=j
 ·subst e;rw [List.getElem?_set_self hi] at hz
  cases hz
  exact hv q hj
 ·rw [List.getElem?_set_ne e] at hz
  have hL':l.getD j false=true:=by
   rw [Array.getD_eq_getD_getElem?,Array.getElem?_setIfInBounds_ne e] at hL;rw [Array.getD_eq_getD_getElem?];exact hL
  exact hs q (List.mem_of_getElem? hj) z w w' (h.fact j q z hj hz hL') hb
def StepOk (P:Program) (ops:Array Oper) (Q:Exit->Act->World->Prop) (mk:List Value->Act) (w0:World) (PS:List (Value->World->Prop)) (i:Nat):Prop:=
 ∀zs l wz o,zs.length=PS.length->FF w0 PS zs l wz->ops[i]?=some o->(∀e∈o.after.toList,Region.binds .any e=true->l.getD e.on false=true)->
  wpOp P ops Q i (fun a' w'=>∃v,a'=mk (zs.set i v)/\Below wz.heap.size wz w'/\∀p,PS[i]?=some p->p v w') (mk zs) wz
theorem wp_region_grow {P:Program} {id:Nat} {ops:Array Oper} {Q:Exit->Act->World->Prop} {a:Act} {w:World} (hm:P.follows .mixedOrders=true) (mk:List Value->Act) (PS:List (Value->World->Prop)) (zs0:List Value)
 (hN:ops.size=PS.length+1) (hz0:zs0.length=PS.length) (ha:a=mk zs0) (hst:∀p∈PS,Stable p)
 (hac':acB ops=true) (hall':lastB ops PS.length=true)
 (hstep:∀i,i < PS.length->StepOk P ops Q mk w PS i)
 (hfin:∀zs wz,zs.length=PS.length->Below w.heap.size w wz->(∀(j:Nat) (p:Value->World->Prop) (z:Value),PS[j]?=some p->zs[j]?=some z->p z wz)->wpOp P ops Q PS.length (fun a' w'=>Q .normal a' w') (mk zs) wz):
 (Code.region id ops true).wp P Q a w:=by
 have hac:=acB_of hac';have hall:=lastB_of hall';refine wp_region_inv hm (fun l a wz=>if l.getD PS.length false=true then (∀j,j < ops.size->l.getD j false=true)/\Q .normal a wz else∃zs,zs.length=PS.length/\a=mk zs/\FF w PS zs l wz) ?_ ?_ ?_
 ·have hz:(Array.replicate ops.size false).getD PS.length false=false:=by
   rw [Array.getD_eq_getD_getElem?,Array.getElem?_replicate];split <;> rfl
  rw [hz,if_neg (by decide)];refine ⟨zs0,hz0,ha,(Below.refl _ _).drew,fun j p z _ _ hL=> ?_⟩;rw [Array.getD_eq_getD_getElem?,Array.getElem?_replicate] at hL
  split at hL <;> cases hL
 ·intro l a wz i hl hi hI;obtain ⟨hli,o,ho,hpre⟩:=ready_mem hi;have hi':i < ops.size:=(Array.getElem?_eq_some_iff.1 ho).1
  by_cases hlast:l.getD PS.length false=true
  ·exfalso
   rw [if_pos hlast] at hI;have h1:=hI.1 i hi';rw [Array.getD_eq_getD_getElem?,Array.getElem?_eq_getElem (by omega)] at h1 hli;simp only [Option.getD_some] at h1 hli;rw [h1] at hli
   cases hli
  ·rw [if_neg hlast] at hI;obtain ⟨zs,hzl,rfl,hF⟩:=hI
   by_cases e:i=PS.length
   ·subst e
    have hev:∀(j:Nat) (p:Value->World->Prop) (z:Value),PS[j]?=some p->zs[j]?=some z->p z wz:=fun j p z hj hz=>by
     have hjl:j < PS.length:=(List.getElem?_eq_some_iff.1 hj).1;obtain ⟨e,he,hb,hej⟩:=hall o ho j hjl;subst hej;exact hF.fact _ p z hj hz (hpre e he hb)
    refine wpOp_mono (fun a' w' h=> ?_) (hfin zs wz hzl hF.bel hev);rw [if_pos]
    ·refine ⟨fun j hj=> ?_,h⟩
     by_cases hjN:PS.length=j
     ·subst hjN;rw [Array.getD_eq_getD_getElem?,Array.getElem?_setIfInBounds_self_of_lt (by omega)];rfl
     ·rw [Array.getD_eq_getD_getElem?,Array.getElem?_setIfInBounds_ne hjN,<-Array.getD_eq_getD_getElem?];obtain ⟨e,he,hb,hej⟩:=hall o ho j (by omega);subst hej;exact hpre e he hb
    ·rw [Array.getD_eq_getD_getElem?,Array.getElem?_setIfInBounds_self_of_lt (by omega)];rfl
   ·refine wpOp_mono (fun a' w' h=> ?_) (hstep i (by omega) zs l wz o hzl hF ho hpre);obtain ⟨v,rfl,hb,hv⟩:=h
    have hne:(l.setIfInBounds i true).getD PS.length false=l.getD PS.length false:=by
     rw [Array.getD_eq_getD_getElem?,Array.getElem?_setIfInBounds_ne e,Array.getD_eq_getD_getElem?]
    rw [hne,if_neg hlast];exact ⟨zs.set i v,by simpa using hzl,rfl,hF.step hst (by omega) hb hv⟩
 ·intro l a wz hl hr hI;have:=all_run hac hl hr PS.length (by omega);rw [if_pos this] at hI;exact hI.2
end Go.Proofs.YtclghelocglnlaaGreatDoor.Od
namespace Go.Proofs.YtclghelocglnlaaGreatDoor.Od
open Go.RowKit Js Lex
theorem intJ_num {n:Int} (h:numB n=true):intJ n=numJ n:=by
 obtain ⟨h0,h1⟩:=numB_iff h
 have h2:(Dec.mk n 0).2.2=true:=by
  by_cases hn:n=0
  ·subst hn;rw [Dec.mk_zero]
  ·have hv:=Dec.strip_val n;have hs:=Dec.strip_ne n hn;generalize hst:Dec.strip n=st at hv hs;obtain ⟨q,k⟩:=st;simp only at hv hs;obtain ⟨g1,g2,g3⟩:=ten_pow hs.2 hv.symm h0 h1;unfold Dec.mk Dec.p15;rw [if_neg hn,hst];simp only;rw [if_pos (by omega)]
 unfold intJ numJ;rw [if_pos h2]
theorem numB_64 {n:Int} (h:numB n=true): -9223372036854775808<=n/\n<=9223372036854775807:=by
 have:=numB_iff h
 omega
theorem int_num (n:Int) (h:numB n=true) (w:World):Calls Tryz.prog 49 #[.int .i64 n] w (Ret (bareV 4 (Dec.mk n 0).1 (Dec.mk n 0).2.1 []) w):=by
 have:=int5_any n w (numB_64 h).1 (numB_64 h).2
 rwa [intJ_num h] at this
theorem num_i64 {n:Int} (h:numB n=true):i64B (Dec.mk n 0).1/\i64B (Dec.mk n 0).2.1:=by
 obtain ⟨b1,b2,b3,b4⟩:=Dec.rightB_bounds (num_told h).2;exact ⟨⟨by omega,by omega⟩,⟨by omega,by omega⟩⟩
theorem num_jat {S:Nat->Prop} {w:World} {n:Int} (h:numB n=true):JAt S w 1 (bareV 4 (Dec.mk n 0).1 (Dec.mk n 0).2.1 []) (numJ n):=leaf_jat (d:=0) (t:= []) ⟨by decide,by decide⟩ (num_i64 h).1 (num_i64 h).2 (by unfold txtB;simp)
theorem flag_jat {S:Nat->Prop} {w:World} (b:Bool):JAt S w 1 (bareV (if b=true then 3 else 2) 0 0 []) (boolJ b):=leaf_jat (d:=0) (t:= []) (by cases b <;> exact ⟨by decide,by decide⟩) ⟨by decide,by decide⟩ ⟨by decide,by decide⟩ (by unfold txtB;simp)
theorem strs_lit {w:World} {b c:Nat} {T:TypeId} {fr:Nat×Nat} {l:List (List UInt8)} (h:w.heap[b]?=some (.cells (l.map strW).toArray T fr)) (hc:l.length<=c) (hl:l.length<=100) (ht:∀n∈l,txtB n):StrsAt Any w (.slice (some ⟨b,0,none⟩) l.length c) l:=
 ⟨_,_,rfl,hc,by omega,ht,fun _=>⟨b,0,rfl,trivial,Own.block_lt h,fun j hj=>by
   rw [cell_of_row _ _ _ _ _ _ h,Nat.zero_add];simp [List.getD,hj]⟩⟩
theorem its_lit {S:Nat->Prop} {w:World} {b d:Nat} {T:TypeId} {fr:Nat×Nat} {us:List Value} {is:List J} (h:w.heap[b]?=some (.cells (us.flatMap aggC).toArray T fr)) (hS:S b) (hl:us.length=is.length) (h6:∀u∈us,(aggC u).length=6)
 (hJ:∀i,i < is.length->JAt S w d (us.getD i undef) (is.getD i j0)):ItemsAt S w d (some ⟨b,0,none⟩) is:=fun _=>
 ⟨b,0,rfl,hS,Own.block_lt h,fun i hi=>⟨us.getD i undef,fun q c hq=>by
   have hm:us.getD i undef∈us:=by
    rw [List.getD_eq_getElem?_getD,List.getElem?_eq_getElem (by omega)];exact List.getElem_mem _
   have hq6:q < 6:=by
    have:=(List.getElem?_eq_some_iff.1 hq).1;rw [h6 _ hm] at this;exact this
   rw [cell_of_row _ _ _ _ _ _ h,Nat.zero_add,<-hq,<-flat6_get h6 i q (by omega) hq6];simp,hJ i hi⟩⟩
theorem part_mk {nm:List UInt8} (n1:nm≠seqL) (n2:nm≠relL) (x:St):mkJ [nm,seqL,relL] [numJ x.id,numJ x.seq,boolJ x.rel]=partJ nm x:=by
 have e1:seqL≠nm:=fun e=>n1 e.symm
 have e2:relL≠nm:=fun e=>n2 e.symm
 have e3:relL≠seqL:=by decide
 unfold mkJ partJ;simp [mkL,e1,e2,e3]
theorem part_make {nm:List UInt8} (hn:txtB nm) (n1:nm≠seqL) (n2:nm≠relL) {x:St} (h1:numB x.id=true) (h2:numB x.seq=true) (w:World) (b1 b2:Nat) (T1 T2:TypeId)
 (hb1:w.heap[b1]?=some (.cells #[.string ⟨nm.toArray⟩,.string ⟨seqL.toArray⟩,.string ⟨relL.toArray⟩] T1 (0,0)))
 (hb2:w.heap[b2]?=some (.cells #[.int .i64 4,.int .i64 (Dec.mk x.id 0).1,.int .i64 (Dec.mk x.id 0).2.1,.string ⟨#[]⟩,.slice none 0 0,.slice none 0 0,.int .i64 4,.int .i64 (Dec.mk x.seq 0).1,.int .i64 (Dec.mk x.seq 0).2.1,.string ⟨#[]⟩,.slice none 0 0,.slice none 0 0,
   .int .i64 (if x.rel=true then 3 else 2),.int .i64 0,.int .i64 0,.string ⟨#[]⟩,.slice none 0 0,.slice none 0 0] T2 (0,0))):
 Calls Tryz.prog 48 #[.slice (some ⟨b1,0,none⟩) 3 3,.slice (some ⟨b2,0,none⟩) 3 3] w (CRet w 2 (partJ nm x)):=by
 rw [<-part_mk n1 n2];refine make5_any Any Any 1 w (some ⟨b1,0,none⟩) 3 (some ⟨b2,0,none⟩) 3 [nm,seqL,relL] [numJ x.id,numJ x.seq,boolJ x.rel] ?_ (by simp) (by simp) ?_ (by simp)
 ·refine strs_lit (l:= [nm,seqL,relL]) hb1 (by simp) (by simp) (fun n hm=> ?_);simp at hm;rcases hm with rfl | rfl | rfl
  ·exact hn
  ·unfold txtB seqL;simp
  ·unfold txtB relL;simp
 ·refine its_lit (us:= [bareV 4 (Dec.mk x.id 0).1 (Dec.mk x.id 0).2.1 [],bareV 4 (Dec.mk x.seq 0).1 (Dec.mk x.seq 0).2.1 [],bareV (if x.rel=true then 3 else 2) 0 0 []]) hb2 trivial rfl (fun u hu=> ?_) (fun i hi=> ?_)
  ·simp at hu;rcases hu with rfl | rfl | rfl <;> rfl
  ·have hi3:i=0∨i=1∨i=2:=by simp at hi;omega
   rcases hi3 with rfl | rfl | rfl
   ·exact num_jat h1
   ·exact num_jat h2
   ·exact flag_jat x.rel
theorem layPart_any (nm:List UInt8) (hn:txtB nm) (n1:nm≠seqL) (n2:nm≠relL) (x:St) (h1:numB x.id=true) (h2:numB x.seq=true) (w:World):Calls Tryz.prog 90 #[.string ⟨nm.toArray⟩,.int .i64 x.id,.int .i64 x.seq,.bool x.rel] w (CRet w 2 (partJ nm x)):=by
 have I1:=Lib.hid (fun (w':World)=>int_num x.id h1 w');have I2:=Lib.hid (fun (w':World)=>int_num x.seq h2 w');have Y1:=Lib.hid (fun (w':World)=>yes_any x.rel w');have MK:=Lib.hid (fun (w':World) (b1 b2:Nat) (T1 T2:TypeId)=>part_make hn n1 n2 h1 h2 w' b1 b2 T1 T2);unfold CRet at MK;unfold bareV at I1 I2 Y1;unfold seqL relL at MK;generalize (Dec.mk x.id 0).1=a1 at *;generalize (Dec.mk x.id 0).2.1=a2 at *;generalize (Dec.mk x.seq 0).1=c1 at *;generalize (Dec.mk x.seq 0).2.1=c2 at *;generalize (if x.rel=true then (3:Int) else 2)=c3 at *;generalize partJ nm x=P at *;obtain ⟨xi,xq,xr⟩:=x;simp only at I1 I2 Y1⊢;clear h1 h2 n1 n2 hn
 go_enter Tryz.func90,Tryz.ntmps90
 go_wp2_with (first
  | (go_at_call 49;(with_reducible refine (I1.out _).mono ?_);rintro e1 w1 ⟨rfl,hb1⟩)
  | (go_at_call 49;(with_reducible refine (I2.out _).mono ?_);rintro e2 w2 ⟨rfl,hb2⟩)
  | (go_at_call 124;(with_reducible refine (Y1.out _).mono ?_);rintro e3 w3 ⟨rfl,hb3⟩;have hbb:=Lib.hid ((hb1.trans (hb2.mono hb1.size)).trans (hb3.mono (Nat.le_trans hb1.size hb2.size)));have hs3:=hbb.out.size;have x1:=(hbb.out.block (w.heap.size+1) (by simp)).trans (two_new w _ _);have x0:=(hbb.out.block w.heap.size (by simp <;> omega)).trans (two_old w _ _);have hl3:w.heap.size+1 < w3.heap.size:=Own.block_lt x1)
  | (go_at_call 48;(with_reducible refine (MK.out _ _ _ _ _ ((heap_alloc_old _ _ hl3).trans x1) (heap_alloc_new _ _)).mono ?_);rintro e4 w4 ⟨k1,m1,e1',t1,an1,nn1,cn1,ai1,ni1,ci1,rfl,hJ1,hb4⟩;have hbw:=Lib.hid (((belowTwo w _ _).trans (hbb.out.mono (by simp <;> omega))).trans ((belowOne w3 _).mono (by omega)) |>.trans (hb4.mono (by simp <;> omega)));have y0:=(hb4.block _ (by simp <;> omega)).trans ((heap_alloc_old _ _ (by omega)).trans x0);obtain ⟨⟨z0,z1,z2,z3,z4,z5⟩,g0,g1,g2,g3,g4,g5⟩:=twelve_of y0))
 refine bodyPost_ret (v:= .agg #[.int .i64 k1,.int .i64 m1,.int .i64 e1',.string t1,.slice an1 nn1 cn1,.slice ai1 ni1 ci1]) (by simp [results,Tryz.results90,go_sem,z0,z1,z2,z3,z4,z5]) rfl ?_;obtain ⟨q1,q2⟩:=cret_fin (bres:=w.heap.size) hbw.out (Nat.le_refl _) (hJ1.keep (fun b hb _=>by simp at hb;exact ⟨by omega,by omega⟩) (fun _ _ _=>rfl) (Nat.le_refl _)) (.int .i64 k1) (.int .i64 m1) (.int .i64 e1') (.string t1) (.slice an1 nn1 cn1) (.slice ai1 ni1 ci1);exact ⟨_,_,_,_,_,_,_,_,_,_,rfl,q1,q2⟩
end Go.Proofs.YtclghelocglnlaaGreatDoor.Od
namespace Go.Proofs.YtclghelocglnlaaGreatDoor.Od
open Go.RowKit Js Lex
theorem layStop_any (x:St) (h1:numB x.id=true) (h2:numB x.seq=true) (w:World):Calls Tryz.prog 52 #[stV x] w (CRet w 2 (partJ nidL x)):=by
 have LP:=Lib.hid (fun (w':World)=>layPart_any nidL (by unfold txtB nidL;simp) (by decide) (by decide) x h1 h2 w');unfold CRet at LP;unfold stV;generalize partJ nidL x=P at *;unfold nidL at LP;clear h1 h2;obtain ⟨xi,xq,xr⟩:=x;simp only at LP⊢
 go_enter Tryz.func52,Tryz.ntmps52
 go_wp2_with (go_at_call 90;(with_reducible refine (LP.out _).mono ?_);rintro e1 w1 ⟨k1,m1,e1,t1,an1,nn1,cn1,ai1,ni1,ci1,rfl,hJ1,hb1⟩;have x2:=(hb1.block _ (by simp)).trans (two_new w (.cells #[.int .i64 xi,.int .i64 xq,.bool xr] 41) (.cells zero6 49));have hbw:=Lib.hid ((belowTwo w (.cells #[.int .i64 xi,.int .i64 xq,.bool xr] 41) (.cells zero6 49)).trans (hb1.mono (by simp;omega)));unfold zero6 at x2;obtain ⟨⟨z0,z1,z2,z3,z4,z5⟩,g0,g1,g2,g3,g4,g5⟩:=twelve_of x2)
 refine bodyPost_ret (v:= .agg #[.int .i64 k1,.int .i64 m1,.int .i64 e1,.string t1,.slice an1 nn1 cn1,.slice ai1 ni1 ci1]) (by simp [results,Tryz.results52,go_sem,z0,z1,z2,z3,z4,z5]) rfl ?_;obtain ⟨q1,q2⟩:=cret_fin (bres:=w.heap.size+1) hbw.out (by omega) (hJ1.keep (fun b hb _=>by simp at hb;exact ⟨by omega,by omega⟩) (fun _ _ _=>rfl) (Nat.le_refl _)) (.int .i64 k1) (.int .i64 m1) (.int .i64 e1) (.string t1) (.slice an1 nn1 cn1) (.slice ai1 ni1 ci1);exact ⟨_,_,_,_,_,_,_,_,_,_,rfl,q1,q2⟩
theorem layWay_any (x:St) (h1:numB x.id=true) (h2:numB x.seq=true) (w:World):Calls Tryz.prog 54 #[stV x] w (CRet w 2 (partJ eidL x)):=by
 have LP:=Lib.hid (fun (w':World)=>layPart_any eidL (by unfold txtB eidL;simp) (by decide) (by decide) x h1 h2 w');unfold CRet at LP;unfold stV;generalize partJ eidL x=P at *;unfold eidL at LP;clear h1 h2;obtain ⟨xi,xq,xr⟩:=x;simp only at LP⊢
 go_enter Tryz.func54,Tryz.ntmps54
 go_wp2_with (go_at_call 90;(with_reducible refine (LP.out _).mono ?_);rintro e1 w1 ⟨k1,m1,e1,t1,an1,nn1,cn1,ai1,ni1,ci1,rfl,hJ1,hb1⟩;have x2:=(hb1.block _ (by simp)).trans (two_new w (.cells #[.int .i64 xi,.int .i64 xq,.bool xr] 43) (.cells zero6 49));have hbw:=Lib.hid ((belowTwo w (.cells #[.int .i64 xi,.int .i64 xq,.bool xr] 43) (.cells zero6 49)).trans (hb1.mono (by simp;omega)));unfold zero6 at x2;obtain ⟨⟨z0,z1,z2,z3,z4,z5⟩,g0,g1,g2,g3,g4,g5⟩:=twelve_of x2)
 refine bodyPost_ret (v:= .agg #[.int .i64 k1,.int .i64 m1,.int .i64 e1,.string t1,.slice an1 nn1 cn1,.slice ai1 ni1 ci1]) (by simp [results,Tryz.results54,go_sem,z0,z1,z2,z3,z4,z5]) rfl ?_;obtain ⟨q1,q2⟩:=cret_fin (bres:=w.heap.size+1) hbw.out (by omega) (hJ1.keep (fun b hb _=>by simp at hb;exact ⟨by omega,by omega⟩) (fun _ _ _=>rfl) (Nat.le_refl _)) (.int .i64 k1) (.int .i64 m1) (.int .i64 e1) (.string t1) (.slice an1 nn1 cn1) (.slice ai1 ni1 ci1);exact ⟨_,_,_,_,_,_,_,_,_,_,rfl,q1,q2⟩
theorem layAllS_any (S:Nat->Prop) (a:Option Addr) (c:Nat) (l:List St) (w:World) (h:StsAt S w (.slice a l.length c) l) (hg:∀x∈l,numB x.id=true/\numB x.seq=true) (hl:l.length<=64):
 Calls Tryz.prog 51 #[.slice a l.length c,.func (.func 52) #[] #[]] w (CRet w 3 (.mk 6 0 0 [] [] (l.map (partJ nidL)))):=by
 obtain ⟨i0,hi0,hz0,hz1,hz2⟩:=info_parts json_info;have HST:=Lib.hid h;have HG:=Lib.hid hg;obtain ⟨is,HIS⟩:∃is,Hid (l.map (partJ nidL)=is):=⟨_,rfl⟩;have HLI:Hid (is.length=l.length):=by show _=_;rw [<-HIS.out,List.length_map]
 obtain ⟨n,HN⟩:∃n,Hid (l.length=n):=⟨_,rfl⟩;rw [HIS.out];rw [HN.out] at hl HLI HST⊢;have AR:=Lib.hid (fun (w':World) (b:Nat) (hit:ItemsAt (fun k=>k < w'.heap.size) w' 2 (some ⟨b,0,none⟩) is)=>arr5_any _ 2 w' (some ⟨b,0,none⟩) n is (by rw [HLI.out];omega) (by rw [HLI.out];exact Nat.le_refl _) hit);rw [HLI.out] at AR;unfold CRet at AR;clear h hg
 go_enter Tryz.func51,Tryz.ntmps51
 go_wp2_with (refine wpList_make_full _ rfl _ _ 47 rfl (w.heap.size+1) 49 i0 _ 6 Tryz.underlying47 hi0 hz0 hz1 .i64 .i64 _ _ n rfl rfl rfl rfl (by rw [hz2];omega) (by unfold maxLen;omega) (by simp) ?_;intro w1 hown1 hgrow1)
 have hCI:CI (w.alloc (.cells zero6 49)) 2 is 0 w1:=by
  rcases hown1.2 with ⟨e,_⟩ | ⟨g,cap,cur,hv,hbg,hg,hnc,hcm,hcs,htake⟩
  ·cases e
  ·cases hv
   exact ⟨(Below.refl _ _).grown hgrow1 (by simp) (fun k hk=>by cases hk),⟨cur,by simpa using hg,by rw [HLI.out];exact hcs⟩,fun i hi=>absurd hi (Nat.not_lt_zero _)⟩
 obtain ⟨w0,hw0⟩:∃w0,w.alloc (.cells zero6 49)=w0:=⟨_,rfl⟩;rw [hw0] at hCI;have HS0:Hid (w0.heap.size=w.heap.size+1):=by show _=_;rw [<-hw0];simp
 have HZ0:Hid (w0.heap[w.heap.size]?=some (.cells zero6 49 (0,0))):=by show _=_;rw [<-hw0];exact heap_alloc_new _ _
 have HB0:Hid (Below w.heap.size w w0):=by show Below _ _ _;rw [<-hw0];exact belowOne _ _
 have HCI:=Lib.hid hCI;clear hown1 hgrow1 hCI hw0;obtain ⟨B,HB⟩:∃B,Hid (w.heap.size+1=B):=⟨_,rfl⟩;rw [HB.out] at HS0⊢
 go_loopw [13] (fun i wr=>∃q:Nat,q<=n/\i= .int .i64 q/\Hid (CI w0 2 is q wr)) (fun i _=>n - (intOf i).toNat)
 case atStart=>exact ⟨0,Nat.zero_le _,rfl,HCI⟩
 case round=>
  clear HCI;obtain ⟨q,hq,rfl,HC⟩:=hrel;have hs0r:=HC.out.bel.size;have hs0:=HS0.out;have hB:=HB.out
  by_cases hlt:q < n
  ·obtain ⟨b,off,rfl,-,hbl,-,x0,x1,x2⟩:=HST.out.at_ (k:=q) (by rw [HN.out];exact hlt);rw [<-HB0.out.cell (p:=⟨b,_,none⟩) hbl,<-HC.out.bel.cell (p:=⟨b,_,none⟩) (by show b < _;omega)] at x0 x1 x2;have hblr:b < wr.heap.size:=by omega
   have q1:(q:Int) < (n:Int):=by omega
   have hmem:l.getD q st0∈l:=by
    rw [List.getD_eq_getElem?_getD,List.getElem?_eq_getElem (by rw [HN.out];exact hlt)];exact List.getElem_mem _
   have hgo:=HG.out _ hmem
   have HGI:Hid (is.getD q j0=partJ nidL (l.getD q st0)):=by
    show _=_;rw [<-HIS.out,List.getD_eq_getElem?_getD,List.getElem?_map,List.getElem?_eq_getElem (by rw [HN.out];exact hlt),List.getD_eq_getElem?_getD,List.getElem?_eq_getElem (by rw [HN.out];exact hlt)]
    rfl
   have C1:=Lib.hid (fun (o:Obj)=>layStop_any (l.getD q st0) hgo.1 hgo.2 (wr.alloc o));rw [<-HGI.out] at C1;unfold CRet stV at C1;have HQ:Hid (q < is.length):=by show _ < _;rw [HLI.out];exact hlt
   have hlr:B < wr.heap.size:=by obtain ⟨cur,hc,_⟩:=HC.out.blk;rw [<-hs0];exact Own.block_lt hc
   generalize l.getD q st0=X at *;clear hmem hgo HGI HST HS0 hB
   go_wp2_with (go_at_call 52;(with_reducible refine (C1.out _).mono ?_);rintro e3 w3 ⟨k3,m3,e3',t3,an3,nn3,cn3,ai3,ni3,ci3,rfl,hJ3,hb3⟩;have hb3':=Lib.hid (show Below wr.heap.size wr w3 from Dec.below_call hb3);have hcc:=HC.out.cells hb3'.out HQ.out;rw [hs0] at hcc;obtain ⟨z0,y0⟩:=hcc.1 0 (by omega);obtain ⟨z1,y1⟩:=hcc.1 1 (by omega);obtain ⟨z2,y2⟩:=hcc.1 2 (by omega);obtain ⟨z3,y3⟩:=hcc.1 3 (by omega);obtain ⟨z4,y4⟩:=hcc.1 4 (by omega);obtain ⟨z5,y5⟩:=hcc.1 5 (by omega);rw [Nat.add_zero] at y0;have f0:=hcc.2 (q * 6);have f1:=hcc.2 (q * 6+1);have f2:=hcc.2 (q * 6+2);have f3:=hcc.2 (q * 6+3);have f4:=hcc.2 (q * 6+4);have f5:=hcc.2 (q * 6+5);clear hcc;have hs3:=hb3'.out.size)
   go_roundw
   case rel=>
    have hst:=HC.out.step hb3'.out HQ.out (hJ3.keep (fun b hb _=>by simp at hb;omega) (fun _ _ _=>rfl) (Nat.le_refl _));rw [hs0] at hst;exact ⟨q+1,by omega,by go_num,hst⟩
   case measure=>simp [intOf];omega
  ·obtain rfl:q=n:=by omega
   have hC:=HC.out;rw [<-HLI.out] at hC;have hI:=hC.items;rw [hs0] at hI;have HI:=Lib.hid (hI.keep (S':=fun k=>k < wr.heap.size) (fun b _ hb=>hb) (fun _ _ _=>rfl) (Nat.le_refl _));have hz:=(HC.out.bel.block w.heap.size (by omega)).trans HZ0.out;unfold zero6 at hz;have HBW:=Lib.hid (HB0.out.trans (HC.out.bel.mono (by omega)));have HZ:=Lib.hid hz;have hlz:=Own.block_lt hz;clear hC hI hz
   go_wp2_with (go_at_call 89;(with_reducible refine (AR.out _ _ HI.out).mono ?_);rintro e3 w3 ⟨k3,m3,e3',t3,an3,nn3,cn3,ai3,ni3,ci3,rfl,hJ3,hb3⟩;have y0:=(hb3.block _ hlz).trans HZ.out;obtain ⟨⟨z0,z1,z2,z3,z4,z5⟩,g0,g1,g2,g3,g4,g5⟩:=twelve_of y0)
   refine bodyPost_ret (v:= .agg #[.int .i64 k3,.int .i64 m3,.int .i64 e3',.string t3,.slice an3 nn3 cn3,.slice ai3 ni3 ci3]) (by simp [results,Tryz.results51,go_sem,z0,z1,z2,z3,z4,z5]) rfl ?_;obtain ⟨q1,q2⟩:=cret_fin (bres:=w.heap.size) (HBW.out.trans (hb3.mono HBW.out.size)) (Nat.le_refl _) (hJ3.keep (fun b hb _=>by have hb':wr.heap.size<=b:=hb;exact ⟨by omega,by omega⟩) (fun _ _ _=>rfl) (Nat.le_refl _)) (.int .i64 k3) (.int .i64 m3) (.int .i64 e3') (.string t3) (.slice an3 nn3 cn3) (.slice ai3 ni3 ci3);exact ⟨_,_,_,_,_,_,_,_,_,_,rfl,q1,q2⟩
theorem layAllW_any (S:Nat->Prop) (a:Option Addr) (c:Nat) (l:List St) (w:World) (h:StsAt S w (.slice a l.length c) l) (hg:∀x∈l,numB x.id=true/\numB x.seq=true) (hl:l.length<=64):
 Calls Tryz.prog 53 #[.slice a l.length c,.func (.func 54) #[] #[]] w (CRet w 3 (.mk 6 0 0 [] [] (l.map (partJ eidL)))):=by
 obtain ⟨i0,hi0,hz0,hz1,hz2⟩:=info_parts json_info;have HST:=Lib.hid h;have HG:=Lib.hid hg;obtain ⟨is,HIS⟩:∃is,Hid (l.map (partJ eidL)=is):=⟨_,rfl⟩;have HLI:Hid (is.length=l.length):=by show _=_;rw [<-HIS.out,List.length_map]
 obtain ⟨n,HN⟩:∃n,Hid (l.length=n):=⟨_,rfl⟩;rw [HIS.out];rw [HN.out] at hl HLI HST⊢;have AR:=Lib.hid (fun (w':World) (b:Nat) (hit:ItemsAt (fun k=>k < w'.heap.size) w' 2 (some ⟨b,0,none⟩) is)=>arr5_any _ 2 w' (some ⟨b,0,none⟩) n is (by rw [HLI.out];omega) (by rw [HLI.out];exact Nat.le_refl _) hit);rw [HLI.out] at AR;unfold CRet at AR;clear h hg
 go_enter Tryz.func53,Tryz.ntmps53
 go_wp2_with (refine wpList_make_full _ rfl _ _ 47 rfl (w.heap.size+1) 49 i0 _ 6 Tryz.underlying47 hi0 hz0 hz1 .i64 .i64 _ _ n rfl rfl rfl rfl (by rw [hz2];omega) (by unfold maxLen;omega) (by simp) ?_;intro w1 hown1 hgrow1)
 have hCI:CI (w.alloc (.cells zero6 49)) 2 is 0 w1:=by
  rcases hown1.2 with ⟨e,_⟩ | ⟨g,cap,cur,hv,hbg,hg,hnc,hcm,hcs,htake⟩
  ·cases e
  ·cases hv
   exact ⟨(Below.refl _ _).grown hgrow1 (by simp) (fun k hk=>by cases hk),⟨cur,by simpa using hg,by rw [HLI.out];exact hcs⟩,fun i hi=>absurd hi (Nat.not_lt_zero _)⟩
 obtain ⟨w0,hw0⟩:∃w0,w.alloc (.cells zero6 49)=w0:=⟨_,rfl⟩;rw [hw0] at hCI;have HS0:Hid (w0.heap.size=w.heap.size+1):=by show _=_;rw [<-hw0];simp
 have HZ0:Hid (w0.heap[w.heap.size]?=some (.cells zero6 49 (0,0))):=by show _=_;rw [<-hw0];exact heap_alloc_new _ _
 have HB0:Hid (Below w.heap.size w w0):=by show Below _ _ _;rw [<-hw0];exact belowOne _ _
 have HCI:=Lib.hid hCI;clear hown1 hgrow1 hCI hw0;obtain ⟨B,HB⟩:∃B,Hid (w.heap.size+1=B):=⟨_,rfl⟩;rw [HB.out] at HS0⊢
 go_loopw [13] (fun i wr=>∃q:Nat,q<=n/\i= .int .i64 q/\Hid (CI w0 2 is q wr)) (fun i _=>n - (intOf i).toNat)
 case atStart=>exact ⟨0,Nat.zero_le _,rfl,HCI⟩
 case round=>
  clear HCI;obtain ⟨q,hq,rfl,HC⟩:=hrel;have hs0r:=HC.out.bel.size;have hs0:=HS0.out;have hB:=HB.out
  by_cases hlt:q < n
  ·obtain ⟨b,off,rfl,-,hbl,-,x0,x1,x2⟩:=HST.out.at_ (k:=q) (by rw [HN.out];exact hlt);rw [<-HB0.out.cell (p:=⟨b,_,none⟩) hbl,<-HC.out.bel.cell (p:=⟨b,_,none⟩) (by show b < _;omega)] at x0 x1 x2;have hblr:b < wr.heap.size:=by omega
   have q1:(q:Int) < (n:Int):=by omega
   have hmem:l.getD q st0∈l:=by
    rw [List.getD_eq_getElem?_getD,List.getElem?_eq_getElem (by rw [HN.out];exact hlt)];exact List.getElem_mem _
   have hgo:=HG.out _ hmem
   have HGI:Hid (is.getD q j0=partJ eidL (l.getD q st0)):=by
    show _=_;rw [<-HIS.out,List.getD_eq_getElem?_getD,List.getElem?_map,List.getElem?_eq_getElem (by rw [HN.out];exact hlt),List.getD_eq_getElem?_getD,List.getElem?_eq_getElem (by rw [HN.out];exact hlt)]
    rfl
   have C1:=Lib.hid (fun (o:Obj)=>layWay_any (l.getD q st0) hgo.1 hgo.2 (wr.alloc o));rw [<-HGI.out] at C1;unfold CRet stV at C1;have HQ:Hid (q < is.length):=by show _ < _;rw [HLI.out];exact hlt
   have hlr:B < wr.heap.size:=by obtain ⟨cur,hc,_⟩:=HC.out.blk;rw [<-hs0];exact Own.block_lt hc
   generalize l.getD q st0=X at *;clear hmem hgo HGI HST HS0 hB
   go_wp2_with (go_at_call 54;(with_reducible refine (C1.out _).mono ?_);rintro e3 w3 ⟨k3,m3,e3',t3,an3,nn3,cn3,ai3,ni3,ci3,rfl,hJ3,hb3⟩;have hb3':=Lib.hid (show Below wr.heap.size wr w3 from Dec.below_call hb3);have hcc:=HC.out.cells hb3'.out HQ.out;rw [hs0] at hcc;obtain ⟨z0,y0⟩:=hcc.1 0 (by omega);obtain ⟨z1,y1⟩:=hcc.1 1 (by omega);obtain ⟨z2,y2⟩:=hcc.1 2 (by omega);obtain ⟨z3,y3⟩:=hcc.1 3 (by omega);obtain ⟨z4,y4⟩:=hcc.1 4 (by omega);obtain ⟨z5,y5⟩:=hcc.1 5 (by omega);rw [Nat.add_zero] at y0;have f0:=hcc.2 (q * 6);have f1:=hcc.2 (q * 6+1);have f2:=hcc.2 (q * 6+2);have f3:=hcc.2 (q * 6+3);have f4:=hcc.2 (q * 6+4);have f5:=hcc.2 (q * 6+5);clear hcc;have hs3:=hb3'.out.size)
   go_roundw
   case rel=>
    have hst:=HC.out.step hb3'.out HQ.out (hJ3.keep (fun b hb _=>by simp at hb;omega) (fun _ _ _=>rfl) (Nat.le_refl _));rw [hs0] at hst;exact ⟨q+1,by omega,by go_num,hst⟩
   case measure=>simp [intOf];omega
  ·obtain rfl:q=n:=by omega
   have hC:=HC.out;rw [<-HLI.out] at hC;have hI:=hC.items;rw [hs0] at hI;have HI:=Lib.hid (hI.keep (S':=fun k=>k < wr.heap.size) (fun b _ hb=>hb) (fun _ _ _=>rfl) (Nat.le_refl _));have hz:=(HC.out.bel.block w.heap.size (by omega)).trans HZ0.out;unfold zero6 at hz;have HBW:=Lib.hid (HB0.out.trans (HC.out.bel.mono (by omega)));have HZ:=Lib.hid hz;have hlz:=Own.block_lt hz;clear hC hI hz
   go_wp2_with (go_at_call 89;(with_reducible refine (AR.out _ _ HI.out).mono ?_);rintro e3 w3 ⟨k3,m3,e3',t3,an3,nn3,cn3,ai3,ni3,ci3,rfl,hJ3,hb3⟩;have y0:=(hb3.block _ hlz).trans HZ.out;obtain ⟨⟨z0,z1,z2,z3,z4,z5⟩,g0,g1,g2,g3,g4,g5⟩:=twelve_of y0)
   refine bodyPost_ret (v:= .agg #[.int .i64 k3,.int .i64 m3,.int .i64 e3',.string t3,.slice an3 nn3 cn3,.slice ai3 ni3 ci3]) (by simp [results,Tryz.results53,go_sem,z0,z1,z2,z3,z4,z5]) rfl ?_;obtain ⟨q1,q2⟩:=cret_fin (bres:=w.heap.size) (HBW.out.trans (hb3.mono HBW.out.size)) (Nat.le_refl _) (hJ3.keep (fun b hb _=>by have hb':wr.heap.size<=b:=hb;exact ⟨by omega,by omega⟩) (fun _ _ _=>rfl) (Nat.le_refl _)) (.int .i64 k3) (.int .i64 m3) (.int .i64 e3') (.string t3) (.slice an3 nn3 cn3) (.slice ai3 ni3 ci3);exact ⟨_,_,_,_,_,_,_,_,_,_,rfl,q1,q2⟩
end Go.Proofs.YtclghelocglnlaaGreatDoor.Od
namespace Go.Proofs.YtclghelocglnlaaGreatDoor.Od
open Go.RowKit Js Lex
def namesO:List (List UInt8):= [hdrL,serL,ordL,updL,nodL,edgL]
def JV (lo d:Nat) (j:J) (z:Value) (w:World):Prop:=(∃k m e t an nn cn ai ni ci,z= .agg #[.int .i64 k,.int .i64 m,.int .i64 e,.string t,.slice an nn cn,.slice ai ni ci])/\JAt (fun b=>lo<=b) w d z j
theorem JV.stable (lo d:Nat) (j:J):Stable (JV lo d j):=fun z w w' h hb=>⟨h.1,h.2.below hb (Nat.le_refl _)⟩
def NamesV (z:Value) (w:World):Prop:=∃b,z= .slice (some ⟨b,0,none⟩) 6 6/\StrsAt Any w z namesO
theorem NamesV.stable:Stable NamesV:=fun z w w' ⟨b,e,h⟩ hb=>⟨b,e,h.keep (fun _ _ _=>trivial) (fun k _ hk=>hb.block k hk) hb.size⟩
def ItemsV (is:List J) (z:Value) (w:World):Prop:=∃b,z= .slice (some ⟨b,0,none⟩) 6 6/\ItemsAt Any w 3 (some ⟨b,0,none⟩) is
theorem ItemsV.stable (is:List J):Stable (ItemsV is):=fun z w w' ⟨b,e,h⟩ hb=>⟨b,e,h.below hb⟩
theorem names_new (w:World):NamesV (.slice (some ⟨w.heap.size,0,none⟩) 6 6) (w.alloc (.cells #[.string ⟨#[104,101,97,100,101,114,73,100]⟩,.string ⟨#[115,101,114,105,97,108,78,117,109,98,101,114]⟩,.string ⟨#[111,114,100,101,114,73,100]⟩,.string ⟨#[111,114,100,101,114,85,112,100,97,116,101,73,100]⟩,.string ⟨#[110,111,100,101,115]⟩,.string ⟨#[101,100,103,101,115]⟩] 9)):=
 ⟨_,rfl,strs_lit (l:=namesO) (heap_alloc_new _ _) (by simp [namesO]) (by simp [namesO]) (fun n hm=>by
   simp [namesO] at hm;rcases hm with rfl | rfl | rfl | rfl | rfl | rfl <;> (unfold txtB;simp [hdrL,serL,ordL,updL,nodL,edgL]))⟩
theorem name_ok:NameOk Tp.nameB:=fun l h=>⟨by
 unfold asciiB;rw [List.all_eq_true];intro c hc;have:=Tp.name_of h c hc;unfold Tp.ofB at this;simp only [decide_eq_true_eq] at this;simp only [Bool.and_eq_true,decide_eq_true_eq]
 omega,(Tp.name_len h).2⟩
def itemsO (x:O):List J:= [numJ x.h,.mk 5 0 0 x.v [] [],numJ x.o,numJ x.u,.mk 6 0 0 [] [] (x.ns.map (partJ nidL)),.mk 6 0 0 [] [] (x.es.map (partJ eidL))]
theorem order_mk (x:O):mkJ namesO (itemsO x)=layJ x:=by
 unfold mkJ layJ namesO itemsO;simp only [mkL]
 rfl
theorem str_jat {S:Nat->Prop} {w:World} {t:List UInt8} (h:txtB t):JAt S w 1 (bareV 5 0 0 t) (.mk 5 0 0 t [] []):=leaf_jat (d:=0) ⟨by decide,by decide⟩ ⟨by decide,by decide⟩ ⟨by decide,by decide⟩ h
theorem order_make (x:O) (w:World) {n i:Value} (hn:NamesV n w) (hi:ItemsV (itemsO x) i w):Calls Tryz.prog 48 #[n,i] w (CRet w 4 (layJ x)):=by
 obtain ⟨b1,rfl,h1⟩:=hn;obtain ⟨b2,rfl,h2⟩:=hi;rw [<-order_mk];exact make5_any Any Any 3 w (some ⟨b1,0,none⟩) 6 (some ⟨b2,0,none⟩) 6 namesO (itemsO x) h1 (by simp [itemsO]) (by simp [itemsO]) h2 (by simp [itemsO,namesO])
theorem six_items {w:World} {b:Nat} {T:TypeId} {x:O} (h1:numB x.h=true) (h2:numB x.o=true) (h3:numB x.u=true) (ht:txtB x.v) {lo:Nat} {za zb:Value} (ha:JV lo 3 (.mk 6 0 0 [] [] (x.ns.map (partJ nidL))) za w) (hb:JV lo 3 (.mk 6 0 0 [] [] (x.es.map (partJ eidL))) zb w)
 (h:w.heap[b]?=some (.cells ([bareV 4 (Dec.mk x.h 0).1 (Dec.mk x.h 0).2.1 [],bareV 5 0 0 x.v,bareV 4 (Dec.mk x.o 0).1 (Dec.mk x.o 0).2.1 [],bareV 4 (Dec.mk x.u 0).1 (Dec.mk x.u 0).2.1 [],za,zb].flatMap aggC).toArray T (0,0))):ItemsAt Any w 3 (some ⟨b,0,none⟩) (itemsO x):=by
 obtain ⟨⟨k,m,e,t,an,nn,cn,ai,ni,ci,rfl⟩,ja⟩:=ha;obtain ⟨⟨k',m',e',t',an',nn',cn',ai',ni',ci',rfl⟩,jb⟩:=hb;refine its_lit h trivial rfl (fun u hu=> ?_) (fun i hi=> ?_)
 ·simp at hu;rcases hu with rfl | rfl | rfl | rfl | rfl | rfl <;> rfl
 ·have hi6:i=0∨i=1∨i=2∨i=3∨i=4∨i=5:=by simp [itemsO] at hi;omega
  rcases hi6 with rfl | rfl | rfl | rfl | rfl | rfl
  ·exact (num_jat h1).deep (by omega)
  ·exact (str_jat ht).deep (by omega)
  ·exact (num_jat h2).deep (by omega)
  ·exact (num_jat h3).deep (by omega)
  ·exact ja.any
  ·exact jb.any
theorem layOrder_any (S:Nat->Prop) (a:Value) (x:O) (w:World) (h:OAt S w a x) (hr:rightO Tp.nameB x=true):Calls Tryz.prog 20 #[a] w (CRet w 4 (layJ x)):=by
 obtain ⟨an,cn,ae,ce,rfl,-,hv,-,-,hN,hE⟩:=h.open_;obtain ⟨r1,r2,r3,r4,r5,r6,r7,r8,r9⟩:=rightO_parts hr;have ht:txtB x.v:=by have:=(Tp.name_len r1).2;unfold txtB;omega
 go_enter Tryz.func20,Tryz.ntmps20
 go_upto_region 1 with fail
 obtain ⟨w2,hw2⟩:∃w2,((w.alloc (.cells #[.int .i64 x.h,.string ⟨x.v.toArray⟩,.int .i64 x.o,.int .i64 x.u,.slice an x.ns.length cn,.slice ae x.es.length ce] 25)).alloc (.cells #[.int .i64 0,.int .i64 0,.int .i64 0,.string ⟨#[]⟩,.slice none 0 0,.slice none 0 0] 49))=w2:=⟨_,rfl⟩;have HBOX:Hid (w2.heap[w.heap.size]?=some (.cells #[.int .i64 x.h,.string ⟨x.v.toArray⟩,.int .i64 x.o,.int .i64 x.u,.slice an x.ns.length cn,.slice ae x.es.length ce] 25 (0,0))):=by show _=_;rw [<-hw2];exact two_old _ _ _
 have HRES:Hid (w2.heap[w.heap.size+1]?=some (.cells #[.int .i64 0,.int .i64 0,.int .i64 0,.string ⟨#[]⟩,.slice none 0 0,.slice none 0 0] 49 (0,0))):=by show _=_;rw [<-hw2];exact two_new _ _ _
 have HB2:Hid (Below w.heap.size w w2):=by show Below _ _ _;rw [<-hw2];exact belowTwo _ _ _
 have hlb:=Own.block_lt HBOX.out;have hlr:=Own.block_lt HRES.out;have hs2:=HB2.out.size;rw [hw2];clear hw2;refine wp_region_grow mixed8 (fun zs=>{ tmps:=List.toArray (.agg #[.int .i64 x.h,.string ⟨x.v.toArray⟩,.int .i64 x.o,.int .i64 x.u,.slice an x.ns.length cn,.slice ae x.es.length ce]::.pointer (some ⟨w.heap.size,0,none⟩)::.pointer (some ⟨w.heap.size+1,0,none⟩)::zs.getD 0 undef::zs.getD 1 undef::zs.getD 2 undef::zs.getD 3 undef::zs.getD 4 undef::zs.getD 5 undef::zs.getD 6 undef::zs.getD 7 undef::zs.getD 8 undef::zs.getD 9 undef::zs.getD 10 undef::zs.getD 11 undef::zs.getD 12 undef::zs.getD 13 undef::zs.getD 14 undef::zs.getD 15 undef::zs.getD 16 undef::zs.getD 17 undef::zs.getD 18 undef::zs.getD 19 undef::zs.getD 20 undef:: []),defers:= [] }) [NamesV,(fun z _=>z=.pointer (some ⟨w.heap.size,0,none⟩)),(fun z _=>z=.int .i64 x.h),(fun z _=>z=bareV 4 (Dec.mk x.h 0).1 (Dec.mk x.h 0).2.1 []),(fun z _=>z=.pointer (some ⟨w.heap.size,1,none⟩)),(fun z _=>z=.string ⟨x.v.toArray⟩),(fun z _=>z=bareV 5 0 0 x.v),(fun z _=>z=.pointer (some ⟨w.heap.size,2,none⟩)),(fun z _=>z=.int .i64 x.o),(fun z _=>z=bareV 4 (Dec.mk x.o 0).1 (Dec.mk x.o 0).2.1 []),(fun z _=>z=.pointer (some ⟨w.heap.size,3,none⟩)),(fun z _=>z=.int .i64 x.u),(fun z _=>z=bareV 4 (Dec.mk x.u 0).1 (Dec.mk x.u 0).2.1 []),(fun z _=>z=.pointer (some ⟨w.heap.size,4,none⟩)),(fun z _=>z=.slice an x.ns.length cn),(JV w2.heap.size 3 (.mk 6 0 0 [] [] (x.ns.map (partJ nidL)))),(fun z _=>z=.pointer (some ⟨w.heap.size,5,none⟩)),(fun z _=>z=.slice ae x.es.length ce),(JV w2.heap.size 3 (.mk 6 0 0 [] [] (x.es.map (partJ eidL)))),(ItemsV (itemsO x)),(JV w2.heap.size 4 (layJ x))] (List.replicate 21 undef) rfl rfl rfl ?_ (by kernel_rfl) (by kernel_rfl) ?_ ?_
 ·intro p hp;simp only [List.mem_cons,List.not_mem_nil,or_false] at hp;rcases hp with rfl | rfl | rfl | rfl | rfl | rfl | rfl | rfl | rfl | rfl | rfl | rfl | rfl | rfl | rfl | rfl | rfl | rfl | rfl | rfl | rfl
  all_goals first | exact stable_eq _ | exact JV.stable _ _ _ | exact NamesV.stable | exact ItemsV.stable _
 ·intro i hi zs l wz o hz hF ho hpre;have hi':i < 21:=hi
  match zs,(show zs.length=21 from hz) with
  | [z0,z1,z2,z3,z4,z5,z6,z7,z8,z9,z10,z11,z12,z13,z14,z15,z16,z17,z18,z19,z20],_=>
    clear hz hi;change wpOp _ _ _ _ _ { tmps:=List.toArray (.agg #[.int .i64 x.h,.string ⟨x.v.toArray⟩,.int .i64 x.o,.int .i64 x.u,.slice an x.ns.length cn,.slice ae x.es.length ce]::.pointer (some ⟨w.heap.size,0,none⟩)::.pointer (some ⟨w.heap.size+1,0,none⟩)::z0::z1::z2::z3::z4::z5::z6::z7::z8::z9::z10::z11::z12::z13::z14::z15::z16::z17::z18::z19::z20:: []),defers:= [] } _;have hc:i=0∨i=1∨i=2∨i=3∨i=4∨i=5∨i=6∨i=7∨i=8∨i=9∨i=10∨i=11∨i=12∨i=13∨i=14∨i=15∨i=16∨i=17∨i=18∨i=19∨i=20:=(by omega);clear hi';rcases hc with rfl | rfl | rfl | rfl | rfl | rfl | rfl | rfl | rfl | rfl | rfl | rfl | rfl | rfl | rfl | rfl | rfl | rfl | rfl | rfl | rfl
    ·clear ho hpre;refine wpOp_here rfl (fun K' hK=> ?_)
     go_simp
     exact hK _ _ ⟨_,rfl,belowOne _ _,fun p hp=>by cases (show some NamesV=some p from hp);exact names_new _⟩
    ·clear ho hpre;refine wpOp_here rfl (fun K' hK=> ?_)
     go_simp
     exact hK _ _ ⟨_,rfl,Below.refl _ _,fun p hp=>by cases (show some (fun z _=>z=Value.pointer (some ⟨w.heap.size,0,none⟩))=some p from hp);exact rfl⟩
    ·obtain ⟨c0,c1,c2,c3,c4,c5⟩:=six_of ((hF.bel.block _ hlb).trans HBOX.out);have p1:=hF.fact 1 _ _ rfl rfl (hpre ⟨1,.data⟩ (by cases ho;simp) rfl);subst p1;clear ho hpre;refine wpOp_here rfl (fun K' hK=> ?_)
     go_simp
     exact hK _ _ ⟨_,rfl,Below.refl _ _,fun p hp=>by cases (show some (fun z _=>z=Value.int .i64 x.h)=some p from hp);exact rfl⟩
    ·have p2:=hF.fact 2 _ _ rfl rfl (hpre ⟨2,.data⟩ (by cases ho;simp) rfl);subst p2;clear ho hpre;refine wpOp_here rfl (fun K' hK=> ?_)
     go_simp
     refine (int_num x.h r2 wz).mono ?_;rintro e6 w6 ⟨rfl,hb6⟩;exact hK _ _ ⟨_,rfl,hb6,fun p hp=>by cases (show some (fun z _=>z=bareV 4 (Dec.mk x.h 0).1 (Dec.mk x.h 0).2.1 [])=some p from hp);exact rfl⟩
    ·clear ho hpre;refine wpOp_here rfl (fun K' hK=> ?_)
     go_simp
     exact hK _ _ ⟨_,rfl,Below.refl _ _,fun p hp=>by cases (show some (fun z _=>z=Value.pointer (some ⟨w.heap.size,1,none⟩))=some p from hp);exact rfl⟩
    ·obtain ⟨c0,c1,c2,c3,c4,c5⟩:=six_of ((hF.bel.block _ hlb).trans HBOX.out);have p4:=hF.fact 4 _ _ rfl rfl (hpre ⟨4,.data⟩ (by cases ho;simp) rfl);subst p4;clear ho hpre;refine wpOp_here rfl (fun K' hK=> ?_)
     go_simp
     exact hK _ _ ⟨_,rfl,Below.refl _ _,fun p hp=>by cases (show some (fun z _=>z=Value.string ⟨x.v.toArray⟩)=some p from hp);exact rfl⟩
    ·have p5:=hF.fact 5 _ _ rfl rfl (hpre ⟨5,.data⟩ (by cases ho;simp) rfl);subst p5;clear ho hpre;refine wpOp_here rfl (fun K' hK=> ?_)
     go_simp
     refine (str5_any x.v wz).mono ?_;rintro e6 w6 ⟨rfl,hb6⟩;exact hK _ _ ⟨_,rfl,hb6,fun p hp=>by cases (show some (fun z _=>z=bareV 5 0 0 x.v)=some p from hp);exact rfl⟩
    ·clear ho hpre;refine wpOp_here rfl (fun K' hK=> ?_)
     go_simp
     exact hK _ _ ⟨_,rfl,Below.refl _ _,fun p hp=>by cases (show some (fun z _=>z=Value.pointer (some ⟨w.heap.size,2,none⟩))=some p from hp);exact rfl⟩
    ·obtain ⟨c0,c1,c2,c3,c4,c5⟩:=six_of ((hF.bel.block _ hlb).trans HBOX.out);have p7:=hF.fact 7 _ _ rfl rfl (hpre ⟨7,.data⟩ (by cases ho;simp) rfl);subst p7;clear ho hpre;refine wpOp_here rfl (fun K' hK=> ?_)
     go_simp
     exact hK _ _ ⟨_,rfl,Below.refl _ _,fun p hp=>by cases (show some (fun z _=>z=Value.int .i64 x.o)=some p from hp);exact rfl⟩
    ·have p8:=hF.fact 8 _ _ rfl rfl (hpre ⟨8,.data⟩ (by cases ho;simp) rfl);subst p8;clear ho hpre;refine wpOp_here rfl (fun K' hK=> ?_)
     go_simp
     refine (int_num x.o r3 wz).mono ?_;rintro e6 w6 ⟨rfl,hb6⟩;exact hK _ _ ⟨_,rfl,hb6,fun p hp=>by cases (show some (fun z _=>z=bareV 4 (Dec.mk x.o 0).1 (Dec.mk x.o 0).2.1 [])=some p from hp);exact rfl⟩
    ·clear ho hpre;refine wpOp_here rfl (fun K' hK=> ?_)
     go_simp
     exact hK _ _ ⟨_,rfl,Below.refl _ _,fun p hp=>by cases (show some (fun z _=>z=Value.pointer (some ⟨w.heap.size,3,none⟩))=some p from hp);exact rfl⟩
    ·obtain ⟨c0,c1,c2,c3,c4,c5⟩:=six_of ((hF.bel.block _ hlb).trans HBOX.out);have p10:=hF.fact 10 _ _ rfl rfl (hpre ⟨10,.data⟩ (by cases ho;simp) rfl);subst p10;clear ho hpre;refine wpOp_here rfl (fun K' hK=> ?_)
     go_simp
     exact hK _ _ ⟨_,rfl,Below.refl _ _,fun p hp=>by cases (show some (fun z _=>z=Value.int .i64 x.u)=some p from hp);exact rfl⟩
    ·have p11:=hF.fact 11 _ _ rfl rfl (hpre ⟨11,.data⟩ (by cases ho;simp) rfl);subst p11;clear ho hpre;refine wpOp_here rfl (fun K' hK=> ?_)
     go_simp
     refine (int_num x.u r4 wz).mono ?_;rintro e6 w6 ⟨rfl,hb6⟩;exact hK _ _ ⟨_,rfl,hb6,fun p hp=>by cases (show some (fun z _=>z=bareV 4 (Dec.mk x.u 0).1 (Dec.mk x.u 0).2.1 [])=some p from hp);exact rfl⟩
    ·clear ho hpre;refine wpOp_here rfl (fun K' hK=> ?_)
     go_simp
     exact hK _ _ ⟨_,rfl,Below.refl _ _,fun p hp=>by cases (show some (fun z _=>z=Value.pointer (some ⟨w.heap.size,4,none⟩))=some p from hp);exact rfl⟩
    ·obtain ⟨c0,c1,c2,c3,c4,c5⟩:=six_of ((hF.bel.block _ hlb).trans HBOX.out);have p13:=hF.fact 13 _ _ rfl rfl (hpre ⟨13,.data⟩ (by cases ho;simp) rfl);subst p13;clear ho hpre;refine wpOp_here rfl (fun K' hK=> ?_)
     go_simp
     exact hK _ _ ⟨_,rfl,Below.refl _ _,fun p hp=>by cases (show some (fun z _=>z=Value.slice an x.ns.length cn)=some p from hp);exact rfl⟩
    ·have p14:=hF.fact 14 _ _ rfl rfl (hpre ⟨14,.data⟩ (by cases ho;simp) rfl);subst p14;clear ho hpre;refine wpOp_here rfl (fun K' hK=> ?_)
     go_simp
     have hc:=layAllS_any S an cn x.ns wz (hN.below (HB2.out.trans (hF.bel.mono hs2)) (Nat.le_refl _)) r8 r6;unfold CRet at hc;refine hc.mono ?_;rintro e6 w6 ⟨k6,m6,e6',t6,an6,nn6,cn6,ai6,ni6,ci6,rfl,hJ6,hb6⟩;exact hK _ _ ⟨_,rfl,hb6,fun p hp=>by cases (show some (JV w2.heap.size 3 (.mk 6 0 0 [] [] (x.ns.map (partJ nidL))))=some p from hp);exact ⟨⟨_,_,_,_,_,_,_,_,_,_,rfl⟩,hJ6.keep (fun b hb _=>by have hb':wz.heap.size<=b:=hb;have:=hF.bel.size;show w2.heap.size<=b;omega) (fun _ _ _=>rfl) (Nat.le_refl _)⟩⟩
    ·clear ho hpre;refine wpOp_here rfl (fun K' hK=> ?_)
     go_simp
     exact hK _ _ ⟨_,rfl,Below.refl _ _,fun p hp=>by cases (show some (fun z _=>z=Value.pointer (some ⟨w.heap.size,5,none⟩))=some p from hp);exact rfl⟩
    ·obtain ⟨c0,c1,c2,c3,c4,c5⟩:=six_of ((hF.bel.block _ hlb).trans HBOX.out);have p16:=hF.fact 16 _ _ rfl rfl (hpre ⟨16,.data⟩ (by cases ho;simp) rfl);subst p16;clear ho hpre;refine wpOp_here rfl (fun K' hK=> ?_)
     go_simp
     exact hK _ _ ⟨_,rfl,Below.refl _ _,fun p hp=>by cases (show some (fun z _=>z=Value.slice ae x.es.length ce)=some p from hp);exact rfl⟩
    ·have p17:=hF.fact 17 _ _ rfl rfl (hpre ⟨17,.data⟩ (by cases ho;simp) rfl);subst p17;clear ho hpre;refine wpOp_here rfl (fun K' hK=> ?_)
     go_simp
     have hc:=layAllW_any S ae ce x.es wz (hE.below (HB2.out.trans (hF.bel.mono hs2)) (Nat.le_refl _)) r9 (by omega);unfold CRet at hc;refine hc.mono ?_;rintro e6 w6 ⟨k6,m6,e6',t6,an6,nn6,cn6,ai6,ni6,ci6,rfl,hJ6,hb6⟩;exact hK _ _ ⟨_,rfl,hb6,fun p hp=>by cases (show some (JV w2.heap.size 3 (.mk 6 0 0 [] [] (x.es.map (partJ eidL))))=some p from hp);exact ⟨⟨_,_,_,_,_,_,_,_,_,_,rfl⟩,hJ6.keep (fun b hb _=>by have hb':wz.heap.size<=b:=hb;have:=hF.bel.size;show w2.heap.size<=b;omega) (fun _ _ _=>rfl) (Nat.le_refl _)⟩⟩
    ·have p3:=hF.fact 3 _ _ rfl rfl (hpre ⟨3,.data⟩ (by cases ho;simp) rfl);have p6:=hF.fact 6 _ _ rfl rfl (hpre ⟨6,.data⟩ (by cases ho;simp) rfl);have p9:=hF.fact 9 _ _ rfl rfl (hpre ⟨9,.data⟩ (by cases ho;simp) rfl);have p12:=hF.fact 12 _ _ rfl rfl (hpre ⟨12,.data⟩ (by cases ho;simp) rfl);have p15:=hF.fact 15 _ _ rfl rfl (hpre ⟨15,.data⟩ (by cases ho;simp) rfl);have p18:=hF.fact 18 _ _ rfl rfl (hpre ⟨18,.data⟩ (by cases ho;simp) rfl);have q15:=id p15;have q18:=id p18;obtain ⟨⟨ka,ma,ea,ta,ana,nna,cna,aia,nia,cia,rfl⟩,-⟩:=p15;obtain ⟨⟨kb,mb,eb,tb,anb,nnb,cnb,aib,nib,cib,rfl⟩,-⟩:=p18;subst p3 p6 p9 p12;unfold bareV;clear ho hpre;refine wpOp_here rfl (fun K' hK=> ?_)
     go_simp
     exact hK _ _ ⟨_,rfl,belowOne _ _,fun p hp=>by cases (show some (ItemsV (itemsO x))=some p from hp);exact ⟨_,rfl,six_items r2 r3 r4 ht (JV.stable _ _ _ _ _ _ q15 (belowOne _ _)) (JV.stable _ _ _ _ _ _ q18 (belowOne _ _)) (heap_alloc_new _ _)⟩⟩
    ·have p0:=hF.fact 0 _ _ rfl rfl (hpre ⟨0,.data⟩ (by cases ho;simp) rfl);have p19:=hF.fact 19 _ _ rfl rfl (hpre ⟨19,.data⟩ (by cases ho;simp) rfl);clear ho hpre;refine wpOp_here rfl (fun K' hK=> ?_)
     go_simp
     have hc:=order_make x wz p0 p19;unfold CRet at hc;refine hc.mono ?_;rintro e6 w6 ⟨k6,m6,e6',t6,an6,nn6,cn6,ai6,ni6,ci6,rfl,hJ6,hb6⟩;exact hK _ _ ⟨_,rfl,hb6,fun p hp=>by cases (show some (JV w2.heap.size 4 (layJ x))=some p from hp);exact ⟨⟨_,_,_,_,_,_,_,_,_,_,rfl⟩,hJ6.keep (fun b hb _=>by have hb':wz.heap.size<=b:=hb;have:=hF.bel.size;show w2.heap.size<=b;omega) (fun _ _ _=>rfl) (Nat.le_refl _)⟩⟩
 ·intro zs wz hz hB hev
  match zs,(show zs.length=21 from hz) with
  | [z0,z1,z2,z3,z4,z5,z6,z7,z8,z9,z10,z11,z12,z13,z14,z15,z16,z17,z18,z19,z20],_=>
    have p20:=hev 20 _ _ rfl rfl;clear hev hz;change wpOp _ _ _ _ _ { tmps:=List.toArray (.agg #[.int .i64 x.h,.string ⟨x.v.toArray⟩,.int .i64 x.o,.int .i64 x.u,.slice an x.ns.length cn,.slice ae x.es.length ce]::.pointer (some ⟨w.heap.size,0,none⟩)::.pointer (some ⟨w.heap.size+1,0,none⟩)::z0::z1::z2::z3::z4::z5::z6::z7::z8::z9::z10::z11::z12::z13::z14::z15::z16::z17::z18::z19::z20:: []),defers:= [] } _;obtain ⟨⟨k6,m6,e6',t6,an6,nn6,cn6,ai6,ni6,ci6,rfl⟩,hJ⟩:=p20;have y0:=(hB.block _ hlr).trans HRES.out;obtain ⟨⟨c0,c1,c2,c3,c4,c5⟩,g0,g1,g2,g3,g4,g5⟩:=twelve_of y0;refine wpOp_here rfl (fun K' hK=> ?_)
    go_simp
    refine hK _ _ ?_
    go_wp2_with fail
    refine bodyPost_ret (v:= .agg #[.int .i64 k6,.int .i64 m6,.int .i64 e6',.string t6,.slice an6 nn6 cn6,.slice ai6 ni6 ci6]) (by simp [results,Tryz.results20,go_sem,c0,c1,c2,c3,c4,c5]) rfl ?_;have hsz:=hB.size;obtain ⟨q1,q2⟩:=cret_fin (bres:=w.heap.size+1) (HB2.out.trans (hB.mono hs2)) (by omega) (hJ.keep (fun b hb _=>by have hb':w2.heap.size<=b:=hb;exact ⟨by omega,by omega⟩) (fun _ _ _=>rfl) (Nat.le_refl _)) (.int .i64 k6) (.int .i64 m6) (.int .i64 e6') (.string t6) (.slice an6 nn6 cn6) (.slice ai6 ni6 ci6);exact ⟨_,_,_,_,_,_,_,_,_,_,rfl,q1,q2⟩
theorem Lay_any (S:Nat->Prop) (a:Value) (x:O) (w:World) (hT:Dec.Tab w) (h:OAt S w a x):Calls Tryz.prog 6 #[a] w (Ret (if rightO Tp.nameB x=true then .tuple #[.string ⟨(layS x).toArray⟩,.int .i64 0] else .tuple #[.string ⟨#[]⟩,.int .i64 1]) w):=by
 have R1:=Lib.hid (fun (w':World) (hb:Below w.heap.size w w')=>right_any S a x w' (h.below hb (Nat.le_refl _)))
 by_cases hr:rightO Tp.nameB x=true
 ·rw [if_pos hr];rw [hr] at R1;have hnm:NameOk Tp.nameB:=name_ok;have hrj:=lay_right hnm hr;have hlen:=lay_len hnm hr;have LO:=Lib.hid (fun (w':World) (hb:Below w.heap.size w w')=>layOrder_any S a x w' (h.below hb (Nat.le_refl _)) hr);unfold CRet at LO;have PR:=Lib.hid (fun (w':World) (v:Value) (hb:Below w.heap.size w w') (hJ:JAt Any w' 4 v (layJ x))=>print_of Any v (layJ x) w' (hT.below hb) ⟨4,hJ⟩ (by omega));have hps:printS (layJ x)=printJ (layJ x):=by unfold printS;rw [if_pos hrj]
  rw [hps] at PR;have SE:=Lib.hid (fun (w':World)=>Se.seal_l (printJ (layJ x)) w' (by omega));unfold layS;generalize Se.sealS (printJ (layJ x))=T at *;generalize printJ (layJ x)=U at *;generalize layJ x=L at *;obtain ⟨an,cn,ae,ce,rfl,-⟩:=h.open_;clear hrj hlen hps hnm hr h
  go_enter Tryz.func6,Tryz.ntmps6
  go_wp2_with (first
   | (go_at_call 8;(with_reducible refine (R1.out _ (belowOne _ _)).mono ?_);rintro e1 w1 ⟨rfl,hb1⟩;have HB1:=Lib.hid (show Below w.heap.size w w1 from (belowOne w _).trans (hb1.mono (by simp)));obtain ⟨y0,y1,y2,y3,y4,y5⟩:=six_of ((hb1.block _ (by simp)).trans (heap_alloc_new w _)))
   | (go_at_call 20;(with_reducible refine (LO.out _ HB1.out).mono ?_);rintro e2 w2 ⟨k6,m6,e6',t6,an6,nn6,cn6,ai6,ni6,ci6,rfl,hJ6,hb6⟩;have HB2:=Lib.hid (HB1.out.trans (hb6.mono HB1.out.size));have HJ6:=Lib.hid hJ6.any)
   | (go_at_call 19;(with_reducible refine (PR.out _ _ HB2.out HJ6.out).mono ?_);rintro e3 w3 ⟨rfl,hb3⟩;have HB3:=Lib.hid (HB2.out.trans (hb3.mono HB2.out.size)))
   | (go_at_call 15;(with_reducible refine (SE.out _).mono ?_);rintro e4 w4 ⟨rfl,hb4⟩;have HB4:=Lib.hid (HB3.out.trans (hb4.mono HB3.out.size))))
  go_ret2
  exact ⟨rfl,HB4.out⟩
 ·rw [if_neg hr];rw [Bool.not_eq_true] at hr;rw [hr] at R1;obtain ⟨an,cn,ae,ce,rfl,-⟩:=h.open_;clear hr h
  go_enter Tryz.func6,Tryz.ntmps6
  go_wp2_with (go_at_call 8;(with_reducible refine (R1.out _ (belowOne _ _)).mono ?_);rintro e1 w1 ⟨rfl,hb1⟩)
  go_ret2
  exact ⟨rfl,(belowOne w _).trans (hb1.mono (by simp))⟩
end Go.Proofs.YtclghelocglnlaaGreatDoor.Od
