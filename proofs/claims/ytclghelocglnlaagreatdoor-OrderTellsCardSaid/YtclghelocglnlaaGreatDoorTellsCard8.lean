import Derived.Test.YtclghelocglnlaaGreatDoorLTells8
import Derived.ShutString
import Derived.Test.YtclghelocglnlaaGreatDoorMG
set_option maxHeartbeats 0
set_option maxRecDepth 100000
set_option linter.all false
namespace Go.Proofs.YtclghelocglnlaaGreatDoor.Od
open Go.ChangeShapes Go.WideShapes Go.ChangeAt Go.RowKit Js Lex
theorem own:ownKnob Tryz.prog.godebug=none:=by kernel_rfl
theorem laidOut:laidOutB Tryz.prog=true:=by kernel_rfl
theorem cellsInt:Tryz.prog.cellsOf 3=1:=by kernel_rfl
theorem cellsBool:Tryz.prog.cellsOf 4=1:=by kernel_rfl
theorem cellsStr:Tryz.prog.cellsOf 9=1:=by kernel_rfl
theorem reach_eq:reachBytes=140737488351232:=by decide+kernel
theorem cell_lt {w:World} {b o:Nat} {v:Value} (h:w.cell? ⟨b,o,none⟩=some v):b < w.heap.size:=by
 rcases Nat.lt_or_ge b w.heap.size with h' | h'
 ·exact h'
 ·simp [World.cell?,Array.getElem?_eq_none h'] at h
theorem add_plain (b off j:Nat):(⟨b,off,none⟩:Addr).add j=⟨b,off+j,none⟩:=by
 simp only [Addr.add];split <;> simp_all
theorem i64B_of' {n:Int} (h:(Lit.int .i64 n).wf=true):i64B n:=bounds_i64 h
def Wt {H:Type} (t:TypeId) (d:DataW H):Prop:=∀n∈d.weights Tryz.prog t,n<=140737488351232
theorem wt_of {H:Type} {ts:List TypeId} {ds:List (DataW H)} (h:(DataW.weightsEach Tryz.prog ts ds).all (·<=reachBytes)=true) {j:Nat} {t:TypeId} {d:DataW H} (ht:ts[j]?=some t) (hd:ds[j]?=some d):Wt t d:=fun n hn=>by
 have:=List.all_eq_true.1 h n (DataW.weights_mem_each ht hd n hn);rw [<-reach_eq]
 simpa using this
theorem weights_all_mem {H:Type} {P:Program} {e:TypeId}:∀{l:List (DataW H)} {d:DataW H},d∈l->∀n∈d.weights P e,n∈DataW.weightsAll P e l
 | [],d,h,_,_=>by simp at h
 | x::r,d,h,n,hn=>by
   rw [DataW.weightsAll];rcases List.mem_cons.1 h with rfl | h
   ·exact List.mem_append_left _ hn
   ·exact List.mem_append_right _ (weights_all_mem h n hn)
theorem wt_slice {H:Type} {t e:TypeId} {elems spare:List (DataW H)} (hu:Tryz.prog.underlying t=some (.slice e)) (h:Wt t (.slice elems spare)):elems.length * Tryz.prog.bytesOf e<=140737488351232/\∀d∈elems,Wt e d:=by
 unfold Wt at h;rw [DataW.weights,hu] at h;refine ⟨?_,fun d hd n hn=>h n (List.mem_cons_of_mem _ (List.mem_append_left _ (weights_all_mem hd n hn)))⟩;have:=h _ (List.mem_cons_self ..);have h2:elems.length * Tryz.prog.bytesOf e<=(elems.length+spare.length) * Tryz.prog.bytesOf e:=Nat.mul_le_mul_right _ (Nat.le_add_right _ _)
 omega
theorem wt_part {H:Type} {t:TypeId} {fs:Array Field} {parts:List (DataW H)} (hu:Tryz.prog.underlying t=some (.struct fs)) (h:Wt t (.agg parts)) {j:Nat} {tj:TypeId} {d:DataW H} (ht:(fs.toList.map (·.type))[j]?=some tj) (hd:parts[j]?=some d):Wt tj d:=fun n hn=>by
 unfold Wt at h;rw [DataW.weights,hu] at h;exact h n (DataW.weights_mem_each ht hd n hn)
theorem wt_string {H:Type} {t:TypeId} {bytes:List UInt8} (h:Wt (H:=H) t (.lit (.string bytes))):bytes.length<=140737488351232:=by
 unfold Wt at h;rw [DataW.weights] at h;exact h _ (List.mem_cons_self ..)
theorem trod_struct3O {H:Type} {enc:TypeId×Value->H} {P:Program} {w:World} {base:Nat} {spare:Nat->Bool} {held:Bool} {t:TypeId} {f0 f1 f2:Field} {fuel:Nat} {cs:List Value} {x:DataW H×List MemPlace} (ht:P.underlying t=some (.struct #[f0,f1,f2])) (h:DataW.trod enc P w base spare held fuel t cs=some x):
 ∃y0 y1 y2 n,x.1= .agg [y0.1,y1.1,y2.1]/\cs.length=P.cellsOf t/\DataW.trod enc P w base spare held n f0.type ((cs.drop f0.offset).take (P.cellsOf f0.type))=some y0/\
  DataW.trod enc P w base spare held n f1.type ((cs.drop f1.offset).take (P.cellsOf f1.type))=some y1/\DataW.trod enc P w base spare held n f2.type ((cs.drop f2.offset).take (P.cellsOf f2.type))=some y2:=by
 obtain ⟨xs,n,_,rfl,hl,hlen,hf⟩:=DataW.trod_struct ht h
 match xs,hlen with
 | [y0,y1,y2],_=>exact ⟨y0,y1,y2,n,by simp,hl,by simpa using hf 0 f0 rfl,by simpa using hf 1 f1 rfl,by simpa using hf 2 f2 rfl⟩
theorem trod_struct6O {H:Type} {enc:TypeId×Value->H} {P:Program} {w:World} {base:Nat} {spare:Nat->Bool} {held:Bool} {t:TypeId} {f0 f1 f2 f3 f4 f5:Field} {fuel:Nat} {cs:List Value} {x:DataW H×List MemPlace} (ht:P.underlying t=some (.struct #[f0,f1,f2,f3,f4,f5])) (h:DataW.trod enc P w base spare held fuel t cs=some x):
 ∃y0 y1 y2 y3 y4 y5 n,x.1= .agg [y0.1,y1.1,y2.1,y3.1,y4.1,y5.1]/\cs.length=P.cellsOf t/\DataW.trod enc P w base spare held n f0.type ((cs.drop f0.offset).take (P.cellsOf f0.type))=some y0/\
  DataW.trod enc P w base spare held n f1.type ((cs.drop f1.offset).take (P.cellsOf f1.type))=some y1/\DataW.trod enc P w base spare held n f2.type ((cs.drop f2.offset).take (P.cellsOf f2.type))=some y2/\
  DataW.trod enc P w base spare held n f3.type ((cs.drop f3.offset).take (P.cellsOf f3.type))=some y3/\DataW.trod enc P w base spare held n f4.type ((cs.drop f4.offset).take (P.cellsOf f4.type))=some y4/\
  DataW.trod enc P w base spare held n f5.type ((cs.drop f5.offset).take (P.cellsOf f5.type))=some y5:=by
 obtain ⟨xs,n,_,rfl,hl,hlen,hf⟩:=DataW.trod_struct ht h
 match xs,hlen with
 | [y0,y1,y2,y3,y4,y5],_=>exact ⟨y0,y1,y2,y3,y4,y5,n,by simp,hl,by simpa using hf 0 f0 rfl,by simpa using hf 1 f1 rfl,by simpa using hf 2 f2 rfl,by simpa using hf 3 f3 rfl,by simpa using hf 4 f4 rfl,by simpa using hf 5 f5 rfl⟩
theorem stop_trod {H:Type} {enc:TypeId×Value->H} {W:World} {base fuel:Nat} {cs:List Value} {x:DataW H×List MemPlace} {tS:TypeId} {f0 f1 f2:Field} (hs:Tryz.prog.underlying tS=some (.struct #[f0,f1,f2]))
 (a0:f0.type=3) (a1:f1.type=3) (a2:f2.type=4) (o0:f0.offset=0) (o1:f1.offset=1) (o2:f2.offset=2) (hc:Tryz.prog.cellsOf tS=3)
 (h:DataW.trod enc Tryz.prog W base (fun _=>true) true fuel tS cs=some x):∃y:St,cs= [.int .i64 y.id,.int .i64 y.seq,.bool y.rel]/\i64B y.id/\i64B y.seq:=by
 obtain ⟨y0,y1,y2,n',hx,hcl,t0,t1,t2⟩:=trod_struct3O hs h;rw [hc] at hcl;rw [a0,o0] at t0;rw [a1,o1] at t1;rw [a2,o2] at t2;simp only [cellsInt,cellsBool] at t0 t1 t2
 match cs,hcl with
 | [c0,c1,c2],_=>
   obtain ⟨i,e0,-,w0⟩:=DataW.trod_int Tryz.underlying3 t0;obtain ⟨q,e1,-,w1⟩:=DataW.trod_int Tryz.underlying3 t1;obtain ⟨r,e2,-⟩:=DataW.trod_bool Tryz.underlying4 t2;simp at e0 e1 e2;subst e0 e1 e2;exact ⟨⟨i,q,r⟩,rfl,i64B_of' w0,i64B_of' w1⟩
theorem sts_trod {H:Type} {enc:TypeId×Value->H} {W:World} {base fuel:Nat} {c:Value} {x:DataW H×List MemPlace} {tS tL:TypeId} {f0 f1 f2:Field} (hu:Tryz.prog.underlying tL=some (.slice tS)) (hs:Tryz.prog.underlying tS=some (.struct #[f0,f1,f2]))
 (a0:f0.type=3) (a1:f1.type=3) (a2:f2.type=4) (o0:f0.offset=0) (o1:f1.offset=1) (o2:f2.offset=2) (hc:Tryz.prog.cellsOf tS=3) (hby:Tryz.prog.bytesOf tS=24)
 (hf:DataW.trod enc Tryz.prog W base (fun _=>true) true fuel tL [c]=some x) (hw:Wt tL x.1):∃l,StsAt Any W c l:=by
 rcases Deep.open_slice hu hf with ⟨hcs,hx⟩ | ⟨a,len,cap,mm,n2,D,Pl,hcs,hb,hl,hmx,hmm,hx,hel⟩
 ·simp at hcs;subst hcs;exact ⟨[],sts_nil⟩
 ·simp at hcs;subst hcs;simp only [if_true] at hmm;subst hmm;have hd:x.1= .slice ((List.range len).map D) ((List.range (mm - len)).map fun j=>D (len+j)):=congrArg Prod.fst hx;rw [hd] at hw;obtain ⟨hwl,hwe⟩:=wt_slice hu hw;rw [hby] at hwl;simp at hwl
  by_cases hl0:len=0
  ·subst hl0;exact ⟨[],_,_,rfl,by simp,by simp,fun x hx=>by simp at hx,fun h=>by simp at h⟩
  ·rw [hc] at hel
   have one:∀i,i < len->∃y:St,(∀q c,(aggC (stV y))[q]?=some c->W.cell? (a.add (i * 3+q))=some c)/\i64B y.id/\i64B y.seq:=by
    intro i hi;obtain ⟨cs,hcell,ht⟩:=hel i (by omega);obtain ⟨_,hcl,hcc⟩:=World.cells?_some hcell;obtain ⟨y,rfl,hg⟩:=stop_trod hs a0 a1 a2 o0 o1 o2 hc ht;refine ⟨y,fun q c hq=> ?_,hg⟩;have hq5:q < 3:=(by have:=(List.getElem?_eq_some_iff.1 hq).1;simpa [aggC,stV] using this);have h0:=hcc q (by omega);rw [Deep.add_add] at h0;rw [h0];exact hq
   haveI:Inhabited St:=⟨st0⟩
   obtain ⟨f,hf⟩:=Deep.choose_lt one;obtain ⟨b,off,spot⟩:=a
   have hspot:spot=none:=by
    have:=(hf 0 (by omega)).1 0 _ rfl
    simpa [Addr.add] using World.cell?_spot this
   subst hspot;have hlen:((List.range len).map f).length=len:=by simp
   have hget:∀j,j < len->((List.range len).map f).getD j st0=f j:=fun j hj=>by
    rw [List.getD_eq_getElem?_getD,List.getElem?_map,List.getElem?_range hj];rfl
   have hc0:=(hf 0 (by omega)).1 0 _ rfl;rw [add_plain] at hc0;refine ⟨(List.range len).map f,_,_,by rw [hlen],by omega,by omega,fun x hx=> ?_,fun _=>⟨b,off,rfl,trivial,cell_lt hc0,fun j hj q c hq=> ?_⟩⟩
   ·obtain ⟨j,hj,rfl⟩:=List.mem_map.1 hx;exact (hf j (List.mem_range.1 hj)).2
   ·rw [hlen] at hj;rw [hget j hj] at hq;have:=(hf j hj).1 q c hq;rw [add_plain] at this;rw [Nat.add_assoc];exact this
structure Known (tO tN tE tS tY:TypeId) (f0 f1 f2 f3 f4 f5 g0 g1 g2 k0 k1 k2:Field):Prop where
 o:Tryz.prog.underlying tO=some (.struct #[f0,f1,f2,f3,f4,f5])
 n:Tryz.prog.underlying tN=some (.slice tS)
 e:Tryz.prog.underlying tE=some (.slice tY)
 s:Tryz.prog.underlying tS=some (.struct #[g0,g1,g2])
 y:Tryz.prog.underlying tY=some (.struct #[k0,k1,k2])
 types: [f0.type,f1.type,f2.type,f3.type,f4.type,f5.type]= [3,9,3,3,tN,tE]
 places: [f0.offset,f1.offset,f2.offset,f3.offset,f4.offset,f5.offset]= [0,1,2,3,4,5]
 gtypes: [g0.type,g1.type,g2.type]= [3,3,4]
 gplaces: [g0.offset,g1.offset,g2.offset]= [0,1,2]
 ktypes: [k0.type,k1.type,k2.type]= [3,3,4]
 kplaces: [k0.offset,k1.offset,k2.offset]= [0,1,2]
 co:Tryz.prog.cellsOf tO=6
 cn:Tryz.prog.cellsOf tN=1
 ce:Tryz.prog.cellsOf tE=1
 cs:Tryz.prog.cellsOf tS=3
 cy:Tryz.prog.cellsOf tY=3
 bs:Tryz.prog.bytesOf tS=24
 by_:Tryz.prog.bytesOf tY=24
theorem open_order_at {H:Type} {enc:TypeId×Value->H} {W:World} {base:Nat} {v:Value} {d:DataW H} {p:List MemPlace} {tO tN tE tS tY:TypeId} {f0 f1 f2 f3 f4 f5 g0 g1 g2 k0 k1 k2:Field} (K:Known tO tN tE tS tY f0 f1 f2 f3 f4 f5 g0 g1 g2 k0 k1 k2)
 (hval:Value.okWide Tryz.prog W .any base tO v) (h:DataW.Trod enc Tryz.prog W 0 (fun _=>true) true tO v d p) (hw:Wt tO d):∃x,OAt Any W v x:=by
 obtain ⟨cs,rfl,hsz⟩:=okWide_struct K.o hval;obtain ⟨fuel,hf⟩:=h;obtain ⟨y0,y1,y2,y3,y4,y5,n',hx,hcl,t0,t1,t2,t3,t4,t5⟩:=trod_struct6O K.o hf;have T:=K.types;have Pz:=K.places;have Gt:=K.gtypes;have Gp:=K.gplaces;have Kt:=K.ktypes;have Kp:=K.kplaces;simp only [List.cons.injEq,and_true] at T Pz Gt Gp Kt Kp;obtain ⟨T0,T1,T2,T3,T4,T5⟩:=T;obtain ⟨P0,P1,P2,P3,P4,P5⟩:=Pz;obtain ⟨G0,G1,G2⟩:=Gt;obtain ⟨Q0,Q1,Q2⟩:=Gp;obtain ⟨K0,K1,K2⟩:=Kt;obtain ⟨R0,R1,R2⟩:=Kp;rw [K.co] at hcl;rw [T0,P0] at t0;rw [T1,P1] at t1;rw [T2,P2] at t2;rw [T3,P3] at t3;rw [T4,P4,K.cn] at t4;rw [T5,P5,K.ce] at t5;simp only [cellsInt,cellsStr] at t0 t1 t2 t3;simp only [Value.cells] at hcl t0 t1 t2 t3 t4 t5;obtain ⟨l⟩:=cs;simp only at hcl t0 t1 t2 t3 t4 t5
 match l,hcl with
 | [c0,c1,c2,c3,c4,c5],_=>
   have hx':d= .agg [y0.1,y1.1,y2.1,y3.1,y4.1,y5.1]:=hx;subst hx';obtain ⟨s,e1,hy1,hs⟩:=DataW.trod_string Tryz.underlying9 t1;obtain ⟨a,e0,-,w0⟩:=DataW.trod_int Tryz.underlying3 t0;obtain ⟨b,e2,-,w2⟩:=DataW.trod_int Tryz.underlying3 t2;obtain ⟨c,e3,-,w3⟩:=DataW.trod_int Tryz.underlying3 t3;simp at e0 e1 e2 e3 t4 t5;subst e0 e1 e2 e3;have hw1:=wt_part K.o hw (j:=1) (tj:=9) (by simp [T1]) rfl;rw [hy1] at hw1;have hsl:=wt_string hw1;obtain ⟨ns,hns⟩:=sts_trod K.n K.s G0 G1 G2 Q0 Q1 Q2 K.cs K.bs t4 (wt_part K.o hw (j:=4) (by simp [T4]) rfl);obtain ⟨es,hes⟩:=sts_trod K.e K.y K0 K1 K2 R0 R1 R2 K.cy K.by_ t5 (wt_part K.o hw (j:=5) (by simp [T5]) rfl);exact ⟨⟨a,s.data.toList,b,c,ns,es⟩,c4,c5,rfl,i64B_of' w0,by simp at hsl⊢;omega,i64B_of' w2,i64B_of' w3,hns,hes⟩
theorem known:∃f0 f1 f2 f3 f4 f5 g0 g1 g2 k0 k1 k2,Known 25 22 23 41 43 f0 f1 f2 f3 f4 f5 g0 g1 g2 k0 k1 k2:=
 ⟨_,_,_,_,_,_,_,_,_,_,_,_,⟨Tryz.underlying25,Tryz.underlying22,Tryz.underlying23,Tryz.underlying41,Tryz.underlying43,rfl,rfl,rfl,rfl,rfl,rfl,by kernel_rfl,by kernel_rfl,by kernel_rfl,by kernel_rfl,by kernel_rfl,by kernel_rfl,by kernel_rfl⟩⟩
theorem open_order {H:Type} {enc:TypeId×Value->H} {W:World} {base:Nat} {v:Value} {d:DataW H} {p:List MemPlace} (hval:Value.okWide Tryz.prog W .any base 25 v) (h:DataW.Trod enc Tryz.prog W 0 (fun _=>true) true 25 v d p) (hw:Wt 25 d):∃x,OAt Any W v x:=by
 obtain ⟨_,_,_,_,_,_,_,_,_,_,_,_,K⟩:=known;exact open_order_at K hval h hw
end Go.Proofs.YtclghelocglnlaaGreatDoor.Od
namespace Go.Proofs.YtclghelocglnlaaGreatDoor.orderTells
open Go.ChangeShapes Go.WideShapes Go.ChangeAt Go.RowKit Go.Proofs.YtclghelocglnlaaGreatDoor.Od
open Go.Proofs.YtclghelocglnlaaGreatDoor.Js (laid5 laid_met laidWorld tab_of_laid)
open Go.ChangeMaps (open_string shut_string)
theorem contract (H:Type) (enc:TypeId×Value->H) (W:World) (base:Nat) (args:Array Value) (ds gs:List (DataW H)) (before:List MemPlace)
 (hval:∀(j:Nat) t v,Tryz.f3.params[j]?=some t->args[j]?=some v->Value.okWide Tryz.prog W .any base t v)
 (hW:DataW.Whole enc Tryz.prog Tryz.f3.params.toList Rows.orderTellsSpec.vars false W args.toList ds gs before) (hz:(DataW.weightsEach Tryz.prog (Tryz.f3.params.toList++(OpenSpec.ofChange Rows.orderTellsSpec).bare.plain.varTypes Tryz.prog) (ds++gs)).all (·<=reachBytes)=true) (hL:laidMetH Tryz.prog laid5 W):
 Calls Tryz.prog 3 args W fun e W'=>∃v,e= .returned v/\Rows.orderTellsSpec.post enc Tryz.prog Tryz.f3 false true false false W args v W':=by
 have hT:=tab_of_laid hL;clear hL;have hW':=hW;have hlt:=hW.lt;obtain ⟨p,q,hA0,hV,rfl,hfz,hnd⟩:=hW;have hA:DataW.TrodAll enc Tryz.prog W 0 (fun _=>true) true Tryz.f3.params.toList args.toList ds p:=hA0;rw [Tryz.params3] at hA hval;obtain ⟨v0,vs0,d0,ds0,p0,q0,hargs,rfl,rfl,h0,r0⟩:=trodAll_cons hA;obtain ⟨v1,vs1,d1,ds1,p1,q1,rfl,rfl,rfl,h1,r1⟩:=trodAll_cons r0;obtain ⟨v2,vs2,d2,ds2,p2,q2,rfl,rfl,rfl,h2,r2⟩:=trodAll_cons r1;obtain ⟨v3,vs3,d3,ds3,p3,q3,rfl,rfl,rfl,h3,r3⟩:=trodAll_cons r2;obtain ⟨v4,vs4,d4,ds4,p4,q4,rfl,rfl,rfl,h4,r4⟩:=trodAll_cons r3;obtain ⟨v5,vs5,d5,ds5,p5,q5,rfl,rfl,rfl,h5,r5⟩:=trodAll_cons r4;obtain ⟨rfl,rfl,rfl⟩:=trodAll_nil r5;obtain rfl:args=#[v0,v1,v2,v3,v4,v5]:=Array.ext' hargs;obtain ⟨rfl,rfl⟩:=trodVars_none hV;have k0:=h0;have k1:=h1;have k2:=h2;have k3:=h3;have k4:=h4;have k5:=h5;have wt0:Wt 25 d0:=wt_of hz (j:=0) (by rw [Tryz.params3];rfl) rfl;obtain ⟨z0,hz0⟩:=open_order (hval 0 25 v0 rfl rfl) h0 wt0;have wt1:Wt 25 d1:=wt_of hz (j:=1) (by rw [Tryz.params3];rfl) rfl;obtain ⟨z1,hz1⟩:=open_order (hval 1 25 v1 rfl rfl) h1 wt1;have wt2:Wt 9 d2:=wt_of hz (j:=2) (by rw [Tryz.params3];rfl) rfl;obtain ⟨s2,rfl,rfl,rfl,hs2⟩:=open_string Tryz.underlying9 (hval 2 9 v2 rfl rfl) h2;have l2:=wt_string wt2;clear hs2;obtain ⟨t2,rfl⟩:∃t:List UInt8,s2=⟨t.toArray⟩:=⟨s2.data.toList,by cases s2;simp⟩;obtain ⟨x3,rfl,rfl,rfl,wx3⟩:=open_int Tryz.underlying3 (hval 3 3 v3 rfl rfl) h3;obtain ⟨b3,c3⟩:=bounds_i64 wx3;obtain ⟨x4,rfl,rfl,rfl,wx4⟩:=open_int Tryz.underlying3 (hval 4 3 v4 rfl rfl) h4;obtain ⟨b4,c4⟩:=bounds_i64 wx4;have wt5:Wt 9 d5:=wt_of hz (j:=5) (by rw [Tryz.params3];rfl) rfl;obtain ⟨s5,rfl,rfl,rfl,hs5⟩:=open_string Tryz.underlying9 (hval 5 9 v5 rfl rfl) h5;have l5:=wt_string wt5;clear hs5;obtain ⟨t5,rfl⟩:∃t:List UInt8,s5=⟨t.toArray⟩:=⟨s5.data.toList,by cases s5;simp⟩;clear hA0;simp only [List.append_nil] at hW';refine (tells_walk v0 z0 v1 z1 t2 x3 x4 t5 W hT hz0 hz1 (by simp at l2;omega) b3 c3 b4 c4 (by simp at l5;omega)).mono fun e W' ⟨he,hg⟩=> ?_
 subst he
 exact ⟨_,rfl,_,_,_,[],_,[],hW',trodAll_cons_mk (shut_bool Tryz.underlying4 _) trodAll_mk0,
  (trodAll_cons_mk (Below.trod laidOut (by kernel_rfl) (of_decide_eq_true (by kernel_rfl)) k0 hg (fun x hx=>by first | (exact absurd hx (by simp)) | exact hlt x (by simp [hx]))) (trodAll_cons_mk (Below.trod laidOut (by kernel_rfl) (of_decide_eq_true (by kernel_rfl)) k1 hg (fun x hx=>by first | (exact absurd hx (by simp)) | exact hlt x (by simp [hx]))) (trodAll_cons_mk (Below.trod laidOut (by kernel_rfl) (of_decide_eq_true (by kernel_rfl)) k2 hg (fun x hx=>by first | (exact absurd hx (by simp)) | exact hlt x (by simp [hx]))) (trodAll_cons_mk (Below.trod laidOut (by kernel_rfl) (of_decide_eq_true (by kernel_rfl)) k3 hg (fun x hx=>by first | (exact absurd hx (by simp)) | exact hlt x (by simp [hx]))) (trodAll_cons_mk (Below.trod laidOut (by kernel_rfl) (of_decide_eq_true (by kernel_rfl)) k4 hg (fun x hx=>by first | (exact absurd hx (by simp)) | exact hlt x (by simp [hx]))) (trodAll_cons_mk (Below.trod laidOut (by kernel_rfl) (of_decide_eq_true (by kernel_rfl)) k5 hg (fun x hx=>by first | (exact absurd hx (by simp)) | exact hlt x (by simp [hx]))) trodAll_mk0)))))),rfl,
  hg.frame _,fun h=>by cases h⟩
theorem reads (os:Os) {H:Type} (enc:TypeId×Value->H):∃places,DataW.whole enc Tryz.prog ((laidWorld os).forCall (fun _ _=>0) ⟨#[],#[.agg #[.int .i64 0,.string ⟨#[]⟩,.int .i64 0,.int .i64 0,.slice none 0 0,.slice none 0 0],.agg #[.int .i64 0,.string ⟨#[]⟩,.int .i64 0,.int .i64 0,.slice none 0 0,.slice none 0 0],.string ⟨#[]⟩,.int .i64 0,.int .i64 0,.string ⟨#[]⟩],[]⟩).memory Tryz.f3.params.toList Rows.orderTellsSpec.vars false (#[Value.agg #[.int .i64 0,.string ⟨#[]⟩,.int .i64 0,.int .i64 0,.slice none 0 0,.slice none 0 0],Value.agg #[.int .i64 0,.string ⟨#[]⟩,.int .i64 0,.int .i64 0,.slice none 0 0,.slice none 0 0],Value.string ⟨#[]⟩,Value.int .i64 0,Value.int .i64 0,Value.string ⟨#[]⟩]:Array Value).toList 8=some ([.agg [.lit (.int .i64 0),.lit (.string []),.lit (.int .i64 0),.lit (.int .i64 0),.nil,.nil],.agg [.lit (.int .i64 0),.lit (.string []),.lit (.int .i64 0),.lit (.int .i64 0),.nil,.nil],.lit (.string []),.lit (.int .i64 0),.lit (.int .i64 0),.lit (.string [])],[],places):=
 ⟨[],by kernel_rfl⟩
theorem lifted (os:Os) (started:os.Started) (H:Type) (enc:TypeId×Value->H) (F:Stop.Interp):
 ReturnsInHanded {} Tryz.checked os 3 .any ((OpenSpec.ofChange Rows.orderTellsSpec).preRow enc Tryz.prog Tryz.f3 Rows.orderTellsRow.domain false Rows.orderTellsRow.laid) (((OpenSpec.ofChange Rows.orderTellsSpec).at F).post enc Tryz.prog Tryz.f3 false true false false):=by
 obtain ⟨places,hx⟩:=reads os enc
 refine returnsInHanded_of_row (C:=Tryz.checked) (s:=OpenSpec.ofChange Rows.orderTellsSpec) own started (by kernel_rfl) Tryz.func3
  (witness_row_at (enc:=enc) (C:=Tryz.checked) false (laidWorld os) #[.agg #[.int .i64 0,.string ⟨#[]⟩,.int .i64 0,.int .i64 0,.slice none 0 0,.slice none 0 0],.agg #[.int .i64 0,.string ⟨#[]⟩,.int .i64 0,.int .i64 0,.slice none 0 0,.slice none 0 0],.string ⟨#[]⟩,.int .i64 0,.int .i64 0,.string ⟨#[]⟩] rfl (by kernel_rfl) (by kernel_rfl) (by kernel_rfl)
    (OpenSpec.preRow_of_cond 8 hx (by kernel_rfl) (fun k hk=>by cases hk) (by kernel_rfl) (laid_met os _))) ?_
 intro W base args ds gs before hval hW _ _ hz hL _ _;exact contract H enc W base args ds gs before hval hW hz hL
theorem said:Rows.OrderTellsSaid:=
 OpenClaim.holds_of_cond 3 Tryz.f3 rfl rfl rfl rfl rfl rfl rfl ⟨rfl,rfl,rfl,rfl,rfl⟩ rfl rfl rfl rfl rfl (by kernel_rfl) Tryz.func3 (by kernel_rfl)
  (of_decide_eq_true (by kernel_rfl)) (by unfold Func.isWrapper;first | (rw [if_pos (by decide+kernel)];kernel_rfl) | (rw [if_neg (by decide+kernel)];exact ⟨rfl,rfl⟩))
  (fun os started H enc _ F=>by rw [OpenClaim.pre_eq_preRow];exact lifted os started H enc F)
theorem plain (f:FuncId) (fn:Func) (hf:Tryz.pinned.checked.prog.funcNamed Rows.orderTellsRow.func=some f) (hfn:Tryz.pinned.checked.prog.funcs[f]?=some fn):
 false=Tryz.pinned.checked.prog.looks []/\∀(j:Nat) t,fn.params[j]?=some t->Tryz.pinned.checked.prog.wantsStandIn t=false:=by
 obtain rfl:f=3:=Option.some.inj ((show Tryz.prog.funcNamed Rows.orderTellsRow.func=some 3 by kernel_rfl).symm.trans hf) |>.symm;obtain rfl:fn=Tryz.f3:=(Option.some.inj (Tryz.func3.symm.trans hfn)).symm;refine ⟨by kernel_rfl,fun j t ht=> ?_⟩;rw [Tryz.params3] at ht;have hm:=Array.mem_of_getElem? ht;have hh:t=25∨t=3∨t=9:=by simp at hm;first | (rcases hm with h | h | h <;> simp [h]) | (rcases hm with h | h | h | h | h | h <;> simp [h])
 rcases hh with rfl | rfl | rfl
 ·exact (show Tryz.prog.wantsStandIn 25=false by kernel_rfl)
 ·exact (show Tryz.prog.wantsStandIn 3=false by kernel_rfl)
 ·exact (show Tryz.prog.wantsStandIn 9=false by kernel_rfl)
theorem card:Rows.OrderTellsCardSaid:=
 Claim7.holds_tied_plain_at .later [] _ _ _ _ said (fun _ h=>by cases h) (by kernel_rfl) (fun _ h=>by cases h) orderTells_row_tie rfl ⟨rfl,rfl⟩ (by kernel_rfl) rfl plain (by kernel_rfl)
end Go.Proofs.YtclghelocglnlaaGreatDoor.orderTells
