import Derived.Test.YtclghelocglnlaaGreatDoorNOe
import Derived.Maps.AppendAt
import Derived.Deep.Upon
set_option maxHeartbeats 0
set_option maxRecDepth 100000
set_option linter.all false
namespace Go.Proofs.YtclghelocglnlaaGreatDoor.Od
open Go.RowKit Js Lex
theorem pick8_any (c n:Int) (w:World) (hc0: -9223372036854775808<=c) (hc1:c<=9223372036854775807) (hn0:0 < n) (hn1:n<=9223372036854775807):
 Calls Tryz.prog 14 #[.int .i64 c,.int .i64 n] w (fun e w'=>e= .returned (.int .i64 (Quo.pickS c n))/\w=w'):=by
 by_cases hc:c < 0
 all_goals
  go_enter Tryz.func14,Tryz.ntmps14
  go_wp2
  go_ret
  refine ⟨Quo.ret_int ?_,rfl⟩;unfold Quo.pickS
  first
   | (rw [if_pos hc,<-Int.neg_tmod,Int.tmod_eq_emod_of_nonneg (by omega)];done)
   | rw [if_neg (by omega)]
theorem put6_id (w:World) (g:Nat) (u0 u1 u2 u3 u4 u5:Value):((((((w.setCell ⟨g,0,none⟩ u0).setCell ⟨g,1,none⟩ u1).setCell ⟨g,2,none⟩ u2).setCell ⟨g,3,none⟩ u3).setCell ⟨g,4,none⟩ u4).setCell ⟨g,5,none⟩ u5)=put6 w g 0 u0 u1 u2 u3 u4 u5:=by
 unfold put6;simp
structure FT (w1:World) (bo:Nat) (c0 c1 c2 c3:Value) (ln le:List St) (nv ev:Value) (wr:World):Prop where
 mv:Moves w1.heap.size bo w1 wr
 lt:bo < w1.heap.size
 blk:wr.heap[bo]?=some (.cells #[c0,c1,c2,c3,nv,ev] 25 (0,0))
 nrow:wr.ownsRow w1.heap.size 41 3 nv ln.length (cellsS ln)
 erow:wr.ownsRow w1.heap.size 43 3 ev le.length (cellsS le)
section
variable {w1:World} {bo:Nat} {c0 c1 c2 c3:Value} {ln le:List St} {nv ev:Value} {wr:World}
theorem FT.below (h:FT w1 bo c0 c1 c2 c3 ln le nv ev wr) {w':World} (hb:Below wr.heap.size wr w'):FT w1 bo c0 c1 c2 c3 ln le nv ev w':=
 ⟨h.mv.trans ((Moves.of_below hb).mono h.mv.size),h.lt,(hb.block _ (Own.block_lt h.blk)).trans h.blk,Own.own_below h.nrow hb (Nat.le_refl _),Own.own_below h.erow hb (Nat.le_refl _)⟩
theorem FT.node (h:FT w1 bo c0 c1 c2 c3 ln le nv ev wr) {w':World} {y:St} {a':Option Addr} {c':Nat} (hown:w'.ownsRow w1.heap.size 41 3 (.slice a' (ln.length+1) c') (ln.length+1) (cellsS (ln++ [y]))) (hg:wr.grownBy w' nv.ownBlock):
 FT w1 bo c0 c1 c2 c3 (ln++ [y]) le (.slice a' (ln.length+1) c') ev (w'.setCell ⟨bo,4,none⟩ (.slice a' (ln.length+1) c')):=by
 have hne:∀k,some k=nv.ownBlock->w1.heap.size<=k:=fun k e=>(World.ownsRow.lt h.nrow k e.symm).1
 have hbl:=(hg.block bo (Own.block_lt h.blk) (fun e=>by have:=hne _ e;have:=h.lt;omega)).trans h.blk;have hE:=h.erow.kept hg (Own.own_apart h.nrow h.erow (by decide));have hlt:=h.lt;refine ⟨(h.mv.grown hg h.mv.size (fun k e=> .inl (hne k e.symm))).setCell (p:=⟨bo,4,none⟩) (.inr rfl) _,h.lt,?_,?_,?_⟩
 ·rw [heap_setCell_same w' bo 4 _ 25 _ hbl]
  rfl
 ·rw [List.length_append,List.length_singleton];exact row_keep hown (fun g e hl=>heap_setCell_other _ _ _ _ (by have:=(World.ownsRow.lt hown g e).1;show g≠bo;omega))
 ·exact row_keep hE (fun g e hl=>heap_setCell_other _ _ _ _ (by have:=(World.ownsRow.lt hE g e).1;show g≠bo;omega))
theorem FT.edge (h:FT w1 bo c0 c1 c2 c3 ln le nv ev wr) {w':World} {y:St} {a':Option Addr} {c':Nat} (hown:w'.ownsRow w1.heap.size 43 3 (.slice a' (le.length+1) c') (le.length+1) (cellsS (le++ [y]))) (hg:wr.grownBy w' ev.ownBlock):
 FT w1 bo c0 c1 c2 c3 ln (le++ [y]) nv (.slice a' (le.length+1) c') (w'.setCell ⟨bo,5,none⟩ (.slice a' (le.length+1) c')):=by
 have hne:∀k,some k=ev.ownBlock->w1.heap.size<=k:=fun k e=>(World.ownsRow.lt h.erow k e.symm).1
 have hbl:=(hg.block bo (Own.block_lt h.blk) (fun e=>by have:=hne _ e;have:=h.lt;omega)).trans h.blk;have hN:=h.nrow.kept hg (Own.own_apart h.erow h.nrow (by decide));have hlt:=h.lt;refine ⟨(h.mv.grown hg h.mv.size (fun k e=> .inl (hne k e.symm))).setCell (p:=⟨bo,5,none⟩) (.inr rfl) _,h.lt,?_,?_,?_⟩
 ·rw [heap_setCell_same w' bo 5 _ 25 _ hbl]
  rfl
 ·exact row_keep hN (fun g e hl=>heap_setCell_other _ _ _ _ (by have:=(World.ownsRow.lt hN g e).1;show g≠bo;omega))
 ·rw [List.length_append,List.length_singleton];exact row_keep hown (fun g e hl=>heap_setCell_other _ _ _ _ (by have:=(World.ownsRow.lt hown g e).1;show g≠bo;omega))
end
end Go.Proofs.YtclghelocglnlaaGreatDoor.Od
namespace Go.Proofs.YtclghelocglnlaaGreatDoor.Od
open Go.RowKit Js Lex
def OutV (lo:Nat) (z:Value) (w:World):Prop:=∃b,z= .pointer (some ⟨b,0,none⟩)/\lo<=b/\w.heap[b]?=some (.cells #[.int .i64 0,.string ⟨#[]⟩,.int .i64 0,.int .i64 0,.slice none 0 0,.slice none 0 0] 25 (0,0))
theorem OutV.stable (lo:Nat):Stable (OutV lo):=fun z w w' ⟨b,e,h1,h2⟩ hb=>⟨b,e,h1,(hb.block _ (Own.block_lt h2)).trans h2⟩
theorem set_alloc_new (w:World) (a:Addr) (u:Value) (o:Obj):((w.setCell a u).alloc o).heap[w.heap.size]?=some o:=by
 have h:=heap_alloc_new (w.setCell a u) o
 rwa [size_set] at h
theorem i64_small {n:Int} (h0: -1000000000000<=n) (h1:n<=1000000000000):i64B n:=⟨by omega,by omega⟩
theorem numR_i64 (z:Int):i64B (numR z):=by
 have:=numB_iff (numR_B z);exact i64_small (by omega) (by omega)
def nodesQ (x:O) (base:Int) (q:Nat):List St:=(List.range' 0 q).map (nodeF x base)
def edgesQ (x:O) (base:Int) (q:Nat):List St:=(List.range' 1 (q - 1)).map (edgeF x base)
theorem nodesQ_next (x:O) (base:Int) (q:Nat):nodesQ x base (q+1)=nodesQ x base q++ [nodeF x base q]:=by
 unfold nodesQ;rw [List.range'_concat,List.map_append];simp
theorem edgesQ_next (x:O) (base:Int) {q:Nat} (h:1<=q):edgesQ x base (q+1)=edgesQ x base q++ [edgeF x base q]:=by
 unfold edgesQ;obtain ⟨n,rfl⟩:∃n,q=n+1:=⟨q - 1,by omega⟩;rw [show n+1+1 - 1=n+1 by omega,show n+1 - 1=n by omega,List.range'_concat,List.map_append];simp [Nat.add_comm]
theorem nodesQ_len (x:O) (base:Int) (q:Nat):(nodesQ x base q).length=q:=by unfold nodesQ;simp
theorem edgesQ_len (x:O) (base:Int) (q:Nat):(edgesQ x base q).length=q - 1:=by unfold edgesQ;simp
theorem nodesQ_good (x:O) (base:Int) {q:Nat} (hq:q<=64):∀y∈nodesQ x base q,goodS y:=fun y hy=>by
 unfold nodesQ at hy;obtain ⟨i,hi,rfl⟩:=List.mem_map.1 hy;have hi2:=List.mem_range'.1 hi;obtain ⟨i',hi',rfl⟩:=hi2;obtain ⟨f1,f2,_⟩:=firstF_B x;have h1:=numB_iff (nodeF_id x base (0+1 * i'));refine ⟨i64_small (by omega) (by omega),?_⟩;show i64B (firstF x+2 * _);exact i64_small (by omega) (by omega)
theorem edgesQ_good (x:O) (base:Int) {q:Nat} (hq:q<=64):∀y∈edgesQ x base q,goodS y:=fun y hy=>by
 unfold edgesQ at hy;obtain ⟨i,hi,rfl⟩:=List.mem_map.1 hy;have hi2:=List.mem_range'.1 hi;obtain ⟨i',hi',rfl⟩:=hi2;obtain ⟨f1,f2,_⟩:=firstF_B x;have h1:=numB_iff (edgeF_id x base (1+1 * i'));refine ⟨i64_small (by omega) (by omega),?_⟩;show i64B (firstF x+2 * _ - 1);exact i64_small (by omega) (by omega)
theorem Fit_any (S:Nat->Prop) (a:Value) (x:O) (base:Int) (w:World) (h:OAt S w a x) (b0: -9223372036854775808<=base) (b1:base<=9223372036854775807):
 Calls Tryz.prog 5 #[a,.int .i64 base] w (fun e w'=>∃v,e= .returned v/\OAt Any w' v (fitO Tp.fitL x base)/\Below w.heap.size w w'):=by
 obtain ⟨an,cn,ae,ce,rfl,ih,hv',io,iu,hN,hE⟩:=h.open_;have hv:x.v.length<=Tp.reachN:=by unfold Tp.reachN;exact hv'
 obtain ⟨-,-,nl1⟩:=hN.len;obtain ⟨-,-,el1⟩:=hE.len;have HN:=Lib.hid hN;clear hN hE h
 go_enter Tryz.func5,Tryz.ntmps5
 go_upto_region 1 with fail
 obtain ⟨w2,hw2⟩:∃w2,((w.alloc (.cells #[.int .i64 x.h,.string ⟨x.v.toArray⟩,.int .i64 x.o,.int .i64 x.u,.slice an x.ns.length cn,.slice ae x.es.length ce] 25)).alloc (.cells #[.int .i64 0,.string ⟨#[]⟩,.int .i64 0,.int .i64 0,.slice none 0 0,.slice none 0 0] 25))=w2:=⟨_,rfl⟩;have HBOX:Hid (w2.heap[w.heap.size]?=some (.cells #[.int .i64 x.h,.string ⟨x.v.toArray⟩,.int .i64 x.o,.int .i64 x.u,.slice an x.ns.length cn,.slice ae x.es.length ce] 25 (0,0))):=by show _=_;rw [<-hw2];exact two_old _ _ _
 have HRES:Hid (w2.heap[w.heap.size+1]?=some (.cells #[.int .i64 0,.string ⟨#[]⟩,.int .i64 0,.int .i64 0,.slice none 0 0,.slice none 0 0] 25 (0,0))):=by show _=_;rw [<-hw2];exact two_new _ _ _
 have HB2:Hid (Below w.heap.size w w2):=by show Below _ _ _;rw [<-hw2];exact belowTwo _ _ _
 have hlb:=Own.block_lt HBOX.out;have hlr:=Own.block_lt HRES.out;have hs2:=HB2.out.size;rw [hw2];clear hw2;refine wp_region_grow mixed8 (fun zs=>{ tmps:=List.toArray (.agg #[.int .i64 x.h,.string ⟨x.v.toArray⟩,.int .i64 x.o,.int .i64 x.u,.slice an x.ns.length cn,.slice ae x.es.length ce]::.int .i64 base::.pointer (some ⟨w.heap.size,0,none⟩)::undef::.pointer (some ⟨w.heap.size+1,0,none⟩)::zs.getD 13 undef::undef::undef::undef::undef::undef::undef::zs.getD 0 undef::zs.getD 1 undef::zs.getD 2 undef::zs.getD 3 undef::zs.getD 4 undef::zs.getD 5 undef::zs.getD 6 undef::zs.getD 7 undef::zs.getD 8 undef::zs.getD 9 undef::zs.getD 10 undef::zs.getD 11 undef::zs.getD 12 undef::undef::undef::undef::undef::undef::undef::undef::undef::undef::undef::undef::undef::undef::undef::undef::undef::undef::undef::undef::undef::undef::undef::undef::undef::undef::undef::undef::undef::undef::undef::undef::undef::undef::undef::undef::undef::undef::undef::undef::undef::undef::undef::undef::undef::undef::undef::undef::undef::undef::undef::undef::undef::undef::undef::undef::undef::undef::undef::undef::undef::undef::undef::undef::undef::undef::undef::undef::undef::undef::undef:: []),defers:= [] }) [(fun z _=>z=.pointer (some ⟨w.heap.size,0,none⟩)),(fun z _=>z=.int .i64 x.h),(fun z _=>z=.int .i64 (numR x.h)),(fun z _=>z=.pointer (some ⟨w.heap.size,1,none⟩)),(fun z _=>z=.string ⟨x.v.toArray⟩),(fun z _=>z=.string ⟨(Tp.fitL x.v).toArray⟩),(fun z _=>z=.pointer (some ⟨w.heap.size,2,none⟩)),(fun z _=>z=.int .i64 x.o),(fun z _=>z=.int .i64 (numR x.o)),(fun z _=>z=.pointer (some ⟨w.heap.size,3,none⟩)),(fun z _=>z=.int .i64 x.u),(fun z _=>z=.int .i64 (numR x.u)),(fun z _=>z=.agg #[.int .i64 (numR x.h),.string ⟨(Tp.fitL x.v).toArray⟩,.int .i64 (numR x.o),.int .i64 (numR x.u),.slice none 0 0,.slice none 0 0]),(OutV w2.heap.size)] (List.replicate 14 undef) rfl rfl rfl ?_ (by kernel_rfl) (by kernel_rfl) ?_ ?_
 ·intro p hp;simp only [List.mem_cons,List.not_mem_nil,or_false] at hp;rcases hp with rfl | rfl | rfl | rfl | rfl | rfl | rfl | rfl | rfl | rfl | rfl | rfl | rfl | rfl
  all_goals first | exact stable_eq _ | exact OutV.stable _
 ·intro i hi zs l wz o hz hF ho hpre;have hi':i < 14:=hi
  match zs,(show zs.length=14 from hz) with
  | [z0,z1,z2,z3,z4,z5,z6,z7,z8,z9,z10,z11,z12,z13],_=>
    clear hz hi;change wpOp _ _ _ _ _ { tmps:=List.toArray (.agg #[.int .i64 x.h,.string ⟨x.v.toArray⟩,.int .i64 x.o,.int .i64 x.u,.slice an x.ns.length cn,.slice ae x.es.length ce]::.int .i64 base::.pointer (some ⟨w.heap.size,0,none⟩)::undef::.pointer (some ⟨w.heap.size+1,0,none⟩)::z13::undef::undef::undef::undef::undef::undef::z0::z1::z2::z3::z4::z5::z6::z7::z8::z9::z10::z11::z12::undef::undef::undef::undef::undef::undef::undef::undef::undef::undef::undef::undef::undef::undef::undef::undef::undef::undef::undef::undef::undef::undef::undef::undef::undef::undef::undef::undef::undef::undef::undef::undef::undef::undef::undef::undef::undef::undef::undef::undef::undef::undef::undef::undef::undef::undef::undef::undef::undef::undef::undef::undef::undef::undef::undef::undef::undef::undef::undef::undef::undef::undef::undef::undef::undef::undef::undef::undef::undef::undef:: []),defers:= [] } _;have hc:i=0∨i=1∨i=2∨i=3∨i=4∨i=5∨i=6∨i=7∨i=8∨i=9∨i=10∨i=11∨i=12∨i=13:=(by omega);clear hi';rcases hc with rfl | rfl | rfl | rfl | rfl | rfl | rfl | rfl | rfl | rfl | rfl | rfl | rfl | rfl
    ·clear ho hpre;refine wpOp_here rfl (fun K' hK=> ?_)
     go_simp
     exact hK _ _ ⟨_,rfl,Below.refl _ _,fun p hp=>by cases (show some (fun z _=>z=Value.pointer (some ⟨w.heap.size,0,none⟩))=some p from hp);exact rfl⟩
    ·obtain ⟨c0,c1,c2,c3,c4,c5⟩:=six_of ((hF.bel.block _ hlb).trans HBOX.out);have p0:=hF.fact 0 _ _ rfl rfl (hpre ⟨0,.data⟩ (by cases ho;simp) rfl);subst p0;clear ho hpre;refine wpOp_here rfl (fun K' hK=> ?_)
     go_simp
     exact hK _ _ ⟨_,rfl,Below.refl _ _,fun p hp=>by cases (show some (fun z _=>z=Value.int .i64 x.h)=some p from hp);exact rfl⟩
    ·have p1:=hF.fact 1 _ _ rfl rfl (hpre ⟨1,.data⟩ (by cases ho;simp) rfl);subst p1;clear ho hpre;refine wpOp_here rfl (fun K' hK=> ?_)
     go_simp
     refine (pick8_any x.h 1000000001 wz ih.1 ih.2 (by decide) (by decide)).mono ?_;rintro e6 w6 ⟨rfl,rfl⟩;exact hK _ _ ⟨_,rfl,Below.refl _ _,fun p hp=>by cases (show some (fun z _=>z=Value.int .i64 (numR x.h))=some p from hp);exact rfl⟩
    ·clear ho hpre;refine wpOp_here rfl (fun K' hK=> ?_)
     go_simp
     exact hK _ _ ⟨_,rfl,Below.refl _ _,fun p hp=>by cases (show some (fun z _=>z=Value.pointer (some ⟨w.heap.size,1,none⟩))=some p from hp);exact rfl⟩
    ·obtain ⟨c0,c1,c2,c3,c4,c5⟩:=six_of ((hF.bel.block _ hlb).trans HBOX.out);have p3:=hF.fact 3 _ _ rfl rfl (hpre ⟨3,.data⟩ (by cases ho;simp) rfl);subst p3;clear ho hpre;refine wpOp_here rfl (fun K' hK=> ?_)
     go_simp
     exact hK _ _ ⟨_,rfl,Below.refl _ _,fun p hp=>by cases (show some (fun z _=>z=Value.string ⟨x.v.toArray⟩)=some p from hp);exact rfl⟩
    ·have p4:=hF.fact 4 _ _ rfl rfl (hpre ⟨4,.data⟩ (by cases ho;simp) rfl);subst p4;clear ho hpre;refine wpOp_here rfl (fun K' hK=> ?_)
     go_simp
     refine (Tp.Fit_any x.v wz hv).mono ?_;rintro e6 w6 ⟨rfl,hb6⟩;exact hK _ _ ⟨_,rfl,hb6,fun p hp=>by cases (show some (fun z _=>z=Value.string ⟨(Tp.fitL x.v).toArray⟩)=some p from hp);exact rfl⟩
    ·clear ho hpre;refine wpOp_here rfl (fun K' hK=> ?_)
     go_simp
     exact hK _ _ ⟨_,rfl,Below.refl _ _,fun p hp=>by cases (show some (fun z _=>z=Value.pointer (some ⟨w.heap.size,2,none⟩))=some p from hp);exact rfl⟩
    ·obtain ⟨c0,c1,c2,c3,c4,c5⟩:=six_of ((hF.bel.block _ hlb).trans HBOX.out);have p6:=hF.fact 6 _ _ rfl rfl (hpre ⟨6,.data⟩ (by cases ho;simp) rfl);subst p6;clear ho hpre;refine wpOp_here rfl (fun K' hK=> ?_)
     go_simp
     exact hK _ _ ⟨_,rfl,Below.refl _ _,fun p hp=>by cases (show some (fun z _=>z=Value.int .i64 x.o)=some p from hp);exact rfl⟩
    ·have p7:=hF.fact 7 _ _ rfl rfl (hpre ⟨7,.data⟩ (by cases ho;simp) rfl);subst p7;clear ho hpre;refine wpOp_here rfl (fun K' hK=> ?_)
     go_simp
     refine (pick8_any x.o 1000000001 wz io.1 io.2 (by decide) (by decide)).mono ?_;rintro e6 w6 ⟨rfl,rfl⟩;exact hK _ _ ⟨_,rfl,Below.refl _ _,fun p hp=>by cases (show some (fun z _=>z=Value.int .i64 (numR x.o))=some p from hp);exact rfl⟩
    ·clear ho hpre;refine wpOp_here rfl (fun K' hK=> ?_)
     go_simp
     exact hK _ _ ⟨_,rfl,Below.refl _ _,fun p hp=>by cases (show some (fun z _=>z=Value.pointer (some ⟨w.heap.size,3,none⟩))=some p from hp);exact rfl⟩
    ·obtain ⟨c0,c1,c2,c3,c4,c5⟩:=six_of ((hF.bel.block _ hlb).trans HBOX.out);have p9:=hF.fact 9 _ _ rfl rfl (hpre ⟨9,.data⟩ (by cases ho;simp) rfl);subst p9;clear ho hpre;refine wpOp_here rfl (fun K' hK=> ?_)
     go_simp
     exact hK _ _ ⟨_,rfl,Below.refl _ _,fun p hp=>by cases (show some (fun z _=>z=Value.int .i64 x.u)=some p from hp);exact rfl⟩
    ·have p10:=hF.fact 10 _ _ rfl rfl (hpre ⟨10,.data⟩ (by cases ho;simp) rfl);subst p10;clear ho hpre;refine wpOp_here rfl (fun K' hK=> ?_)
     go_simp
     refine (pick8_any x.u 1000000001 wz iu.1 iu.2 (by decide) (by decide)).mono ?_;rintro e6 w6 ⟨rfl,rfl⟩;exact hK _ _ ⟨_,rfl,Below.refl _ _,fun p hp=>by cases (show some (fun z _=>z=Value.int .i64 (numR x.u))=some p from hp);exact rfl⟩
    ·have p2:=hF.fact 2 _ _ rfl rfl (hpre ⟨2,.data⟩ (by cases ho;simp) rfl);subst p2;have p5:=hF.fact 5 _ _ rfl rfl (hpre ⟨5,.data⟩ (by cases ho;simp) rfl);subst p5;have p8:=hF.fact 8 _ _ rfl rfl (hpre ⟨8,.data⟩ (by cases ho;simp) rfl);subst p8;have p11:=hF.fact 11 _ _ rfl rfl (hpre ⟨11,.data⟩ (by cases ho;simp) rfl);subst p11;clear ho hpre;refine wpOp_here rfl (fun K' hK=> ?_)
     go_simp
     exact hK _ _ ⟨_,rfl,Below.refl _ _,fun p hp=>by cases (show some (fun z _=>z=Value.agg #[.int .i64 (numR x.h),.string ⟨(Tp.fitL x.v).toArray⟩,.int .i64 (numR x.o),.int .i64 (numR x.u),.slice none 0 0,.slice none 0 0])=some p from hp);exact rfl⟩
    ·clear ho hpre;refine wpOp_here rfl (fun K' hK=> ?_)
     go_simp
     exact hK _ _ ⟨_,rfl,belowOne _ _,fun p hp=>by cases (show some (OutV w2.heap.size)=some p from hp);exact ⟨_,rfl,hF.bel.size,heap_alloc_new _ _⟩⟩
 ·intro zs wz hz hB hev
  match zs,(show zs.length=14 from hz) with
  | [z0,z1,z2,z3,z4,z5,z6,z7,z8,z9,z10,z11,z12,z13],_=>
    have p0:=hev 0 _ _ rfl rfl;have p1:=hev 1 _ _ rfl rfl;have p2:=hev 2 _ _ rfl rfl;have p3:=hev 3 _ _ rfl rfl;have p4:=hev 4 _ _ rfl rfl;have p5:=hev 5 _ _ rfl rfl;have p6:=hev 6 _ _ rfl rfl;have p7:=hev 7 _ _ rfl rfl;have p8:=hev 8 _ _ rfl rfl;have p9:=hev 9 _ _ rfl rfl;have p10:=hev 10 _ _ rfl rfl;have p11:=hev 11 _ _ rfl rfl;have p12:=hev 12 _ _ rfl rfl;have p13:=hev 13 _ _ rfl rfl;clear hev hz;change wpOp _ _ _ _ _ { tmps:=List.toArray (.agg #[.int .i64 x.h,.string ⟨x.v.toArray⟩,.int .i64 x.o,.int .i64 x.u,.slice an x.ns.length cn,.slice ae x.es.length ce]::.int .i64 base::.pointer (some ⟨w.heap.size,0,none⟩)::undef::.pointer (some ⟨w.heap.size+1,0,none⟩)::z13::undef::undef::undef::undef::undef::undef::z0::z1::z2::z3::z4::z5::z6::z7::z8::z9::z10::z11::z12::undef::undef::undef::undef::undef::undef::undef::undef::undef::undef::undef::undef::undef::undef::undef::undef::undef::undef::undef::undef::undef::undef::undef::undef::undef::undef::undef::undef::undef::undef::undef::undef::undef::undef::undef::undef::undef::undef::undef::undef::undef::undef::undef::undef::undef::undef::undef::undef::undef::undef::undef::undef::undef::undef::undef::undef::undef::undef::undef::undef::undef::undef::undef::undef::undef::undef::undef::undef::undef::undef:: []),defers:= [] } _;subst p0 p1 p2 p3 p4 p5 p6 p7 p8 p9 p10 p11 p12;obtain ⟨bo,rfl,hbo,hblk⟩:=p13;obtain ⟨⟨c0,c1,c2,c3,c4,c5⟩,g0,g1,g2,g3,g4,g5⟩:=twelve_of hblk;refine wpOp_here rfl (fun K' hK=> ?_)
    go_simp
    refine hK _ _ ?_;rw [put6_id];have hself:=put6_self hblk (.int .i64 (numR x.h)) (.string ⟨(Tp.fitL x.v).toArray⟩) (.int .i64 (numR x.o)) (.int .i64 (numR x.u)) (.slice none 0 0) (.slice none 0 0);have hB3:Below w2.heap.size w2 (put6 wz bo 0 (.int .i64 (numR x.h)) (.string ⟨(Tp.fitL x.v).toArray⟩) (.int .i64 (numR x.o)) (.int .i64 (numR x.u)) (.slice none 0 0) (.slice none 0 0)):=below_put6' hB hbo _ _ _ _ _ _;generalize put6 wz bo 0 (.int .i64 (numR x.h)) (.string ⟨(Tp.fitL x.v).toArray⟩) (.int .i64 (numR x.o)) (.int .i64 (numR x.u)) (.slice none 0 0) (.slice none 0 0)=w3 at *;clear c0 c1 c2 c3 c4 c5 g0 g1 g2 g3 g4 g5 hblk hK hB;have HB3:=Lib.hid hB3;have HSELF:=Lib.hid hself;have hlt3:=Own.block_lt hself;obtain ⟨c0,c1,c2,c3,c4,c5⟩:=six_of ((hB3.block _ hlb).trans HBOX.out);have PF:=Lib.hid (fun (w':World)=>pick8_any (x.es.length:Int) 500 w' (by omega) (by omega) (by decide) (by decide));have PB:=Lib.hid (fun (w':World)=>pick8_any base (cntF x:Int) w' b0 b1 (by have:=(cntF_B x).1;omega) (by have:=(cntF_B x).2;omega));have HC:=Lib.hid (show min (max (x.ns.length:Int) 1) 64=(cntF x:Int) by unfold cntF;omega);have HFB:=Lib.hid (firstF_B x);have HBB:=Lib.hid (baseF_B x base);obtain ⟨F1,HF1⟩:∃F1,Hid (Quo.pickS (x.es.length:Int) 500=F1):=⟨_,rfl⟩;obtain ⟨B1,HB1⟩:∃B1,Hid (Quo.pickS base (cntF x:Int)=B1):=⟨_,rfl⟩;have HF2:Hid (firstF x=2 * F1):=(by show _=_;unfold firstF;rw [HF1.out]);have HB4:Hid (baseF x base=1+B1):=(by show _=_;unfold baseF;rw [HB1.out]);rw [HF1.out] at PF;rw [HB1.out] at PB;obtain ⟨n,HNN⟩:∃n,Hid (cntF x=n):=⟨_,rfl⟩;have hcb:=cntF_B x;have hfb:=HFB.out;have hbb:=HBB.out;rw [HF2.out] at hfb;rw [HB4.out] at hbb;rw [HNN.out] at hcb hbb PB HC;have HST:Hid (FT w3 bo (.int .i64 (numR x.h)) (.string ⟨(Tp.fitL x.v).toArray⟩) (.int .i64 (numR x.o)) (.int .i64 (numR x.u)) (nodesQ x base 0) (edgesQ x base 0) (.slice none 0 0) (.slice none 0 0) w3):=⟨Moves.refl _ _ _,hlt3,hself,World.ownsRow_nil _ _ _ _,World.ownsRow_nil _ _ _ _⟩;clear hself hB3
    go_wp2_with (first
     | (go_at_call 14;(with_reducible refine (PF.out _).mono ?_);rintro e5 w5 ⟨rfl,rfl⟩)
     | (rw [HC.out];go_at_call 14;(with_reducible refine (PB.out _).mono ?_);rintro e5 w5 ⟨rfl,rfl⟩))
    go_loopw [9] (fun i wr=>∃(q:Nat) (nv ev:Value),q<=n/\i= .int .i64 q/\Hid (FT w3 bo (.int .i64 (numR x.h)) (.string ⟨(Tp.fitL x.v).toArray⟩) (.int .i64 (numR x.o)) (.int .i64 (numR x.u)) (nodesQ x base q) (edgesQ x base q) nv ev wr)) (fun i _=>n - (intOf i).toNat)
    case atStart=>exact ⟨0,_,_,Nat.zero_le _,rfl,HST⟩
    case round=>
     clear HST c0 c1 c2 c3 c4 c5 PF PB HC HSELF;obtain ⟨q,nv,ev,hq,rfl,HF0⟩:=hrel;obtain ⟨ln,HLN⟩:∃l,Hid (nodesQ x base q=l):=⟨_,rfl⟩;obtain ⟨le,HLE⟩:∃l,Hid (edgesQ x base q=l):=⟨_,rfl⟩;have hF:=HF0.out;rw [HLN.out,HLE.out] at hF;have HL1:Hid (ln.length=q):=(by show _=_;rw [<-HLN.out];exact nodesQ_len _ _ _);have HL2:Hid (le.length=q - 1):=(by show _=_;rw [<-HLE.out];exact edgesQ_len _ _ _);have hl1:ln.length<=64:=(by rw [HL1.out];omega);have hl2:le.length<=64:=(by rw [HL2.out];omega);have hsw3:=HB3.out.size;have hne:w.heap.size≠bo:=(by omega);obtain ⟨d0,d1,d2,d3,d4,d5⟩:=six_of ((hF.mv.block _ (by omega) hne).trans ((HB3.out.block _ hlb).trans HBOX.out));obtain ⟨⟨e0,e1,e2,e3,e4,e5⟩,f0,f1,f2,f3,f4,f5⟩:=twelve_of hF.blk;have hbor:=Own.block_lt hF.blk;have hsr:=hF.mv.size;obtain ⟨a4,q4,rfl⟩:=own_slice hF.nrow;obtain ⟨a5,q5,rfl⟩:=own_slice hF.erow;have HF:=Lib.hid hF;clear hF HF0
     by_cases hlt:q < n
     ·have i1:(q:Int) < (n:Int):=by omega
      by_cases hin:q < x.ns.length
      ·obtain ⟨b,off,rfl,-,hbl,hg,x0,x1,x2⟩:=HN.out.at_ (k:=q) hin;have hkb:wr.heap[b]?=w.heap[b]?:=(HF.out.mv.block b (by omega) (by omega)).trans ((HB3.out.block b (by omega)).trans (HB2.out.block b hbl));rw [<-World.cell?_of_block (w:=w) (w':=wr) (a:=⟨b,_,none⟩) hkb] at x0 x1 x2;have P1:=Lib.hid (fun (w':World)=>pick8_any (x.ns.getD q st0).id 1000000001 w' hg.1.1 hg.1.2 (by decide) (by decide));have P2:=Lib.hid (fun (w':World)=>pick8_any (x.ns.getD q st0).seq 1000000001 w' hg.2.1 hg.2.2 (by decide) (by decide));have i2:(q:Int) < (x.ns.length:Int):=by omega
       have HNF:Hid (nodeF x base q=⟨Quo.pickS (x.ns.getD q st0).id 1000000001,2 * F1+2 * q,decide ((q:Int) < 1+B1)⟩):=by
        show _=_;unfold nodeF numR;rw [if_pos hin,HF2.out,HB4.out]
       have HEF:Hid (edgeF x base q=⟨Quo.pickS (x.ns.getD q st0).seq 1000000001,2 * F1+2 * q - 1,decide ((q:Int) < 1+B1)⟩):=by
        show _=_;unfold edgeF numR;rw [if_pos hin,HF2.out,HB4.out]
       have hbr:b < wr.heap.size:=(by omega);generalize x.ns.getD q st0=X at *;clear hkb hg HFB HBB HB1
       by_cases hq0:q=0
       ·have i3:¬(0:Int) < (q:Int):=(by omega);have HE0:Hid (edgesQ x base (q+1)=edgesQ x base q):=(by show _=_;rw [hq0];rfl);clear hq0
        go_wp2_with (first
         | (go_at_call 14;(with_reducible refine (P1.out _).mono ?_);rintro e5 w5 ⟨rfl,rfl⟩)
         | (go_at_call 14;(with_reducible refine (P2.out _).mono ?_);rintro e5 w5 ⟨rfl,rfl⟩)
         | (refine append_st rfl _ _ stop_info rfl Tryz.underlying22 rfl w3.heap.size _ ln rfl (HF.out.nrow.alloc _) _ _ rfl ⟨_,_,_⟩ (heap_alloc_new _ _) (by omega) (by simp <;> omega) ?_;intro a7 c7 w7 hown7 hgrow7;have HF7:=Lib.hid ((HF.out.below (belowOne _ _)).node hown7 hgrow7);have hs7:=hgrow7.size;have hk7:=(hgrow7.block bo (by simp <;> omega) (fun e=>by have:=(World.ownsRow.lt HF.out.nrow bo e.symm).1;omega)).trans ((heap_alloc_old _ _ hbor).trans HF.out.blk);obtain ⟨⟨v0,v1,v2,v3,v4,v5⟩,fv0,fv1,fv2,fv3,fv4,fv5⟩:=twelve_of hk7))
        go_roundw
        case rel=>exact ⟨q+1,_,_,by omega,by go_num,by show FT _ _ _ _ _ _ _ _ _ _ _;rw [nodesQ_next,HLN.out,HNF.out,HE0.out,HLE.out];exact HF7.out⟩
        case measure=>simp [intOf];omega
       ·have i3:(0:Int) < (q:Int):=by omega
        go_wp2_with (first
         | (go_at_call 14;(with_reducible refine (P1.out _).mono ?_);rintro e5 w5 ⟨rfl,rfl⟩)
         | (go_at_call 14;(with_reducible refine (P2.out _).mono ?_);rintro e5 w5 ⟨rfl,rfl⟩)
         | (refine append_st rfl _ _ way_info rfl Tryz.underlying23 rfl w3.heap.size _ le rfl (HF.out.erow.alloc _) _ _ rfl ⟨_,_,_⟩ (heap_alloc_new _ _) (by omega) (by simp <;> omega) ?_;intro a6 c6 w6 hown6 hgrow6;have HF6:=Lib.hid ((HF.out.below (belowOne _ _)).edge hown6 hgrow6);have hs6:=hgrow6.size;have hk6:=(hgrow6.block bo (by simp <;> omega) (fun e=>by have:=(World.ownsRow.lt HF.out.erow bo e.symm).1;omega)).trans ((heap_alloc_old _ _ hbor).trans HF.out.blk);obtain ⟨⟨y0,y1,y2,y3,y4,y5⟩,fy0,fy1,fy2,fy3,fy4,fy5⟩:=twelve_of hk6;have hb6r:=Own.block_lt HF6.out.blk)
         | (refine append_st rfl _ _ stop_info rfl Tryz.underlying22 rfl w3.heap.size _ ln rfl (HF6.out.nrow.alloc _) _ _ rfl ⟨_,_,_⟩ (set_alloc_new _ _ _ _) (by omega) (Nat.le_trans HF6.out.mv.size (by simp)) ?_;intro a7 c7 w7 hown7 hgrow7;have HF7:=Lib.hid ((HF6.out.below (belowOne _ _)).node hown7 hgrow7);have hs7:=hgrow7.size;have hk7:=(hgrow7.block bo (Nat.lt_of_lt_of_le hb6r (by simp)) (fun e=>by have:=(World.ownsRow.lt HF6.out.nrow bo e.symm).1;omega)).trans ((heap_alloc_old _ _ hb6r).trans HF6.out.blk);obtain ⟨⟨v0,v1,v2,v3,v4,v5⟩,fv0,fv1,fv2,fv3,fv4,fv5⟩:=twelve_of hk7))
        go_roundw
        case rel=>exact ⟨q+1,_,_,by omega,by go_num,by show FT _ _ _ _ _ _ _ _ _ _ _;rw [nodesQ_next,edgesQ_next _ _ (by omega),HLN.out,HLE.out,HNF.out,HEF.out];exact HF7.out⟩
        case measure=>simp [intOf];omega
      ·have i2:¬(q:Int) < (x.ns.length:Int):=by omega
       have HNF:Hid (nodeF x base q=⟨0,2 * F1+2 * q,decide ((q:Int) < 1+B1)⟩):=by
        show _=_;unfold nodeF;rw [if_neg hin,HF2.out,HB4.out]
       have HEF:Hid (edgeF x base q=⟨0,2 * F1+2 * q - 1,decide ((q:Int) < 1+B1)⟩):=by
        show _=_;unfold edgeF;rw [if_neg hin,HF2.out,HB4.out]
       clear HFB HBB HB1
       by_cases hq0:q=0
       ·have i3:¬(0:Int) < (q:Int):=(by omega);have HE0:Hid (edgesQ x base (q+1)=edgesQ x base q):=(by show _=_;rw [hq0];rfl);clear hq0
        go_wp2_with (refine append_st rfl _ _ stop_info rfl Tryz.underlying22 rfl w3.heap.size _ ln rfl (HF.out.nrow.alloc _) _ _ rfl ⟨_,_,_⟩ (heap_alloc_new _ _) (by omega) (by simp <;> omega) ?_;intro a7 c7 w7 hown7 hgrow7;have HF7:=Lib.hid ((HF.out.below (belowOne _ _)).node hown7 hgrow7);have hs7:=hgrow7.size;have hk7:=(hgrow7.block bo (by simp <;> omega) (fun e=>by have:=(World.ownsRow.lt HF.out.nrow bo e.symm).1;omega)).trans ((heap_alloc_old _ _ hbor).trans HF.out.blk);obtain ⟨⟨v0,v1,v2,v3,v4,v5⟩,fv0,fv1,fv2,fv3,fv4,fv5⟩:=twelve_of hk7)
        go_roundw
        case rel=>exact ⟨q+1,_,_,by omega,by go_num,by show FT _ _ _ _ _ _ _ _ _ _ _;rw [nodesQ_next,HLN.out,HNF.out,HE0.out,HLE.out];exact HF7.out⟩
        case measure=>simp [intOf];omega
       ·have i3:(0:Int) < (q:Int):=by omega
        go_wp2_with (first
         | (refine append_st rfl _ _ way_info rfl Tryz.underlying23 rfl w3.heap.size _ le rfl (HF.out.erow.alloc _) _ _ rfl ⟨_,_,_⟩ (heap_alloc_new _ _) (by omega) (by simp <;> omega) ?_;intro a6 c6 w6 hown6 hgrow6;have HF6:=Lib.hid ((HF.out.below (belowOne _ _)).edge hown6 hgrow6);have hs6:=hgrow6.size;have hk6:=(hgrow6.block bo (by simp <;> omega) (fun e=>by have:=(World.ownsRow.lt HF.out.erow bo e.symm).1;omega)).trans ((heap_alloc_old _ _ hbor).trans HF.out.blk);obtain ⟨⟨y0,y1,y2,y3,y4,y5⟩,fy0,fy1,fy2,fy3,fy4,fy5⟩:=twelve_of hk6;have hb6r:=Own.block_lt HF6.out.blk)
         | (refine append_st rfl _ _ stop_info rfl Tryz.underlying22 rfl w3.heap.size _ ln rfl (HF6.out.nrow.alloc _) _ _ rfl ⟨_,_,_⟩ (set_alloc_new _ _ _ _) (by omega) (Nat.le_trans HF6.out.mv.size (by simp)) ?_;intro a7 c7 w7 hown7 hgrow7;have HF7:=Lib.hid ((HF6.out.below (belowOne _ _)).node hown7 hgrow7);have hs7:=hgrow7.size;have hk7:=(hgrow7.block bo (Nat.lt_of_lt_of_le hb6r (by simp)) (fun e=>by have:=(World.ownsRow.lt HF6.out.nrow bo e.symm).1;omega)).trans ((heap_alloc_old _ _ hb6r).trans HF6.out.blk);obtain ⟨⟨v0,v1,v2,v3,v4,v5⟩,fv0,fv1,fv2,fv3,fv4,fv5⟩:=twelve_of hk7))
        go_roundw
        case rel=>exact ⟨q+1,_,_,by omega,by go_num,by show FT _ _ _ _ _ _ _ _ _ _ _;rw [nodesQ_next,edgesQ_next _ _ (by omega),HLN.out,HLE.out,HNF.out,HEF.out];exact HF7.out⟩
        case measure=>simp [intOf];omega
     ·obtain rfl:q=n:=by omega
      have hr:=(HF.out.mv.block (w.heap.size+1) (by omega) (by omega)).trans ((HB3.out.block _ hlr).trans HRES.out);obtain ⟨⟨v0,v1,v2,v3,v4,v5⟩,g0,g1,g2,g3,g4,g5⟩:=twelve_of hr
      go_wp2_with fail
      refine bodyPost_ret (v:= .agg #[.int .i64 (numR x.h),.string ⟨(Tp.fitL x.v).toArray⟩,.int .i64 (numR x.o),.int .i64 (numR x.u),.slice a4 ln.length q4,.slice a5 le.length q5]) (by simp [results,Tryz.results5,go_sem,v0,v1,v2,v3,v4,v5]) rfl ?_;rw [put6_id];have hS1:=sts_own HF.out.nrow (by omega) (fun y hy=>by rw [<-HLN.out] at hy;exact nodesQ_good x base hcb.2 y hy);have hS2:=sts_own HF.out.erow (by omega) (fun y hy=>by rw [<-HLE.out] at hy;exact edgesQ_good x base hcb.2 y hy)
      have hfo:fitO Tp.fitL x base=⟨numR x.h,Tp.fitL x.v,numR x.o,numR x.u,ln,le⟩:=by
       rw [<-HLN.out,<-HLE.out];unfold fitO nodesQ edgesQ;rw [HNN.out]
      rw [hfo];have hsz:=put6_size wr (w.heap.size+1) 0 (.int .i64 (numR x.h)) (.string ⟨(Tp.fitL x.v).toArray⟩) (.int .i64 (numR x.o)) (.int .i64 (numR x.u)) (.slice a4 ln.length q4) (.slice a5 le.length q5);refine ⟨_,rfl,⟨_,_,rfl,numR_i64 _,?_,numR_i64 _,numR_i64 _,hS1.keep (fun _ _ _=>trivial) (fun b hb _=>put6_block _ _ 0 _ _ _ _ _ _ b (by have hb':w3.heap.size<=b:=hb;omega)) (by omega),hS2.keep (fun _ _ _=>trivial) (fun b hb _=>put6_block _ _ 0 _ _ _ _ _ _ b (by have hb':w3.heap.size<=b:=hb;omega)) (by omega)⟩,?_⟩
      ·have:=(Tp.name_len (Tp.fit_name x.v)).2;simp only
       omega
      ·exact below_put6' ((HB2.out.trans (HB3.out.mono hs2)).trans ((HF.out.mv.mono (by omega)).below (by omega))) (by omega) _ _ _ _ _ _
end Go.Proofs.YtclghelocglnlaaGreatDoor.Od
namespace Go.Proofs.YtclghelocglnlaaGreatDoor.Od
open Go.RowKit Js Lex
def exO:O:=⟨1,[118,49],2,0,[⟨3,0,true⟩],[]⟩
theorem ex_rightO:rightO Tp.nameB exO=true:=by decide
theorem ex_base:baseO exO=1:=by decide
theorem o0_wrong:rightO Tp.nameB o0=false:=by decide
theorem digit_right:∀d:Nat,d < 10->Dec.rightB (d:Int) 0=true:=by decide+kernel
theorem num_digit {d:Nat} (h:d < 10):printJ (numJ (d:Int))= [UInt8.ofNat (48+d)]:=by
 have hm:Dec.mk (d:Int) 0=((d:Int),0,true):=Dec.mk_right _ _ (digit_right d h);unfold numJ;rw [hm];simp only;rw [printJ,if_neg (by decide),if_neg (by decide),if_neg (by decide),if_pos rfl];unfold Dec.printS;rw [if_pos (digit_right d h),if_pos (by decide),Lib.itoa_nonneg,Lib.decDigits_one h]
 rfl
theorem ex_part:printJ (partJ nidL ⟨3,0,true⟩)= [123,34,110,111,100,101,73,100,34,58,51,44,34,115,101,113,117,101,110,99,101,73,100,34,58,48,44,34,114,101,108,101,97,115,101,100,34,58,116,114,117,101,125]:=by
 have q1:=ascii_quote (l:=nidL) (by decide);have q2:=ascii_quote (l:=seqL) (by decide);have q3:=ascii_quote (l:=relL) (by decide);have n1:=num_digit (d:=3) (by decide);have n2:=num_digit (d:=0) (by decide)
 have b1:printJ (boolJ true)= [116,114,117,101]:=by
  show printJ (.mk 3 0 0 [] [] [])=_;rw [printJ,if_neg (by decide),if_neg (by decide),if_pos rfl];rfl
 unfold partJ;rw [printJ,if_neg (by decide),if_neg (by decide),if_neg (by decide),if_neg (by decide),if_neg (by decide),if_neg (by decide),if_pos rfl,printL,printL,printL,printL];simp only [List.headD_cons,List.tail_cons,if_true];rw [q1,q2,q3,show (3:Int)=((3:Nat):Int) from rfl,n1,show (0:Int)=((0:Nat):Int) from rfl,n2,b1]
 rfl
def exT:List UInt8:= [123,34,104,101,97,100,101,114,73,100,34,58,49,44,34,115,101,114,105,97,108,78,117,109,98,101,114,34,58,34,118,49,34,44,34,111,114,100,101,114,73,100,34,58,50,44,34,111,114,100,101,114,85,112,100,97,116,101,73,100,34,58,48,44,34,110,111,100,101,115,34,58,91,123,34,110,111,100,101,73,100,34,58,51,44,34,115,101,113,117,101,110,99,101,73,100,34,58,48,44,34,114,101,108,101,97,115,101,100,34,58,116,114,117,101,125,93,44,34,101,100,103,101,115,34,58,91,93,125]
theorem ex_text:printJ (layJ exO)=exT:=by
 have q1:=ascii_quote (l:=hdrL) (by decide);have q2:=ascii_quote (l:=serL) (by decide);have q3:=ascii_quote (l:=ordL) (by decide);have q4:=ascii_quote (l:=updL) (by decide);have q5:=ascii_quote (l:=nodL) (by decide);have q6:=ascii_quote (l:=edgL) (by decide);have q7:=ascii_quote (l:= [118,49]) (by decide);have n1:=num_digit (d:=1) (by decide);have n2:=num_digit (d:=2) (by decide);have n3:=num_digit (d:=0) (by decide);have hs:printJ (.mk 5 0 0 [118,49] [] [])=Quo.quoteL [118,49]:=by rw [printJ,if_neg (by decide),if_neg (by decide),if_neg (by decide),if_neg (by decide),if_pos rfl]
 have ha:∀l,printJ (.mk 6 0 0 [] [] l)=91::(printL false true [] l++ [93]):=fun l=>by rw [printJ,if_neg (by decide),if_neg (by decide),if_neg (by decide),if_neg (by decide),if_neg (by decide),if_pos rfl]
 have h1:printL false true [] [partJ nidL ⟨3,0,true⟩]=printJ (partJ nidL ⟨3,0,true⟩):=by
  rw [printL,printL];simp
 have h2:printL false true [] ([]:List J)= []:=by rw [printL]
 unfold layJ exO;simp only [List.map_cons,List.map_nil];rw [printJ,if_neg (by decide),if_neg (by decide),if_neg (by decide),if_neg (by decide),if_neg (by decide),if_neg (by decide),if_pos rfl,printL,printL,printL,printL,printL,printL,printL];simp only [List.headD_cons,List.tail_cons,if_true];rw [q1,q2,q3,q4,q5,q6,hs,ha,ha,h1,h2,ex_part,q7,show (1:Int)=((1:Nat):Int) from rfl,n1,show (2:Int)=((2:Nat):Int) from rfl,n2,show (0:Int)=((0:Nat):Int) from rfl,n3]
 rfl
theorem ex_len:(layS exO).length=138:=by
 unfold layS;rw [Se.sealS_len,ex_text]
 rfl
end Go.Proofs.YtclghelocglnlaaGreatDoor.Od
namespace Go.Proofs.YtclghelocglnlaaGreatDoor.Od
open Go.RowKit Js Lex
theorem ex_at (w:World):OAt Any ((w.alloc (.cells #[.int .i64 3,.int .i64 0,.bool true] 41)).alloc (.cells #[.int .i64 1,.string ⟨#[118,49]⟩,.int .i64 2,.int .i64 0,.slice (some ⟨w.heap.size,0,none⟩) 1 1,.slice none 0 0] 25))
 (.agg #[.int .i64 1,.string ⟨#[118,49]⟩,.int .i64 2,.int .i64 0,.slice (some ⟨w.heap.size,0,none⟩) 1 1,.slice none 0 0]) exO:=by
 have h:=two_old w (.cells #[.int .i64 3,.int .i64 0,.bool true] 41) (.cells #[.int .i64 1,.string ⟨#[118,49]⟩,.int .i64 2,.int .i64 0,.slice (some ⟨w.heap.size,0,none⟩) 1 1,.slice none 0 0] 25);refine ⟨_,_,rfl,⟨by decide,by decide⟩,by decide,⟨by decide,by decide⟩,⟨by decide,by decide⟩,⟨some ⟨w.heap.size,0,none⟩,1,rfl,by decide,by decide,fun x hx=> ?_,fun _=>⟨w.heap.size,0,rfl,trivial,Own.block_lt h,fun i hi q c hq=> ?_⟩⟩,sts_nil⟩
 ·simp [exO] at hx;subst hx;exact ⟨⟨by decide,by decide⟩,⟨by decide,by decide⟩⟩
 ·obtain rfl:i=0:=by simp [exO] at hi;omega
  rw [cell_of_row _ _ _ _ _ _ h]
  simpa [exO,stV,aggC] using hq
structure EX8 (w w':World):Prop where
 bel:Below w.heap.size w w'
 oat:OAt Any w' (.agg #[.int .i64 1,.string ⟨#[118,49]⟩,.int .i64 2,.int .i64 0,.slice (some ⟨w.heap.size,0,none⟩) 1 1,.slice none 0 0]) exO
 box:w'.heap[w.heap.size+1]?=some (.cells #[.int .i64 1,.string ⟨#[118,49]⟩,.int .i64 2,.int .i64 0,.slice (some ⟨w.heap.size,0,none⟩) 1 1,.slice none 0 0] 25 (0,0))
theorem EX8.below {w a b:World} (h:EX8 w a) (hb:Below a.heap.size a b):EX8 w b:=⟨h.bel.trans (hb.mono h.bel.size),h.oat.below hb (Nat.le_refl _),(hb.block _ (Own.block_lt h.box)).trans h.box⟩
theorem ex8_new (w:World):EX8 w ((w.alloc (.cells #[.int .i64 3,.int .i64 0,.bool true] 41)).alloc (.cells #[.int .i64 1,.string ⟨#[118,49]⟩,.int .i64 2,.int .i64 0,.slice (some ⟨w.heap.size,0,none⟩) 1 1,.slice none 0 0] 25)):=⟨belowTwo _ _ _,ex_at w,two_new _ _ _⟩
theorem awake8_any (w:World) (hT:Dec.Tab w):Calls Tryz.prog 4 #[] w (Ret (.bool true) w):=by
 have L1:=Lib.hid (fun (w':World) (h:EX8 w w')=>Lay_any Any _ exO w' (hT.below h.bel) h.oat);rw [if_pos ex_rightO] at L1;have L0:=Lib.hid (fun (w':World) (h:EX8 w w')=>Lay_any Any _ o0 w' (hT.below h.bel) (o0_at (S:=Any)));rw [if_neg (by rw [o0_wrong];decide)] at L0;have T1:=Lib.hid (fun (w':World)=>Take_any (layS exO) w' (by rw [ex_len];omega));rw [takeS_layS name_ok ex_rightO] at T1;have S1:=Lib.hid (fun (w':World) (h:EX8 w w') (v:Value) (hv:OAt Any w' v exO)=>same8_any Any Any _ v exO exO w' h.oat hv);rw [sameO_iff.2 rfl] at S1;have B1:=Lib.hid (fun (w':World) (h:EX8 w w')=>base8_any Any _ exO w' h.oat);rw [ex_base] at B1;have R1:=Lib.hid (fun (w':World) (h:EX8 w w')=>right_any Any _ exO w' h.oat);rw [ex_rightO] at R1;have SE:=Lib.hid (fun (w':World)=>Se.seal_l exT w' (by decide));have HL:=Lib.hid ex_len;have hLS:Se.sealS exT=layS exO:=by unfold layS;rw [ex_text]
 rw [hLS] at SE;unfold exT at SE;unfold TRet at T1;have HSZ:Hid ((⟨(layS exO).toArray⟩:ByteArray).size=138):=by show _=_;rw [bs_size,HL.out]
 have h138:=HSZ.out;generalize layS exO=T at *;simp only at T1;clear hLS;have E0:=Lib.hid (ex8_new w)
 go_enter Tryz.func4,Tryz.ntmps4
 go_wp2_with (first
  | (go_at_call 6;(with_reducible refine (L1.out _ E0.out).mono ?_);rintro e1 w1 ⟨rfl,hb1⟩;have E1:=Lib.hid (E0.out.below hb1))
  | (go_at_call 16;(with_reducible refine (T1.out _).mono ?_);rintro e2 w2 ⟨v2,rfl,hv2,hb2⟩;obtain ⟨an2,cn2,ae2,ce2,rfl,-⟩:=OAt.open_ hv2;have E2:=Lib.hid ((E1.out.below hb2).below (belowOne w2 (.cells #[.int .i64 exO.h,.string ⟨exO.v.toArray⟩,.int .i64 exO.o,.int .i64 exO.u,.slice an2 exO.ns.length cn2,.slice ae2 exO.es.length ce2] 25)));have HV2:=Lib.hid (OAt.below hv2 (belowOne w2 (.cells #[.int .i64 exO.h,.string ⟨exO.v.toArray⟩,.int .i64 exO.o,.int .i64 exO.u,.slice an2 exO.ns.length cn2,.slice ae2 exO.es.length ce2] 25)) (Nat.le_refl _));have HX2:=Lib.hid (heap_alloc_new w2 (.cells #[.int .i64 exO.h,.string ⟨exO.v.toArray⟩,.int .i64 exO.o,.int .i64 exO.u,.slice an2 exO.ns.length cn2,.slice ae2 exO.es.length ce2] 25)))
  | (go_at_call 6;(with_reducible refine (L0.out _ E2.out).mono ?_);rintro e3 w3 ⟨rfl,hb3⟩;have E3:=Lib.hid (E2.out.below hb3);have HV3:=Lib.hid (OAt.below HV2.out hb3 (Nat.le_refl _));have HX3:=Lib.hid ((hb3.block _ (Own.block_lt HX2.out)).trans HX2.out))
  | (go_at_call 15;(with_reducible refine (SE.out _).mono ?_);rintro e4 w4 ⟨rfl,hb4⟩;have E4:=Lib.hid (E3.out.below hb4);have HV4:=Lib.hid (OAt.below HV3.out hb4 (Nat.le_refl _));have HX4:=(hb4.block _ (Own.block_lt HX3.out)).trans HX3.out;obtain ⟨y0,y1,y2,y3,y4,y5⟩:=six_of HX4;obtain ⟨x0,x1,x2,x3,x4,x5⟩:=six_of E4.out.box)
  | (go_at_call 10;(with_reducible refine (S1.out _ E4.out _ HV4.out).mono ?_);rintro e5 w5 ⟨rfl,hb5⟩;have E5:=Lib.hid (E4.out.below hb5);obtain ⟨z0,z1,z2,z3,z4,z5⟩:=six_of E5.out.box)
  | (go_at_call 12;(with_reducible refine (B1.out _ E5.out).mono ?_);rintro e6 w6 ⟨rfl,hb6⟩;have E6:=Lib.hid (E5.out.below hb6);obtain ⟨u0,u1,u2,u3,u4,u5⟩:=six_of E6.out.box)
  | (go_at_call 8;(with_reducible refine (R1.out _ E6.out).mono ?_);rintro e7 w7 ⟨rfl,hb7⟩;have E7:=Lib.hid (E6.out.below hb7)))
 go_ret
 exact ⟨rfl,E7.out.bel⟩
end Go.Proofs.YtclghelocglnlaaGreatDoor.Od
namespace Go.Proofs.YtclghelocglnlaaGreatDoor.Od
open Go.RowKit Js Lex
structure BX8 (y:O) (b:Nat) (a:Option Addr) (c:Nat) (e:Option Addr) (f:Nat) (w:World):Prop where
 blk:w.heap[b]?=some (.cells #[.int .i64 y.h,.string ⟨y.v.toArray⟩,.int .i64 y.o,.int .i64 y.u,.slice a y.ns.length c,.slice e y.es.length f] 25 (0,0))
 oat:OAt Any w (.agg #[.int .i64 y.h,.string ⟨y.v.toArray⟩,.int .i64 y.o,.int .i64 y.u,.slice a y.ns.length c,.slice e y.es.length f]) y
section
variable {y:O} {b:Nat} {a:Option Addr} {c:Nat} {e:Option Addr} {f:Nat} {w w':World}
theorem BX8.new (h:OAt Any w (.agg #[.int .i64 y.h,.string ⟨y.v.toArray⟩,.int .i64 y.o,.int .i64 y.u,.slice a y.ns.length c,.slice e y.es.length f]) y):
 BX8 y w.heap.size a c e f (w.alloc (.cells #[.int .i64 y.h,.string ⟨y.v.toArray⟩,.int .i64 y.o,.int .i64 y.u,.slice a y.ns.length c,.slice e y.es.length f] 25)):=⟨heap_alloc_new _ _,h.below (belowOne _ _) (Nat.le_refl _)⟩
theorem BX8.below (h:BX8 y b a c e f w) (hb:Below w.heap.size w w'):BX8 y b a c e f w':=⟨(hb.block _ (Own.block_lt h.blk)).trans h.blk,h.oat.below hb (Nat.le_refl _)⟩
theorem BX8.lt (h:BX8 y b a c e f w):b < w.heap.size:=Own.block_lt h.blk
theorem BX8.box (h:BX8 y b a c e f w) (o:Obj):BX8 y b a c e f (w.alloc o):=h.below (belowOne _ _)
end
theorem fit8 {x y:O} {base:Int} (hy:fitO Tp.fitL x base=y) {b:Nat} {a:Option Addr} {c:Nat} {e:Option Addr} {f:Nat} {w:World} (h:BX8 x b a c e f w) (b0: -9223372036854775808<=base) (b1:base<=9223372036854775807):
 Calls Tryz.prog 5 #[.agg #[.int .i64 x.h,.string ⟨x.v.toArray⟩,.int .i64 x.o,.int .i64 x.u,.slice a x.ns.length c,.slice e x.es.length f],.int .i64 base] w (fun e w'=>∃a c b f,e= .returned (.agg #[.int .i64 y.h,.string ⟨y.v.toArray⟩,.int .i64 y.o,.int .i64 y.u,.slice a y.ns.length c,.slice b y.es.length f])/\
 OAt Any w' (.agg #[.int .i64 y.h,.string ⟨y.v.toArray⟩,.int .i64 y.o,.int .i64 y.u,.slice a y.ns.length c,.slice b y.es.length f]) y/\Below w.heap.size w w'):=by
 subst hy;refine (Fit_any Any _ x base w h.oat b0 b1).mono ?_;rintro e w' ⟨v,rfl,hv,hb⟩;obtain ⟨a,c,b,f,rfl,-⟩:=hv.open_;exact ⟨a,c,b,f,rfl,hv,hb⟩
end Go.Proofs.YtclghelocglnlaaGreatDoor.Od
namespace Go.Proofs.YtclghelocglnlaaGreatDoor.Od
open Go.RowKit Js Lex
section
variable {w1:World} {bo:Nat} {c0 c1 c2 c3:Value} {ln le:List St} {nv ev:Value} {wr:World}
end
theorem FT.bx {w1 W:World} {bo:Nat} {z:O} {a:Option Addr} {n c:Nat} {e:Option Addr} {m f:Nat} (h:FT w1 bo (.int .i64 z.h) (.string ⟨z.v.toArray⟩) (.int .i64 z.o) (.int .i64 z.u) z.ns z.es (.slice a n c) (.slice e m f) W) (hn:z.ns.length=n) (hm:z.es.length=m)
 (i1:i64B z.h) (i2:z.v.length<=140737488355328) (i3:i64B z.o) (i4:i64B z.u) (g1:∀y∈z.ns,goodS y) (g2:∀y∈z.es,goodS y) (l1:z.ns.length<=100) (l2:z.es.length<=100):BX8 z bo a c e f W:=by
 subst hn hm;exact ⟨h.blk,⟨_,_,rfl,i1,i2,i3,i4,(sts_own h.nrow (by omega) g1).any,(sts_own h.erow (by omega) g2).any⟩⟩
end Go.Proofs.YtclghelocglnlaaGreatDoor.Od
