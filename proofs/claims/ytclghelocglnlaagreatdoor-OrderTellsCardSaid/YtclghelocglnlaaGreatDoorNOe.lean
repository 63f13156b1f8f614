import Derived.Test.YtclghelocglnlaaGreatDoorNOd
set_option maxHeartbeats 0
set_option maxRecDepth 100000
set_option linter.all false
namespace Go.Proofs.YtclghelocglnlaaGreatDoor.Od
open Go.RowKit Js Lex
structure Tk (w:World) (bt:Nat) (d:Nat) (c0 c1 c2 c3 c4 c5:Value) (j:J) (f:Bool):Prop where
 blk:w.heap[bt]?=some (.cells #[c0,c1,c2,c3,c4,c5,.bool f] 66 (0,0))
 jat:JAt (fun b=>b < bt) w d (.agg #[c0,c1,c2,c3,c4,c5]) j
section
variable {w:World} {bt d:Nat} {c0 c1 c2 c3 c4 c5:Value} {j:J} {f:Bool}
theorem Tk.cells (h:Tk w bt d c0 c1 c2 c3 c4 c5 j f):(w.cell? ⟨bt,0,none⟩=some c0/\w.cell? ⟨bt,1,none⟩=some c1/\w.cell? ⟨bt,2,none⟩=some c2/\w.cell? ⟨bt,3,none⟩=some c3/\w.cell? ⟨bt,4,none⟩=some c4/\w.cell? ⟨bt,5,none⟩=some c5/\w.cell? ⟨bt,6,none⟩=some (.bool f))/\w.frozen? ⟨bt,6,none⟩=false:=by
 have k:∀i,w.cell? ⟨bt,i,none⟩=(#[c0,c1,c2,c3,c4,c5,.bool f]:Array Value)[i]?:=fun i=>cell_of_row _ _ _ _ _ _ h.blk
 exact ⟨⟨k 0,k 1,k 2,k 3,k 4,k 5,k 6⟩,free_of h.blk 6⟩
theorem Tk.lt (h:Tk w bt d c0 c1 c2 c3 c4 c5 j f):bt < w.heap.size:=Own.block_lt h.blk
theorem Tk.below (h:Tk w bt d c0 c1 c2 c3 c4 c5 j f) {w':World} (hb:Below w.heap.size w w'):Tk w' bt d c0 c1 c2 c3 c4 c5 j f:=
 ⟨(hb.block _ h.lt).trans h.blk,h.jat.below hb (Nat.le_refl _)⟩
theorem Tk.keep (h:Tk w bt d c0 c1 c2 c3 c4 c5 j f) {w':World} (hk:∀b,b<=bt->w'.heap[b]?=w.heap[b]?) (hs:w.heap.size<=w'.heap.size):Tk w' bt d c0 c1 c2 c3 c4 c5 j f:=
 ⟨(hk _ (Nat.le_refl _)).trans h.blk,h.jat.keep (fun _ h _=>h) (fun b hb _=>hk b (Nat.le_of_lt hb)) hs⟩
theorem Tk.other (h:Tk w bt d c0 c1 c2 c3 c4 c5 j f) {b:Nat} (hb:bt < b) (i:Nat) (u:Value):Tk (w.setCell ⟨b,i,none⟩ u) bt d c0 c1 c2 c3 c4 c5 j f:=
 h.keep (fun k hk=>heap_setCell_other _ _ _ _ (by show k≠b;omega)) (by rw [size_set];exact Nat.le_refl _)
theorem Tk.set (h:Tk w bt d c0 c1 c2 c3 c4 c5 j f) (g:Bool):Tk (w.setCell ⟨bt,6,none⟩ (.bool g)) bt d c0 c1 c2 c3 c4 c5 j g:=
 ⟨by
   rw [heap_setCell_same w bt 6 _ 66 _ h.blk]
   rfl,h.jat.keep (fun _ h _=>h) (fun b hb _=>heap_setCell_other _ _ _ _ (by show b≠bt;omega)) (by rw [size_set];exact Nat.le_refl _)⟩
end
def NRet (v:Value) (w:World) (bt d:Nat) (c0 c1 c2 c3 c4 c5:Value) (j:J) (f:Bool) (e:Ending) (w':World):Prop:=
 e= .returned v/\Tk w' bt d c0 c1 c2 c3 c4 c5 j f/\Moves w.heap.size bt w w'
theorem moves_set {w w1:World} {bt:Nat} (h:Below w.heap.size w w1) (i:Nat) (u:Value):Moves w.heap.size bt w (w1.setCell ⟨bt,i,none⟩ u):=(Moves.of_below h).setCell (p:=⟨bt,i,none⟩) (.inr rfl) u
theorem needI_any (nm:List UInt8) (w:World) {bt d:Nat} {c0 c1 c2 c3 c4 c5:Value} {j:J} {f:Bool} (h:Tk w bt d c0 c1 c2 c3 c4 c5 j f):
 Calls Tryz.prog 69 #[.pointer (some ⟨bt,0,none⟩),.string ⟨nm.toArray⟩,.func (.func 70) #[] #[]] w (NRet (.int .i64 (tellG 0 numS j nm).1) w bt d c0 c1 c2 c3 c4 c5 j (f || !(tellG 0 numS j nm).2)):=by
 have HT:=Lib.hid h;have TE:=Lib.hid (FNum_any _ d _ j nm w h.jat);obtain ⟨⟨x0,x1,x2,x3,x4,x5,x6⟩,-⟩:=h.cells;have hlt:=h.lt;clear h;generalize tellG (0:Int) numS j nm=R at *;obtain ⟨r1,r2⟩:=R;simp only at TE⊢
 cases r2 with
 | true=>
   go_enter Tryz.func69,Tryz.ntmps69
   go_wp2_with (go_at_call 70;(with_reducible refine (TE.out).mono ?_);rintro e1 w1 ⟨rfl,hb1⟩)
   go_ret
   exact ⟨rfl,by simpa using HT.out.below hb1,Moves.of_below hb1⟩
 | false=>
   go_enter Tryz.func69,Tryz.ntmps69
   go_wp2_with (go_at_call 70;(with_reducible refine (TE.out).mono ?_);rintro e1 w1 ⟨rfl,hb1⟩;have HT1:=Lib.hid (HT.out.below hb1);obtain ⟨⟨y0,y1,y2,y3,y4,y5,y6⟩,fr⟩:=HT1.out.cells)
   go_ret
   exact ⟨rfl,by simpa using HT1.out.set true,moves_set hb1 _ _⟩
theorem needS_any (nm:List UInt8) (w:World) {bt d:Nat} {c0 c1 c2 c3 c4 c5:Value} {j:J} {f:Bool} (h:Tk w bt d c0 c1 c2 c3 c4 c5 j f):
 Calls Tryz.prog 71 #[.pointer (some ⟨bt,0,none⟩),.string ⟨nm.toArray⟩,.func (.func 72) #[] #[]] w (NRet (.string ⟨(tellG [] txtS j nm).1.toArray⟩) w bt d c0 c1 c2 c3 c4 c5 j (f || !(tellG [] txtS j nm).2)):=by
 have HT:=Lib.hid h;have TE:=Lib.hid (FText_any _ d _ j nm w h.jat);obtain ⟨⟨x0,x1,x2,x3,x4,x5,x6⟩,-⟩:=h.cells;have hlt:=h.lt;clear h;generalize tellG ([]:List UInt8) txtS j nm=R at *;obtain ⟨r1,r2⟩:=R;simp only at TE⊢
 cases r2 with
 | true=>
   go_enter Tryz.func71,Tryz.ntmps71
   go_wp2_with (go_at_call 72;(with_reducible refine (TE.out).mono ?_);rintro e1 w1 ⟨rfl,hb1⟩)
   go_ret
   exact ⟨rfl,by simpa using HT.out.below hb1,Moves.of_below hb1⟩
 | false=>
   go_enter Tryz.func71,Tryz.ntmps71
   go_wp2_with (go_at_call 72;(with_reducible refine (TE.out).mono ?_);rintro e1 w1 ⟨rfl,hb1⟩;have HT1:=Lib.hid (HT.out.below hb1);obtain ⟨⟨y0,y1,y2,y3,y4,y5,y6⟩,fr⟩:=HT1.out.cells)
   go_ret
   exact ⟨rfl,by simpa using HT1.out.set true,moves_set hb1 _ _⟩
theorem needB_any (nm:List UInt8) (w:World) {bt d:Nat} {c0 c1 c2 c3 c4 c5:Value} {j:J} {f:Bool} (h:Tk w bt d c0 c1 c2 c3 c4 c5 j f):
 Calls Tryz.prog 106 #[.pointer (some ⟨bt,0,none⟩),.string ⟨nm.toArray⟩,.func (.func 107) #[] #[]] w (NRet (.bool (tellG false flagS j nm).1) w bt d c0 c1 c2 c3 c4 c5 j (f || !(tellG false flagS j nm).2)):=by
 have HT:=Lib.hid h;have TE:=Lib.hid (FFlag_any _ d _ j nm w h.jat);obtain ⟨⟨x0,x1,x2,x3,x4,x5,x6⟩,-⟩:=h.cells;have hlt:=h.lt;clear h;generalize tellG false flagS j nm=R at *;obtain ⟨r1,r2⟩:=R;simp only at TE⊢
 cases r2 with
 | true=>
   go_enter Tryz.func106,Tryz.ntmps106
   go_wp2_with (go_at_call 107;(with_reducible refine (TE.out).mono ?_);rintro e1 w1 ⟨rfl,hb1⟩)
   go_ret
   exact ⟨rfl,by simpa using HT.out.below hb1,Moves.of_below hb1⟩
 | false=>
   go_enter Tryz.func106,Tryz.ntmps106
   go_wp2_with (go_at_call 107;(with_reducible refine (TE.out).mono ?_);rintro e1 w1 ⟨rfl,hb1⟩;have HT1:=Lib.hid (HT.out.below hb1);obtain ⟨⟨y0,y1,y2,y3,y4,y5,y6⟩,fr⟩:=HT1.out.cells)
   go_ret
   exact ⟨rfl,by simpa using HT1.out.set true,moves_set hb1 _ _⟩
def NLRet (w:World) (bt d:Nat) (c0 c1 c2 c3 c4 c5:Value) (j:J) (f:Bool) (l:List J) (e:Ending) (w':World):Prop:=
 ∃ai ci,e= .returned (.slice ai l.length ci)/\l.length<=ci/\ItemsAt (fun b=>w.heap.size<=b) w' d ai l/\Tk w' bt d c0 c1 c2 c3 c4 c5 j f/\Moves w.heap.size bt w w'
theorem needL_any (nm:List UInt8) (w:World) {bt d:Nat} {c0 c1 c2 c3 c4 c5:Value} {j:J} {f:Bool} (h:Tk w bt d c0 c1 c2 c3 c4 c5 j f):
 Calls Tryz.prog 104 #[.pointer (some ⟨bt,0,none⟩),.string ⟨nm.toArray⟩,.func (.func 105) #[] #[]] w (NLRet w bt d c0 c1 c2 c3 c4 c5 j (f || !(lsG j nm).2) (lsG j nm).1):=by
 have HT:=Lib.hid h;have TE:=Lib.hid (flist_any _ d _ j nm w h.jat);unfold LsRet at TE;obtain ⟨⟨x0,x1,x2,x3,x4,x5,x6⟩,-⟩:=h.cells;have hlt:=h.lt;clear h;generalize lsG j nm=R at *;obtain ⟨r1,r2⟩:=R;simp only at TE⊢
 cases r2 with
 | true=>
   go_enter Tryz.func104,Tryz.ntmps104
   go_wp2_with (go_at_call 105;(with_reducible refine (TE.out).mono ?_);rintro e1 w1 ⟨a1,q1,rfl,hc1,hI1,hb1⟩)
   go_ret
   exact ⟨a1,q1,rfl,hc1,hI1,by simpa using HT.out.below hb1,Moves.of_below hb1⟩
 | false=>
   go_enter Tryz.func104,Tryz.ntmps104
   go_wp2_with (go_at_call 105;(with_reducible refine (TE.out).mono ?_);rintro e1 w1 ⟨a1,q1,rfl,hc1,hI1,hb1⟩;have HT1:=Lib.hid (HT.out.below hb1);obtain ⟨⟨y0,y1,y2,y3,y4,y5,y6⟩,fr⟩:=HT1.out.cells)
   go_ret
   exact ⟨a1,q1,rfl,hc1,hI1.keep (fun _ h _=>h) (fun b hb _=>heap_setCell_other _ _ _ _ (by show b≠bt;omega)) (by rw [size_set];exact Nat.le_refl _),by simpa using HT1.out.set true,moves_set hb1 _ _⟩
theorem lsG_len {S:Nat->Prop} {w:World} {d:Nat} {v:Value} {j:J} (h:JAt S w d v j) (nm:List UInt8):(lsG j nm).1.length<=1599289640354:=by
 unfold lsG tellG
 by_cases hp:plc j nm < 0
 ·rw [if_pos hp];simp
 ·rw [if_neg hp];have hB:=plc_lt j nm;obtain ⟨k,m,e,t,ns,is⟩:=j;obtain ⟨d',an,cn,ai,ci,hd',rfl,_,_,_,_,_,hn1,hn,hi1,hi,hit⟩:=h.open_;obtain ⟨b,off,y0,y1,y2,y3,y4,y5,rfl,hbl,hl,hJ⟩:=item_at hit (by omega) hB.2;change (lstS (is.getD _ j0)).1.length<=_;generalize is.getD (plc (J.mk k m e t ns is) nm).toNat j0=y at *;unfold lstS
  split
  ·obtain ⟨k',m',e',t',ns',is'⟩:=y;obtain ⟨_,_,_,_,_,_,_,_,_,_,_,_,_,_,_,hi',_⟩:=hJ.open_;exact hi'
  ·simp
end Go.Proofs.YtclghelocglnlaaGreatDoor.Od
namespace Go.Proofs.YtclghelocglnlaaGreatDoor.Od
open Go.RowKit Js Lex
theorem takeStop_any (w:World) {bt d:Nat} {c0 c1 c2 c3 c4 c5:Value} {j:J} {f:Bool} (h:Tk w bt d c0 c1 c2 c3 c4 c5 j f):
 Calls Tryz.prog 74 #[.pointer (some ⟨bt,0,none⟩)] w (NRet (stV (partT nidL j).1) w bt d c0 c1 c2 c3 c4 c5 j (f || !(partT nidL j).2)):=by
 have N1:=Lib.hid (fun (w':World) (f:Bool) (h:Tk w' bt d c0 c1 c2 c3 c4 c5 j f)=>needI_any nidL w' h);have N2:=Lib.hid (fun (w':World) (f:Bool) (h:Tk w' bt d c0 c1 c2 c3 c4 c5 j f)=>needI_any seqL w' h);have N3:=Lib.hid (fun (w':World) (f:Bool) (h:Tk w' bt d c0 c1 c2 c3 c4 c5 j f)=>needB_any relL w' h);have HT:=Lib.hid h;have hlt:=h.lt;unfold NRet at N1 N2 N3;unfold partT stV;simp only;generalize tellG (0:Int) numS j nidL=R1 at *;generalize tellG (0:Int) numS j seqL=R2 at *;generalize tellG false flagS j relL=R3 at *;obtain ⟨r1,s1⟩:=R1;obtain ⟨r2,s2⟩:=R2;obtain ⟨r3,s3⟩:=R3;unfold nidL at N1;unfold seqL at N2;unfold relL at N3;simp only at N1 N2 N3⊢;clear h
 go_enter Tryz.func74,Tryz.ntmps74
 go_wp2_with (first
  | (go_at_call 69;(with_reducible refine (N1.out _ _ (HT.out.below (belowOne _ _))).mono ?_);rintro e1 w1 ⟨rfl,ht1,hm1⟩;have HT1:=Lib.hid ht1;have HM1:=Lib.hid hm1)
  | (go_at_call 69;(with_reducible refine (N2.out _ _ HT1.out).mono ?_);rintro e2 w2 ⟨rfl,ht2,hm2⟩;have HT2:=Lib.hid ht2;have HM2:=Lib.hid (HM1.out.trans (hm2.mono HM1.out.size)))
  | (go_at_call 106;(with_reducible refine (N3.out _ _ HT2.out).mono ?_);rintro e3 w3 ⟨rfl,ht3,hm3⟩;have HT3:=Lib.hid ht3;have HM3:=Lib.hid (HM2.out.trans (hm3.mono HM2.out.size));have x1:=(HM3.out.block w.heap.size (by simp) (by omega)).trans (heap_alloc_new w _);obtain ⟨⟨z0,z1,z2⟩,g0,g1,g2⟩:=three_of x1))
 refine bodyPost_ret (v:= .agg #[.int .i64 r1,.int .i64 r2,.bool r3]) (by simp [results,Tryz.results74,go_sem,z0,z1,z2]) rfl ?_;have hM:Moves w.heap.size bt w w3:=((Moves.refl _ _ _).alloc (Nat.le_refl _) _).trans (HM3.out.mono (by simp));refine ⟨rfl,?_,((hM.setCell (p:=⟨w.heap.size,0,none⟩) (.inl (Nat.le_refl _)) _).setCell (p:=⟨w.heap.size,1,none⟩) (.inl (Nat.le_refl _)) _).setCell (p:=⟨w.heap.size,2,none⟩) (.inl (Nat.le_refl _)) _⟩;have e:(f || !(s1 && (s2 && s3)))=(((f || !s1) || !s2) || !s3):=by cases f <;> cases s1 <;> cases s2 <;> cases s3 <;> rfl
 rw [e];exact ((HT3.out.other hlt _ _).other hlt _ _).other hlt _ _
theorem takeWay_any (w:World) {bt d:Nat} {c0 c1 c2 c3 c4 c5:Value} {j:J} {f:Bool} (h:Tk w bt d c0 c1 c2 c3 c4 c5 j f):
 Calls Tryz.prog 76 #[.pointer (some ⟨bt,0,none⟩)] w (NRet (stV (partT eidL j).1) w bt d c0 c1 c2 c3 c4 c5 j (f || !(partT eidL j).2)):=by
 have N1:=Lib.hid (fun (w':World) (f:Bool) (h:Tk w' bt d c0 c1 c2 c3 c4 c5 j f)=>needI_any eidL w' h);have N2:=Lib.hid (fun (w':World) (f:Bool) (h:Tk w' bt d c0 c1 c2 c3 c4 c5 j f)=>needI_any seqL w' h);have N3:=Lib.hid (fun (w':World) (f:Bool) (h:Tk w' bt d c0 c1 c2 c3 c4 c5 j f)=>needB_any relL w' h);have HT:=Lib.hid h;have hlt:=h.lt;unfold NRet at N1 N2 N3;unfold partT stV;simp only;generalize tellG (0:Int) numS j eidL=R1 at *;generalize tellG (0:Int) numS j seqL=R2 at *;generalize tellG false flagS j relL=R3 at *;obtain ⟨r1,s1⟩:=R1;obtain ⟨r2,s2⟩:=R2;obtain ⟨r3,s3⟩:=R3;unfold eidL at N1;unfold seqL at N2;unfold relL at N3;simp only at N1 N2 N3⊢;clear h
 go_enter Tryz.func76,Tryz.ntmps76
 go_wp2_with (first
  | (go_at_call 69;(with_reducible refine (N1.out _ _ (HT.out.below (belowOne _ _))).mono ?_);rintro e1 w1 ⟨rfl,ht1,hm1⟩;have HT1:=Lib.hid ht1;have HM1:=Lib.hid hm1)
  | (go_at_call 69;(with_reducible refine (N2.out _ _ HT1.out).mono ?_);rintro e2 w2 ⟨rfl,ht2,hm2⟩;have HT2:=Lib.hid ht2;have HM2:=Lib.hid (HM1.out.trans (hm2.mono HM1.out.size)))
  | (go_at_call 106;(with_reducible refine (N3.out _ _ HT2.out).mono ?_);rintro e3 w3 ⟨rfl,ht3,hm3⟩;have HT3:=Lib.hid ht3;have HM3:=Lib.hid (HM2.out.trans (hm3.mono HM2.out.size));have x1:=(HM3.out.block w.heap.size (by simp) (by omega)).trans (heap_alloc_new w _);obtain ⟨⟨z0,z1,z2⟩,g0,g1,g2⟩:=three_of x1))
 refine bodyPost_ret (v:= .agg #[.int .i64 r1,.int .i64 r2,.bool r3]) (by simp [results,Tryz.results76,go_sem,z0,z1,z2]) rfl ?_;have hM:Moves w.heap.size bt w w3:=((Moves.refl _ _ _).alloc (Nat.le_refl _) _).trans (HM3.out.mono (by simp));refine ⟨rfl,?_,((hM.setCell (p:=⟨w.heap.size,0,none⟩) (.inl (Nat.le_refl _)) _).setCell (p:=⟨w.heap.size,1,none⟩) (.inl (Nat.le_refl _)) _).setCell (p:=⟨w.heap.size,2,none⟩) (.inl (Nat.le_refl _)) _⟩;have e:(f || !(s1 && (s2 && s3)))=(((f || !s1) || !s2) || !s3):=by cases f <;> cases s1 <;> cases s2 <;> cases s3 <;> rfl
 rw [e];exact ((HT3.out.other hlt _ _).other hlt _ _).other hlt _ _
end Go.Proofs.YtclghelocglnlaaGreatDoor.Od
namespace Go.Proofs.YtclghelocglnlaaGreatDoor.Od
open Go.RowKit Js Lex
theorem allT_len {nm:List UInt8} {items:List J} {q:Nat} (h:q<=items.length):(allT nm (items.take q)).1.length=q:=by
 unfold allT;simp;omega
theorem tell_i64 (j:J) (nm:List UInt8):i64B (tellG 0 numS j nm).1:=by
 have z:i64B 0:=⟨by decide,by decide⟩;unfold tellG
 split
 ·exact z
 ·generalize j.is.getD (plc j nm).toNat j0=x;unfold numS
  split
  ·unfold Dec.intS Dec.raiseS
   split
   ·split
    ·rename_i h;simp only;exact ⟨by omega,by omega⟩
    ·exact z
   ·exact z
  ·exact z
theorem allT_good {nm:List UInt8} {items:List J}:∀x∈(allT nm items).1,goodS x:=fun x hx=>by
 unfold allT at hx;obtain ⟨y,_,rfl⟩:=List.mem_map.1 hx;exact ⟨tell_i64 y nm,tell_i64 y seqL⟩
structure TAStop (w1:World) (bt d:Nat) (c0 c1 c2 c3 c4 c5:Value) (j:J) (f:Bool) (items:List J) (q:Nat) (v:Value) (wr:World):Prop where
 mv:Moves w1.heap.size bt w1 wr
 tk:Tk wr bt d c0 c1 c2 c3 c4 c5 j (f || !(allT nidL (items.take q)).2)
 row:wr.ownsRow w1.heap.size 41 3 v (allT nidL (items.take q)).1.length (cellsS (allT nidL (items.take q)).1)
theorem takeAllS_any (nm:List UInt8) (w:World) {bt d:Nat} {c0 c1 c2 c3 c4 c5:Value} {j:J} {f:Bool} (h:Tk w bt d c0 c1 c2 c3 c4 c5 j f):
 Calls Tryz.prog 73 #[.pointer (some ⟨bt,0,none⟩),.string ⟨nm.toArray⟩,.func (.func 74) #[] #[]] w (fun e w'=>∃a c,e= .returned (.slice a (allT nidL (lsG j nm).1).1.length c)/\StsAt (fun b=>w.heap.size<=b) w' (.slice a (allT nidL (lsG j nm).1).1.length c) (allT nidL (lsG j nm).1).1/\
  Tk w' bt d c0 c1 c2 c3 c4 c5 j (f || !((lsG j nm).2 && (allT nidL (lsG j nm).1).2))/\Moves w.heap.size bt w w'):=by
 obtain ⟨i0,hi0,hz0,hz1,hz2⟩:=info_parts stop_info;have NL:=Lib.hid (needL_any nm w h);have HLEN:=Lib.hid (lsG_len h.jat nm);have hlt:=h.lt;unfold NLRet at NL;generalize lsG j nm=R at *;obtain ⟨items,ok⟩:=R;simp only at NL HLEN⊢;have hn:=HLEN.out;obtain ⟨n,HN⟩:∃n,Hid (items.length=n):=⟨_,rfl⟩;rw [HN.out] at NL hn;clear h HLEN
 go_enter Tryz.func73,Tryz.ntmps73
 go_wp2_with (go_at_call 104;(with_reducible refine (NL.out).mono ?_);rintro e1 w1 ⟨ai,ci,rfl,hc1,hI1,ht1,hm1⟩)
 have HIT:=Lib.hid hI1;have HM1:=Lib.hid hm1;have HT1:=Lib.hid ht1;have hsz1:=hm1.size;clear hI1 hm1 ht1 NL
 go_loopw [15,7] (fun i v wr=>∃q:Nat,q<=n/\i= .int .i64 q/\Hid (TAStop w1 bt d c0 c1 c2 c3 c4 c5 j (f || !ok) items q v wr)) (fun i _ _=>n - (intOf i).toNat)
 case atStart=>exact ⟨0,Nat.zero_le _,rfl,Moves.refl _ _ _,by simpa [allT] using HT1.out,by simpa [allT,cellsS] using World.ownsRow_nil _ _ _ _⟩
 case round=>
  obtain ⟨q,hq,rfl,HA⟩:=hrel;have hsr:=HA.out.mv.size;obtain ⟨L,HL⟩:∃L,Hid ((allT nidL (items.take q)).1=L):=⟨_,rfl⟩;obtain ⟨G,HG⟩:∃G,Hid ((allT nidL (items.take q)).2=G):=⟨_,rfl⟩;have HLQ:Hid (L.length=q):=by show _=_;rw [<-HL.out];exact allT_len (by rw [HN.out];exact hq)
  have hmv:=HA.out.mv;have htk:=HA.out.tk;have hrow:=HA.out.row;rw [HL.out] at hrow;rw [HG.out] at htk;obtain ⟨a,cap,rfl⟩:=own_slice hrow;have HMV:=Lib.hid hmv;have HTK:=Lib.hid htk;have HROW:=Lib.hid hrow;clear hmv htk hrow HA
  by_cases hlt:q < n
  ·obtain ⟨b,off,hai,hSb,hbl,hel⟩:=HIT.out (by rw [HN.out];omega);subst hai;obtain ⟨u,hu1,hu2⟩:=hel q (by rw [HN.out];exact hlt);obtain ⟨k3,m3,e3,t3,an3,nn3,cn3,ai3,ni3,ci3,rfl⟩:=jAt_form hu2;have hbt:b≠bt:=by have hSb':w.heap.size<=b:=hSb;omega
   obtain ⟨x0,x1,x2,x3,x4,x5⟩:=(hu1.keep (HMV.out.block b hbl hbt)).six;have hbr:b < wr.heap.size:=by omega
   have HJ:=Lib.hid (hu2.keep (S':=fun b=>b < wr.heap.size+1) (w':=wr) (fun b h1 h2=>by have h1':w.heap.size<=b:=h1;omega) (fun b h1 h2=>HMV.out.block b h2 (by have h1':w.heap.size<=b:=h1;omega)) hsr);have HAL:=Lib.hid (allT_take (nm:=nidL) (l:=items) (k:=q) (by rw [HN.out];exact hlt));rw [HL.out,HG.out] at HAL;have TS:=Lib.hid (fun (o:Obj)=>takeStop_any ((wr.alloc o).alloc (.cells #[.int .i64 k3,.int .i64 m3,.int .i64 e3,.string t3,.slice an3 nn3 cn3,.slice ai3 ni3 ci3,.bool false] 66)) (bt:=wr.heap.size+1) (f:=false) ⟨two_new _ _ _,HJ.out.below (belowTwo _ _ _) (Nat.le_refl _)⟩);unfold NRet stV at TS;generalize partT nidL (items.getD q j0)=P at *;obtain ⟨⟨pi,pq,pr⟩,pb⟩:=P;have i1:(q:Int) < (n:Int):=by omega
   obtain ⟨F,HF⟩:∃F,Hid ((f || !ok || !G)=F):=⟨_,rfl⟩;rw [HF.out] at HTK;simp only at TS;have HLN:L.length+1<=1599289640355:=by rw [HLQ.out];omega
   have hw1r:w1.heap.size<=wr.heap.size:=hsr;clear hel hu1 hu2 HIT HM1 HT1;have hrl:=Lib.hid (fun (k:Nat) (e:Value.ownBlock (.slice a L.length cap)=some k)=>(World.ownsRow.lt HROW.out k e))
   cases F <;> cases pb
   ·go_wp2_with (first
     | (go_at_call 74;(with_reducible refine (TS.out _).mono ?_);rintro e2 w2 ⟨rfl,ht2,hm2⟩;have HT2:=Lib.hid ht2;have HB2:=Lib.hid (show Below wr.heap.size wr w2 from (((((Moves.refl wr.heap.size (wr.heap.size+1) wr).alloc (Nat.le_refl _) _).alloc (by simp) _).trans (hm2.mono (by simp <;> omega))).below (by omega)));have HR2:=Lib.hid (row_keep HROW.out (fun g _ hl=>HB2.out.block g hl));have hs2:=HB2.out.size;have hl2:=HT2.out.lt)
     | (refine append_st rfl _ _ stop_info rfl Tryz.underlying22 rfl w1.heap.size _ L rfl (HR2.out.alloc _) _ _ rfl ⟨pi,pq,pr⟩ (heap_alloc_new _ _) HLN (by simp <;> omega) ?_;intro a' c' w3 hown3 hgrow3;have HO3:=Lib.hid hown3;have HG3:=Lib.hid hgrow3;have hs3:=hgrow3.size;have hne:=(fun (k:Nat) (e:some k=Value.ownBlock (.slice a L.length cap))=>(World.ownsRow.lt HROW.out k e.symm));have HT3:=Lib.hid (HTK.out.keep (w':=w3) (fun k hk=>(HG3.out.block k (by simp <;> omega) (fun e=>by have:=(hne k e).1;omega)).trans ((heap_alloc_old _ _ (by omega)).trans (HB2.out.block k (by omega)))) (by simp at hs3;omega));have hx6:=(World.cell?_of_block (w:=w2) (a:=⟨wr.heap.size+1,6,none⟩) ((HG3.out.block (wr.heap.size+1) (by simp <;> omega) (fun e=>by have:=(hne _ e).2;omega)).trans (heap_alloc_old _ _ hl2))).trans HT2.out.cells.1.2.2.2.2.2.2;obtain ⟨⟨y0,y1,y2,y3,y4,y5,y6⟩,fr⟩:=HT3.out.cells))
    go_roundw
    case rel=>
     refine ⟨q+1,by omega,by go_num,(((HMV.out.trans ((Moves.of_below HB2.out).mono hw1r)).alloc (by omega) _).grown HG3.out (by simp <;> omega) (fun k e=> .inl (hrl.out k e).1)).setCell (p:=⟨bt,6,none⟩) (.inr rfl) _,?_,?_⟩
     ·rw [HAL.out.2,show (f || !ok || !(G && false))=true by have h:=HF.out;revert h;cases f <;> cases ok <;> cases G <;> decide];exact HT3.out.set _
     ·rw [HAL.out.1];have hO:=HO3.out;rw [show L.length+1=(L++ [(⟨pi,pq,pr⟩:St)]).length by simp] at hO⊢;exact row_keep hO (fun g e hl=>heap_setCell_other _ _ _ _ (by have:=(World.ownsRow.lt hO g e).1;show g≠bt;omega))
    case measure=>simp [intOf];omega
   ·go_wp2_with (first
     | (go_at_call 74;(with_reducible refine (TS.out _).mono ?_);rintro e2 w2 ⟨rfl,ht2,hm2⟩;have HT2:=Lib.hid ht2;have HB2:=Lib.hid (show Below wr.heap.size wr w2 from (((((Moves.refl wr.heap.size (wr.heap.size+1) wr).alloc (Nat.le_refl _) _).alloc (by simp) _).trans (hm2.mono (by simp <;> omega))).below (by omega)));have HR2:=Lib.hid (row_keep HROW.out (fun g _ hl=>HB2.out.block g hl));have hs2:=HB2.out.size;have hl2:=HT2.out.lt)
     | (refine append_st rfl _ _ stop_info rfl Tryz.underlying22 rfl w1.heap.size _ L rfl (HR2.out.alloc _) _ _ rfl ⟨pi,pq,pr⟩ (heap_alloc_new _ _) HLN (by simp <;> omega) ?_;intro a' c' w3 hown3 hgrow3;have HO3:=Lib.hid hown3;have HG3:=Lib.hid hgrow3;have hs3:=hgrow3.size;have hne:=(fun (k:Nat) (e:some k=Value.ownBlock (.slice a L.length cap))=>(World.ownsRow.lt HROW.out k e.symm));have HT3:=Lib.hid (HTK.out.keep (w':=w3) (fun k hk=>(HG3.out.block k (by simp <;> omega) (fun e=>by have:=(hne k e).1;omega)).trans ((heap_alloc_old _ _ (by omega)).trans (HB2.out.block k (by omega)))) (by simp at hs3;omega));have hx6:=(World.cell?_of_block (w:=w2) (a:=⟨wr.heap.size+1,6,none⟩) ((HG3.out.block (wr.heap.size+1) (by simp <;> omega) (fun e=>by have:=(hne _ e).2;omega)).trans (heap_alloc_old _ _ hl2))).trans HT2.out.cells.1.2.2.2.2.2.2;obtain ⟨⟨y0,y1,y2,y3,y4,y5,y6⟩,fr⟩:=HT3.out.cells))
    go_roundw
    case rel=>
     refine ⟨q+1,by omega,by go_num,(((HMV.out.trans ((Moves.of_below HB2.out).mono hw1r)).alloc (by omega) _).grown HG3.out (by simp <;> omega) (fun k e=> .inl (hrl.out k e).1)).setCell (p:=⟨bt,6,none⟩) (.inr rfl) _,?_,?_⟩
     ·rw [HAL.out.2,show (f || !ok || !(G && true))=false by have h:=HF.out;revert h;cases f <;> cases ok <;> cases G <;> decide];exact HT3.out.set _
     ·rw [HAL.out.1];have hO:=HO3.out;rw [show L.length+1=(L++ [(⟨pi,pq,pr⟩:St)]).length by simp] at hO⊢;exact row_keep hO (fun g e hl=>heap_setCell_other _ _ _ _ (by have:=(World.ownsRow.lt hO g e).1;show g≠bt;omega))
    case measure=>simp [intOf];omega
   ·go_wp2_with (first
     | (go_at_call 74;(with_reducible refine (TS.out _).mono ?_);rintro e2 w2 ⟨rfl,ht2,hm2⟩;have HT2:=Lib.hid ht2;have HB2:=Lib.hid (show Below wr.heap.size wr w2 from (((((Moves.refl wr.heap.size (wr.heap.size+1) wr).alloc (Nat.le_refl _) _).alloc (by simp) _).trans (hm2.mono (by simp <;> omega))).below (by omega)));have HR2:=Lib.hid (row_keep HROW.out (fun g _ hl=>HB2.out.block g hl));have hs2:=HB2.out.size;have hl2:=HT2.out.lt)
     | (refine append_st rfl _ _ stop_info rfl Tryz.underlying22 rfl w1.heap.size _ L rfl (HR2.out.alloc _) _ _ rfl ⟨pi,pq,pr⟩ (heap_alloc_new _ _) HLN (by simp <;> omega) ?_;intro a' c' w3 hown3 hgrow3;have HO3:=Lib.hid hown3;have HG3:=Lib.hid hgrow3;have hs3:=hgrow3.size;have hne:=(fun (k:Nat) (e:some k=Value.ownBlock (.slice a L.length cap))=>(World.ownsRow.lt HROW.out k e.symm));have HT3:=Lib.hid (HTK.out.keep (w':=w3) (fun k hk=>(HG3.out.block k (by simp <;> omega) (fun e=>by have:=(hne k e).1;omega)).trans ((heap_alloc_old _ _ (by omega)).trans (HB2.out.block k (by omega)))) (by simp at hs3;omega));have hx6:=(World.cell?_of_block (w:=w2) (a:=⟨wr.heap.size+1,6,none⟩) ((HG3.out.block (wr.heap.size+1) (by simp <;> omega) (fun e=>by have:=(hne _ e).2;omega)).trans (heap_alloc_old _ _ hl2))).trans HT2.out.cells.1.2.2.2.2.2.2;obtain ⟨⟨y0,y1,y2,y3,y4,y5,y6⟩,fr⟩:=HT3.out.cells))
    go_roundw
    case rel=>
     refine ⟨q+1,by omega,by go_num,(((HMV.out.trans ((Moves.of_below HB2.out).mono hw1r)).alloc (by omega) _).grown HG3.out (by simp <;> omega) (fun k e=> .inl (hrl.out k e).1)).setCell (p:=⟨bt,6,none⟩) (.inr rfl) _,?_,?_⟩
     ·rw [HAL.out.2,show (f || !ok || !(G && false))=true by have h:=HF.out;revert h;cases f <;> cases ok <;> cases G <;> decide];exact HT3.out.set _
     ·rw [HAL.out.1];have hO:=HO3.out;rw [show L.length+1=(L++ [(⟨pi,pq,pr⟩:St)]).length by simp] at hO⊢;exact row_keep hO (fun g e hl=>heap_setCell_other _ _ _ _ (by have:=(World.ownsRow.lt hO g e).1;show g≠bt;omega))
    case measure=>simp [intOf];omega
   ·go_wp2_with (first
     | (go_at_call 74;(with_reducible refine (TS.out _).mono ?_);rintro e2 w2 ⟨rfl,ht2,hm2⟩;have HT2:=Lib.hid ht2;have HB2:=Lib.hid (show Below wr.heap.size wr w2 from (((((Moves.refl wr.heap.size (wr.heap.size+1) wr).alloc (Nat.le_refl _) _).alloc (by simp) _).trans (hm2.mono (by simp <;> omega))).below (by omega)));have HR2:=Lib.hid (row_keep HROW.out (fun g _ hl=>HB2.out.block g hl));have hs2:=HB2.out.size;have hl2:=HT2.out.lt)
     | (refine append_st rfl _ _ stop_info rfl Tryz.underlying22 rfl w1.heap.size _ L rfl (HR2.out.alloc _) _ _ rfl ⟨pi,pq,pr⟩ (heap_alloc_new _ _) HLN (by simp <;> omega) ?_;intro a' c' w3 hown3 hgrow3;have HO3:=Lib.hid hown3;have HG3:=Lib.hid hgrow3;have hs3:=hgrow3.size;have hne:=(fun (k:Nat) (e:some k=Value.ownBlock (.slice a L.length cap))=>(World.ownsRow.lt HROW.out k e.symm));have HT3:=Lib.hid (HTK.out.keep (w':=w3) (fun k hk=>(HG3.out.block k (by simp <;> omega) (fun e=>by have:=(hne k e).1;omega)).trans ((heap_alloc_old _ _ (by omega)).trans (HB2.out.block k (by omega)))) (by simp at hs3;omega));have hx6:=(World.cell?_of_block (w:=w2) (a:=⟨wr.heap.size+1,6,none⟩) ((HG3.out.block (wr.heap.size+1) (by simp <;> omega) (fun e=>by have:=(hne _ e).2;omega)).trans (heap_alloc_old _ _ hl2))).trans HT2.out.cells.1.2.2.2.2.2.2;obtain ⟨⟨y0,y1,y2,y3,y4,y5,y6⟩,fr⟩:=HT3.out.cells))
    go_roundw
    case rel=>
     refine ⟨q+1,by omega,by go_num,(((HMV.out.trans ((Moves.of_below HB2.out).mono hw1r)).alloc (by omega) _).grown HG3.out (by simp <;> omega) (fun k e=> .inl (hrl.out k e).1)).setCell (p:=⟨bt,6,none⟩) (.inr rfl) _,?_,?_⟩
     ·rw [HAL.out.2,show (f || !ok || !(G && true))=true by have h:=HF.out;revert h;cases f <;> cases ok <;> cases G <;> decide];exact HT3.out.set _
     ·rw [HAL.out.1];have hO:=HO3.out;rw [show L.length+1=(L++ [(⟨pi,pq,pr⟩:St)]).length by simp] at hO⊢;exact row_keep hO (fun g e hl=>heap_setCell_other _ _ _ _ (by have:=(World.ownsRow.lt hO g e).1;show g≠bt;omega))
    case measure=>simp [intOf];omega
  ·obtain rfl:q=n:=by omega
   have HE:Hid (items.take q=items):=List.take_of_length_le (by rw [HN.out];exact Nat.le_refl _);rw [HE.out] at HL HG
   have hS:StsAt (fun b=>w.heap.size<=b) wr (.slice a L.length cap) L:=(sts_own HROW.out (by rw [HLQ.out];omega) (fun x hx=>by
    rw [<-HL.out] at hx;exact allT_good x hx)).keep (fun b hb _=>by have hb':w1.heap.size<=b:=hb;show w.heap.size<=b;omega) (fun _ _ _=>rfl) (Nat.le_refl _)
   have e:(f || !(ok && G))=(f || !ok || !G):=by cases f <;> cases ok <;> cases G <;> rfl
   have HS:=Lib.hid hS;have HEE:=Lib.hid e;clear hS e
   go_wp2_with fail
   go_ret
   rw [HL.out,HG.out,HEE.out];exact ⟨a,cap,rfl,HS.out,HTK.out,HM1.out.trans (HMV.out.mono hsz1)⟩
structure TAWay (w1:World) (bt d:Nat) (c0 c1 c2 c3 c4 c5:Value) (j:J) (f:Bool) (items:List J) (q:Nat) (v:Value) (wr:World):Prop where
 mv:Moves w1.heap.size bt w1 wr
 tk:Tk wr bt d c0 c1 c2 c3 c4 c5 j (f || !(allT eidL (items.take q)).2)
 row:wr.ownsRow w1.heap.size 43 3 v (allT eidL (items.take q)).1.length (cellsS (allT eidL (items.take q)).1)
theorem takeAllW_any (nm:List UInt8) (w:World) {bt d:Nat} {c0 c1 c2 c3 c4 c5:Value} {j:J} {f:Bool} (h:Tk w bt d c0 c1 c2 c3 c4 c5 j f):
 Calls Tryz.prog 75 #[.pointer (some ⟨bt,0,none⟩),.string ⟨nm.toArray⟩,.func (.func 76) #[] #[]] w (fun e w'=>∃a c,e= .returned (.slice a (allT eidL (lsG j nm).1).1.length c)/\StsAt (fun b=>w.heap.size<=b) w' (.slice a (allT eidL (lsG j nm).1).1.length c) (allT eidL (lsG j nm).1).1/\
  Tk w' bt d c0 c1 c2 c3 c4 c5 j (f || !((lsG j nm).2 && (allT eidL (lsG j nm).1).2))/\Moves w.heap.size bt w w'):=by
 obtain ⟨i0,hi0,hz0,hz1,hz2⟩:=info_parts way_info;have NL:=Lib.hid (needL_any nm w h);have HLEN:=Lib.hid (lsG_len h.jat nm);have hlt:=h.lt;unfold NLRet at NL;generalize lsG j nm=R at *;obtain ⟨items,ok⟩:=R;simp only at NL HLEN⊢;have hn:=HLEN.out;obtain ⟨n,HN⟩:∃n,Hid (items.length=n):=⟨_,rfl⟩;rw [HN.out] at NL hn;clear h HLEN
 go_enter Tryz.func75,Tryz.ntmps75
 go_wp2_with (go_at_call 104;(with_reducible refine (NL.out).mono ?_);rintro e1 w1 ⟨ai,ci,rfl,hc1,hI1,ht1,hm1⟩)
 have HIT:=Lib.hid hI1;have HM1:=Lib.hid hm1;have HT1:=Lib.hid ht1;have hsz1:=hm1.size;clear hI1 hm1 ht1 NL
 go_loopw [15,7] (fun i v wr=>∃q:Nat,q<=n/\i= .int .i64 q/\Hid (TAWay w1 bt d c0 c1 c2 c3 c4 c5 j (f || !ok) items q v wr)) (fun i _ _=>n - (intOf i).toNat)
 case atStart=>exact ⟨0,Nat.zero_le _,rfl,Moves.refl _ _ _,by simpa [allT] using HT1.out,by simpa [allT,cellsS] using World.ownsRow_nil _ _ _ _⟩
 case round=>
  obtain ⟨q,hq,rfl,HA⟩:=hrel;have hsr:=HA.out.mv.size;obtain ⟨L,HL⟩:∃L,Hid ((allT eidL (items.take q)).1=L):=⟨_,rfl⟩;obtain ⟨G,HG⟩:∃G,Hid ((allT eidL (items.take q)).2=G):=⟨_,rfl⟩;have HLQ:Hid (L.length=q):=by show _=_;rw [<-HL.out];exact allT_len (by rw [HN.out];exact hq)
  have hmv:=HA.out.mv;have htk:=HA.out.tk;have hrow:=HA.out.row;rw [HL.out] at hrow;rw [HG.out] at htk;obtain ⟨a,cap,rfl⟩:=own_slice hrow;have HMV:=Lib.hid hmv;have HTK:=Lib.hid htk;have HROW:=Lib.hid hrow;clear hmv htk hrow HA
  by_cases hlt:q < n
  ·obtain ⟨b,off,hai,hSb,hbl,hel⟩:=HIT.out (by rw [HN.out];omega);subst hai;obtain ⟨u,hu1,hu2⟩:=hel q (by rw [HN.out];exact hlt);obtain ⟨k3,m3,e3,t3,an3,nn3,cn3,ai3,ni3,ci3,rfl⟩:=jAt_form hu2;have hbt:b≠bt:=by have hSb':w.heap.size<=b:=hSb;omega
   obtain ⟨x0,x1,x2,x3,x4,x5⟩:=(hu1.keep (HMV.out.block b hbl hbt)).six;have hbr:b < wr.heap.size:=by omega
   have HJ:=Lib.hid (hu2.keep (S':=fun b=>b < wr.heap.size+1) (w':=wr) (fun b h1 h2=>by have h1':w.heap.size<=b:=h1;omega) (fun b h1 h2=>HMV.out.block b h2 (by have h1':w.heap.size<=b:=h1;omega)) hsr);have HAL:=Lib.hid (allT_take (nm:=eidL) (l:=items) (k:=q) (by rw [HN.out];exact hlt));rw [HL.out,HG.out] at HAL;have TS:=Lib.hid (fun (o:Obj)=>takeWay_any ((wr.alloc o).alloc (.cells #[.int .i64 k3,.int .i64 m3,.int .i64 e3,.string t3,.slice an3 nn3 cn3,.slice ai3 ni3 ci3,.bool false] 66)) (bt:=wr.heap.size+1) (f:=false) ⟨two_new _ _ _,HJ.out.below (belowTwo _ _ _) (Nat.le_refl _)⟩);unfold NRet stV at TS;generalize partT eidL (items.getD q j0)=P at *;obtain ⟨⟨pi,pq,pr⟩,pb⟩:=P;have i1:(q:Int) < (n:Int):=by omega
   obtain ⟨F,HF⟩:∃F,Hid ((f || !ok || !G)=F):=⟨_,rfl⟩;rw [HF.out] at HTK;simp only at TS;have HLN:L.length+1<=1599289640355:=by rw [HLQ.out];omega
   have hw1r:w1.heap.size<=wr.heap.size:=hsr;clear hel hu1 hu2 HIT HM1 HT1;have hrl:=Lib.hid (fun (k:Nat) (e:Value.ownBlock (.slice a L.length cap)=some k)=>(World.ownsRow.lt HROW.out k e))
   cases F <;> cases pb
   ·go_wp2_with (first
     | (go_at_call 76;(with_reducible refine (TS.out _).mono ?_);rintro e2 w2 ⟨rfl,ht2,hm2⟩;have HT2:=Lib.hid ht2;have HB2:=Lib.hid (show Below wr.heap.size wr w2 from (((((Moves.refl wr.heap.size (wr.heap.size+1) wr).alloc (Nat.le_refl _) _).alloc (by simp) _).trans (hm2.mono (by simp <;> omega))).below (by omega)));have HR2:=Lib.hid (row_keep HROW.out (fun g _ hl=>HB2.out.block g hl));have hs2:=HB2.out.size;have hl2:=HT2.out.lt)
     | (refine append_st rfl _ _ way_info rfl Tryz.underlying23 rfl w1.heap.size _ L rfl (HR2.out.alloc _) _ _ rfl ⟨pi,pq,pr⟩ (heap_alloc_new _ _) HLN (by simp <;> omega) ?_;intro a' c' w3 hown3 hgrow3;have HO3:=Lib.hid hown3;have HG3:=Lib.hid hgrow3;have hs3:=hgrow3.size;have hne:=(fun (k:Nat) (e:some k=Value.ownBlock (.slice a L.length cap))=>(World.ownsRow.lt HROW.out k e.symm));have HT3:=Lib.hid (HTK.out.keep (w':=w3) (fun k hk=>(HG3.out.block k (by simp <;> omega) (fun e=>by have:=(hne k e).1;omega)).trans ((heap_alloc_old _ _ (by omega)).trans (HB2.out.block k (by omega)))) (by simp at hs3;omega));have hx6:=(World.cell?_of_block (w:=w2) (a:=⟨wr.heap.size+1,6,none⟩) ((HG3.out.block (wr.heap.size+1) (by simp <;> omega) (fun e=>by have:=(hne _ e).2;omega)).trans (heap_alloc_old _ _ hl2))).trans HT2.out.cells.1.2.2.2.2.2.2;obtain ⟨⟨y0,y1,y2,y3,y4,y5,y6⟩,fr⟩:=HT3.out.cells))
    go_roundw
    case rel=>
     refine ⟨q+1,by omega,by go_num,(((HMV.out.trans ((Moves.of_below HB2.out).mono hw1r)).alloc (by omega) _).grown HG3.out (by simp <;> omega) (fun k e=> .inl (hrl.out k e).1)).setCell (p:=⟨bt,6,none⟩) (.inr rfl) _,?_,?_⟩
     ·rw [HAL.out.2,show (f || !ok || !(G && false))=true by have h:=HF.out;revert h;cases f <;> cases ok <;> cases G <;> decide];exact HT3.out.set _
     ·rw [HAL.out.1];have hO:=HO3.out;rw [show L.length+1=(L++ [(⟨pi,pq,pr⟩:St)]).length by simp] at hO⊢;exact row_keep hO (fun g e hl=>heap_setCell_other _ _ _ _ (by have:=(World.ownsRow.lt hO g e).1;show g≠bt;omega))
    case measure=>simp [intOf];omega
   ·go_wp2_with (first
     | (go_at_call 76;(with_reducible refine (TS.out _).mono ?_);rintro e2 w2 ⟨rfl,ht2,hm2⟩;have HT2:=Lib.hid ht2;have HB2:=Lib.hid (show Below wr.heap.size wr w2 from (((((Moves.refl wr.heap.size (wr.heap.size+1) wr).alloc (Nat.le_refl _) _).alloc (by simp) _).trans (hm2.mono (by simp <;> omega))).below (by omega)));have HR2:=Lib.hid (row_keep HROW.out (fun g _ hl=>HB2.out.block g hl));have hs2:=HB2.out.size;have hl2:=HT2.out.lt)
     | (refine append_st rfl _ _ way_info rfl Tryz.underlying23 rfl w1.heap.size _ L rfl (HR2.out.alloc _) _ _ rfl ⟨pi,pq,pr⟩ (heap_alloc_new _ _) HLN (by simp <;> omega) ?_;intro a' c' w3 hown3 hgrow3;have HO3:=Lib.hid hown3;have HG3:=Lib.hid hgrow3;have hs3:=hgrow3.size;have hne:=(fun (k:Nat) (e:some k=Value.ownBlock (.slice a L.length cap))=>(World.ownsRow.lt HROW.out k e.symm));have HT3:=Lib.hid (HTK.out.keep (w':=w3) (fun k hk=>(HG3.out.block k (by simp <;> omega) (fun e=>by have:=(hne k e).1;omega)).trans ((heap_alloc_old _ _ (by omega)).trans (HB2.out.block k (by omega)))) (by simp at hs3;omega));have hx6:=(World.cell?_of_block (w:=w2) (a:=⟨wr.heap.size+1,6,none⟩) ((HG3.out.block (wr.heap.size+1) (by simp <;> omega) (fun e=>by have:=(hne _ e).2;omega)).trans (heap_alloc_old _ _ hl2))).trans HT2.out.cells.1.2.2.2.2.2.2;obtain ⟨⟨y0,y1,y2,y3,y4,y5,y6⟩,fr⟩:=HT3.out.cells))
    go_roundw
    case rel=>
     refine ⟨q+1,by omega,by go_num,(((HMV.out.trans ((Moves.of_below HB2.out).mono hw1r)).alloc (by omega) _).grown HG3.out (by simp <;> omega) (fun k e=> .inl (hrl.out k e).1)).setCell (p:=⟨bt,6,none⟩) (.inr rfl) _,?_,?_⟩
     ·rw [HAL.out.2,show (f || !ok || !(G && true))=false by have h:=HF.out;revert h;cases f <;> cases ok <;> cases G <;> decide];exact HT3.out.set _
     ·rw [HAL.out.1];have hO:=HO3.out;rw [show L.length+1=(L++ [(⟨pi,pq,pr⟩:St)]).length by simp] at hO⊢;exact row_keep hO (fun g e hl=>heap_setCell_other _ _ _ _ (by have:=(World.ownsRow.lt hO g e).1;show g≠bt;omega))
    case measure=>simp [intOf];omega
   ·go_wp2_with (first
     | (go_at_call 76;(with_reducible refine (TS.out _).mono ?_);rintro e2 w2 ⟨rfl,ht2,hm2⟩;have HT2:=Lib.hid ht2;have HB2:=Lib.hid (show Below wr.heap.size wr w2 from (((((Moves.refl wr.heap.size (wr.heap.size+1) wr).alloc (Nat.le_refl _) _).alloc (by simp) _).trans (hm2.mono (by simp <;> omega))).below (by omega)));have HR2:=Lib.hid (row_keep HROW.out (fun g _ hl=>HB2.out.block g hl));have hs2:=HB2.out.size;have hl2:=HT2.out.lt)
     | (refine append_st rfl _ _ way_info rfl Tryz.underlying23 rfl w1.heap.size _ L rfl (HR2.out.alloc _) _ _ rfl ⟨pi,pq,pr⟩ (heap_alloc_new _ _) HLN (by simp <;> omega) ?_;intro a' c' w3 hown3 hgrow3;have HO3:=Lib.hid hown3;have HG3:=Lib.hid hgrow3;have hs3:=hgrow3.size;have hne:=(fun (k:Nat) (e:some k=Value.ownBlock (.slice a L.length cap))=>(World.ownsRow.lt HROW.out k e.symm));have HT3:=Lib.hid (HTK.out.keep (w':=w3) (fun k hk=>(HG3.out.block k (by simp <;> omega) (fun e=>by have:=(hne k e).1;omega)).trans ((heap_alloc_old _ _ (by omega)).trans (HB2.out.block k (by omega)))) (by simp at hs3;omega));have hx6:=(World.cell?_of_block (w:=w2) (a:=⟨wr.heap.size+1,6,none⟩) ((HG3.out.block (wr.heap.size+1) (by simp <;> omega) (fun e=>by have:=(hne _ e).2;omega)).trans (heap_alloc_old _ _ hl2))).trans HT2.out.cells.1.2.2.2.2.2.2;obtain ⟨⟨y0,y1,y2,y3,y4,y5,y6⟩,fr⟩:=HT3.out.cells))
    go_roundw
    case rel=>
     refine ⟨q+1,by omega,by go_num,(((HMV.out.trans ((Moves.of_below HB2.out).mono hw1r)).alloc (by omega) _).grown HG3.out (by simp <;> omega) (fun k e=> .inl (hrl.out k e).1)).setCell (p:=⟨bt,6,none⟩) (.inr rfl) _,?_,?_⟩
     ·rw [HAL.out.2,show (f || !ok || !(G && false))=true by have h:=HF.out;revert h;cases f <;> cases ok <;> cases G <;> decide];exact HT3.out.set _
     ·rw [HAL.out.1];have hO:=HO3.out;rw [show L.length+1=(L++ [(⟨pi,pq,pr⟩:St)]).length by simp] at hO⊢;exact row_keep hO (fun g e hl=>heap_setCell_other _ _ _ _ (by have:=(World.ownsRow.lt hO g e).1;show g≠bt;omega))
    case measure=>simp [intOf];omega
   ·go_wp2_with (first
     | (go_at_call 76;(with_reducible refine (TS.out _).mono ?_);rintro e2 w2 ⟨rfl,ht2,hm2⟩;have HT2:=Lib.hid ht2;have HB2:=Lib.hid (show Below wr.heap.size wr w2 from (((((Moves.refl wr.heap.size (wr.heap.size+1) wr).alloc (Nat.le_refl _) _).alloc (by simp) _).trans (hm2.mono (by simp <;> omega))).below (by omega)));have HR2:=Lib.hid (row_keep HROW.out (fun g _ hl=>HB2.out.block g hl));have hs2:=HB2.out.size;have hl2:=HT2.out.lt)
     | (refine append_st rfl _ _ way_info rfl Tryz.underlying23 rfl w1.heap.size _ L rfl (HR2.out.alloc _) _ _ rfl ⟨pi,pq,pr⟩ (heap_alloc_new _ _) HLN (by simp <;> omega) ?_;intro a' c' w3 hown3 hgrow3;have HO3:=Lib.hid hown3;have HG3:=Lib.hid hgrow3;have hs3:=hgrow3.size;have hne:=(fun (k:Nat) (e:some k=Value.ownBlock (.slice a L.length cap))=>(World.ownsRow.lt HROW.out k e.symm));have HT3:=Lib.hid (HTK.out.keep (w':=w3) (fun k hk=>(HG3.out.block k (by simp <;> omega) (fun e=>by have:=(hne k e).1;omega)).trans ((heap_alloc_old _ _ (by omega)).trans (HB2.out.block k (by omega)))) (by simp at hs3;omega));have hx6:=(World.cell?_of_block (w:=w2) (a:=⟨wr.heap.size+1,6,none⟩) ((HG3.out.block (wr.heap.size+1) (by simp <;> omega) (fun e=>by have:=(hne _ e).2;omega)).trans (heap_alloc_old _ _ hl2))).trans HT2.out.cells.1.2.2.2.2.2.2;obtain ⟨⟨y0,y1,y2,y3,y4,y5,y6⟩,fr⟩:=HT3.out.cells))
    go_roundw
    case rel=>
     refine ⟨q+1,by omega,by go_num,(((HMV.out.trans ((Moves.of_below HB2.out).mono hw1r)).alloc (by omega) _).grown HG3.out (by simp <;> omega) (fun k e=> .inl (hrl.out k e).1)).setCell (p:=⟨bt,6,none⟩) (.inr rfl) _,?_,?_⟩
     ·rw [HAL.out.2,show (f || !ok || !(G && true))=true by have h:=HF.out;revert h;cases f <;> cases ok <;> cases G <;> decide];exact HT3.out.set _
     ·rw [HAL.out.1];have hO:=HO3.out;rw [show L.length+1=(L++ [(⟨pi,pq,pr⟩:St)]).length by simp] at hO⊢;exact row_keep hO (fun g e hl=>heap_setCell_other _ _ _ _ (by have:=(World.ownsRow.lt hO g e).1;show g≠bt;omega))
    case measure=>simp [intOf];omega
  ·obtain rfl:q=n:=by omega
   have HE:Hid (items.take q=items):=List.take_of_length_le (by rw [HN.out];exact Nat.le_refl _);rw [HE.out] at HL HG
   have hS:StsAt (fun b=>w.heap.size<=b) wr (.slice a L.length cap) L:=(sts_own HROW.out (by rw [HLQ.out];omega) (fun x hx=>by
    rw [<-HL.out] at hx;exact allT_good x hx)).keep (fun b hb _=>by have hb':w1.heap.size<=b:=hb;show w.heap.size<=b;omega) (fun _ _ _=>rfl) (Nat.le_refl _)
   have e:(f || !(ok && G))=(f || !ok || !G):=by cases f <;> cases ok <;> cases G <;> rfl
   have HS:=Lib.hid hS;have HEE:=Lib.hid e;clear hS e
   go_wp2_with fail
   go_ret
   rw [HL.out,HG.out,HEE.out];exact ⟨a,cap,rfl,HS.out,HTK.out,HM1.out.trans (HMV.out.mono hsz1)⟩
end Go.Proofs.YtclghelocglnlaaGreatDoor.Od
namespace Go.Proofs.YtclghelocglnlaaGreatDoor.Od
open Go.RowKit Js Lex
theorem tell_txt {S:Nat->Prop} {w:World} {d:Nat} {v:Value} {j:J} (h:JAt S w d v j) (nm:List UInt8):txtB (tellG [] txtS j nm).1:=by
 have z:txtB []:=by unfold txtB;simp
 unfold tellG
 by_cases hp:plc j nm < 0
 ·rw [if_pos hp];exact z
 ·rw [if_neg hp];have hB:=plc_lt j nm;obtain ⟨k,m,e,t,ns,is⟩:=j;obtain ⟨d',an,cn,ai,ci,hd',rfl,_,_,_,_,_,hn1,hn,hi1,hi,hit⟩:=h.open_;obtain ⟨b,off,y0,y1,y2,y3,y4,y5,rfl,hbl,hl,hJ⟩:=item_at hit (by omega) hB.2;change txtB (txtS (is.getD _ j0)).1;generalize is.getD (plc (J.mk k m e t ns is) nm).toNat j0=y at *;unfold txtS
  split
  ·obtain ⟨k',m',e',t',ns',is'⟩:=y;obtain ⟨_,_,_,_,_,_,_,_,_,_,ht,_⟩:=hJ.open_;exact ht
  ·exact z
theorem takeOrder_any (w:World) {bt d:Nat} {c0 c1 c2 c3 c4 c5:Value} {j:J} {f:Bool} (h:Tk w bt d c0 c1 c2 c3 c4 c5 j f):
 Calls Tryz.prog 38 #[.pointer (some ⟨bt,0,none⟩)] w (fun e w'=>∃v,e= .returned v/\OAt (fun b=>w.heap.size<=b) w' v (toldT j).1/\Tk w' bt d c0 c1 c2 c3 c4 c5 j (f || !(toldT j).2)/\Moves w.heap.size bt w w'):=by
 have N1:=Lib.hid (fun (w':World) (f:Bool) (h:Tk w' bt d c0 c1 c2 c3 c4 c5 j f)=>needI_any hdrL w' h);have N2:=Lib.hid (fun (w':World) (f:Bool) (h:Tk w' bt d c0 c1 c2 c3 c4 c5 j f)=>needS_any serL w' h);have N3:=Lib.hid (fun (w':World) (f:Bool) (h:Tk w' bt d c0 c1 c2 c3 c4 c5 j f)=>needI_any ordL w' h);have N4:=Lib.hid (fun (w':World) (f:Bool) (h:Tk w' bt d c0 c1 c2 c3 c4 c5 j f)=>needI_any updL w' h);have N5:=Lib.hid (fun (w':World) (f:Bool) (h:Tk w' bt d c0 c1 c2 c3 c4 c5 j f)=>takeAllS_any nodL w' h);have N6:=Lib.hid (fun (w':World) (f:Bool) (h:Tk w' bt d c0 c1 c2 c3 c4 c5 j f)=>takeAllW_any edgL w' h);have HI:=Lib.hid (And.intro (tell_i64 j hdrL) (And.intro (tell_i64 j ordL) (And.intro (tell_i64 j updL) (tell_txt h.jat serL))));have HT:=Lib.hid h;have hlt:=h.lt;unfold NRet at N1 N2 N3 N4;unfold toldT;simp only;generalize tellG (0:Int) numS j hdrL=R1 at *;generalize tellG ([]:List UInt8) txtS j serL=R2 at *;generalize tellG (0:Int) numS j ordL=R3 at *;generalize tellG (0:Int) numS j updL=R4 at *;generalize (lsG j nodL).2=a5 at *;generalize (lsG j edgL).2=a6 at *;generalize allT nidL (lsG j nodL).1=A5 at *;generalize allT eidL (lsG j edgL).1=A6 at *;obtain ⟨r1,s1⟩:=R1;obtain ⟨r2,s2⟩:=R2;obtain ⟨r3,s3⟩:=R3;obtain ⟨r4,s4⟩:=R4;obtain ⟨ns,s5⟩:=A5;obtain ⟨es,s6⟩:=A6;unfold hdrL at N1;unfold serL at N2;unfold ordL at N3;unfold updL at N4;unfold nodL at N5;unfold edgL at N6;simp only at N1 N2 N3 N4 N5 N6 HI⊢;clear h
 go_enter Tryz.func38,Tryz.ntmps38
 go_wp2_with (first
  | (go_at_call 69;(with_reducible refine (N1.out _ _ (HT.out.below (belowOne _ _))).mono ?_);rintro e1 w1 ⟨rfl,ht1,hm1⟩;have HT1:=Lib.hid ht1;have HM1:=Lib.hid hm1)
  | (go_at_call 71;(with_reducible refine (N2.out _ _ HT1.out).mono ?_);rintro e2 w2 ⟨rfl,ht2,hm2⟩;have HT2:=Lib.hid ht2;have HM2:=Lib.hid (HM1.out.trans (hm2.mono HM1.out.size)))
  | (go_at_call 69;(with_reducible refine (N3.out _ _ HT2.out).mono ?_);rintro e3 w3 ⟨rfl,ht3,hm3⟩;have HT3:=Lib.hid ht3;have HM3:=Lib.hid (HM2.out.trans (hm3.mono HM2.out.size)))
  | (go_at_call 69;(with_reducible refine (N4.out _ _ HT3.out).mono ?_);rintro e4 w4 ⟨rfl,ht4,hm4⟩;have HT4:=Lib.hid ht4;have HM4:=Lib.hid (HM3.out.trans (hm4.mono HM3.out.size)))
  | (go_at_call 73;(with_reducible refine (N5.out _ _ HT4.out).mono ?_);rintro e5 w5 ⟨a7,q7,rfl,hs5,ht5,hm5⟩;have HT5:=Lib.hid ht5;have HM5:=Lib.hid (HM4.out.trans (hm5.mono HM4.out.size));have HS5:=Lib.hid hs5)
  | (go_at_call 75;(with_reducible refine (N6.out _ _ HT5.out).mono ?_);rintro e6 w6 ⟨a8,q8,rfl,hs6,ht6,hm6⟩;have HT6:=Lib.hid ht6;have HM6:=Lib.hid (HM5.out.trans (hm6.mono HM5.out.size));have HS6:=Lib.hid hs6;have HMM:=Lib.hid hm6;have x1:=(HM6.out.block w.heap.size (by simp) (by omega)).trans (heap_alloc_new w _);obtain ⟨⟨z0,z1,z2,z3,z4,z5⟩,g0,g1,g2,g3,g4,g5⟩:=twelve_of x1))
 refine bodyPost_ret (v:= .agg #[.int .i64 r1,.string ⟨r2.toArray⟩,.int .i64 r3,.int .i64 r4,.slice a7 ns.length q7,.slice a8 es.length q8]) (by simp [results,Tryz.results38,go_sem,z0,z1,z2,z3,z4,z5]) rfl ?_;have hM:Moves w.heap.size bt w w6:=((Moves.refl _ _ _).alloc (Nat.le_refl _) _).trans (HM6.out.mono (by simp));have s4z:w.heap.size+1<=w4.heap.size:=by have:=HM4.out.size;simpa using this
 have s45:w4.heap.size<=w5.heap.size:=by
  have:=HM5.out.size;exact hm5.size
 obtain ⟨i1,i2,i3,i4⟩:=HI.out;refine ⟨_,rfl,⟨_,_,rfl,i1,by unfold txtB at i4;simp only;omega,i2,i3,?_,?_⟩,?_,?_⟩
 ·refine (HS5.out.keep (S':=fun b=>w4.heap.size<=b) (w':=w6) (fun _ h _=>h) (fun b hb hl=>HMM.out.block b hl (by have hb':w4.heap.size<=b:=hb;omega)) HMM.out.size).keep (fun b hb _=>by have hb':w4.heap.size<=b:=hb;show w.heap.size<=b;omega) (fun b hb _=>put6_block w6 w.heap.size 0 _ _ _ _ _ _ b (by have hb':w4.heap.size<=b:=hb;omega)) (by rw [show∀(u0 u1 u2 u3 u4 u5:Value),((((((w6.setCell ⟨w.heap.size,0,none⟩ u0).setCell ⟨w.heap.size,1,none⟩ u1).setCell ⟨w.heap.size,2,none⟩ u2).setCell ⟨w.heap.size,3,none⟩ u3).setCell ⟨w.heap.size,4,none⟩ u4).setCell ⟨w.heap.size,5,none⟩ u5).heap.size=w6.heap.size from fun u0 u1 u2 u3 u4 u5=>put6_size w6 w.heap.size 0 u0 u1 u2 u3 u4 u5];exact Nat.le_refl _)
 ·refine HS6.out.keep (fun b hb _=>by have hb':w5.heap.size<=b:=hb;show w.heap.size<=b;omega) (fun b hb _=>put6_block w6 w.heap.size 0 _ _ _ _ _ _ b (by have hb':w5.heap.size<=b:=hb;omega)) (by rw [show∀(u0 u1 u2 u3 u4 u5:Value),((((((w6.setCell ⟨w.heap.size,0,none⟩ u0).setCell ⟨w.heap.size,1,none⟩ u1).setCell ⟨w.heap.size,2,none⟩ u2).setCell ⟨w.heap.size,3,none⟩ u3).setCell ⟨w.heap.size,4,none⟩ u4).setCell ⟨w.heap.size,5,none⟩ u5).heap.size=w6.heap.size from fun u0 u1 u2 u3 u4 u5=>put6_size w6 w.heap.size 0 u0 u1 u2 u3 u4 u5];exact Nat.le_refl _)
 ·have e:(f || !(s1 && (s2 && (s3 && (s4 && (a5 && s5 && (a6 && s6)))))))=((((((f || !s1) || !s2) || !s3) || !s4) || !(a5 && s5)) || !(a6 && s6)):=by
   cases f <;> cases s1 <;> cases s2 <;> cases s3 <;> cases s4 <;> cases a5 <;> cases s5 <;> cases a6 <;> cases s6 <;> rfl
  rw [e];exact (((((HT6.out.other hlt _ _).other hlt _ _).other hlt _ _).other hlt _ _).other hlt _ _).other hlt _ _
 ·exact (((((hM.setCell (p:=⟨w.heap.size,0,none⟩) (.inl (Nat.le_refl _)) _).setCell (p:=⟨w.heap.size,1,none⟩) (.inl (Nat.le_refl _)) _).setCell (p:=⟨w.heap.size,2,none⟩) (.inl (Nat.le_refl _)) _).setCell (p:=⟨w.heap.size,3,none⟩) (.inl (Nat.le_refl _)) _).setCell (p:=⟨w.heap.size,4,none⟩) (.inl (Nat.le_refl _)) _).setCell (p:=⟨w.heap.size,5,none⟩) (.inl (Nat.le_refl _)) _
def TRet (w:World) (r:Int×Option O) (e:Ending) (w':World):Prop:=
 ∃v,e= .returned (.tuple #[v,.int .i64 r.1])/\OAt Any w' v (r.2.getD o0)/\Below w.heap.size w w'
theorem put6_is (w:World) (g:Nat) (u0 u1 u2 u3 u4 u5:Value):((((((w.setCell ⟨g,0,none⟩ u0).setCell ⟨g,1,none⟩ u1).setCell ⟨g,2,none⟩ u2).setCell ⟨g,3,none⟩ u3).setCell ⟨g,4,none⟩ u4).setCell ⟨g,5,none⟩ u5)=put6 w g 0 u0 u1 u2 u3 u4 u5:=by
 unfold put6;simp
theorem tret_fin {w w1:World} {r:Int×Option O} {v:Value} {bres:Nat} (hB:Below w.heap.size w w1) (h1:w.heap.size<=bres) (hO:OAt (fun b=>b≠bres) w1 v (r.2.getD o0)) (u0 u1 u2 u3 u4 u5:Value):
 TRet w r (.returned (.tuple #[v,.int .i64 r.1])) (put6 w1 bres 0 u0 u1 u2 u3 u4 u5):=
 ⟨v,rfl,hO.keep (fun _ _ _=>trivial) (fun b hb _=>put6_block w1 bres 0 _ _ _ _ _ _ b hb) (by rw [put6_size];exact Nat.le_refl _),below_put6' hB h1 _ _ _ _ _ _⟩
theorem Take_any (s:List UInt8) (w:World) (hs:s.length<=281474976710656):Calls Tryz.prog 16 #[.string ⟨s.toArray⟩] w (TRet w (takeS Tp.nameB s)):=by
 cases hO:Se.openS s with
 | none=>
   have OP:=Lib.hid (fun (w':World)=>Se.open_none hO w' hs);rw [show takeS Tp.nameB s=(60,none) by unfold takeS;rw [hO]]
   go_enter Tryz.func16,Tryz.ntmps16
   go_wp2_with (go_at_call 36;(with_reducible refine (OP.out _).mono ?_);rintro e1 w1 ⟨rfl,hb1⟩;have x1:=(hb1.block _ (by simp)).trans (heap_alloc_new w _);obtain ⟨⟨z0,z1,z2,z3,z4,z5⟩,g0,g1,g2,g3,g4,g5⟩:=twelve_of x1)
   refine bodyPost_ret (v:= .tuple #[.agg #[.int .i64 0,.string ⟨#[]⟩,.int .i64 0,.int .i64 0,.slice none 0 0,.slice none 0 0],.int .i64 60]) (by simp [results,Tryz.results16,go_sem,z0,z1,z2,z3,z4,z5]) rfl ?_;rw [put6_is];exact tret_fin (r:=(60,none)) ((belowOne w _).trans (hb1.mono (by simp))) (Nat.le_refl _) o0_at _ _ _ _ _ _
 | some t=>
   have htl:t.length<=281474976710656:=by
    have:=Se.seal_open hO;have:=congrArg List.length this;rw [Se.sealS_len] at this
    omega
   have OP:=Lib.hid (fun (w':World)=>Se.open_some hO w' hs);have PA:=Lib.hid (fun (w':World)=>parse_any t w' (by unfold maxLen;omega))
   have HTS:Hid (takeS Tp.nameB s=if (parseS t).1=0 then (match takeJ Tp.nameB (parseS t).2.1 with | some x=>(0,some x) | none=>(80,none)) else ((parseS t).1,none)):=by
    show _=_;unfold takeS;rw [hO];rfl
   rw [HTS.out];unfold ParseRet at PA;generalize parseS t=P at *;obtain ⟨pe,j,pq⟩:=P;simp only at PA⊢;clear HTS hO hs htl
   by_cases hpe:pe=0
   ·subst hpe;rw [if_pos rfl,take_told];have TKO:=Lib.hid (fun (w':World) (bt d:Nat) (c0 c1 c2 c3 c4 c5:Value) (h:Tk w' bt d c0 c1 c2 c3 c4 c5 j false)=>takeOrder_any w' h);generalize toldT j=T at *;obtain ⟨x,F⟩:=T;simp only at TKO⊢;obtain ⟨RR,hRR⟩:∃r,rightO Tp.nameB x=r:=⟨_,rfl⟩;have RI:=Lib.hid (fun (w':World) (v:Value) (h:OAt Any w' v x)=>right_any Any v x w' h);rw [hRR] at RI⊢;clear hRR
    cases F with
    | false=>
      rw [if_neg (by simp)];show Calls _ _ _ _ (TRet w (80,none))
      go_enter Tryz.func16,Tryz.ntmps16
      go_wp2_with (first
       | (go_at_call 36;(with_reducible refine (OP.out _).mono ?_);rintro e1 w1 ⟨rfl,hb1⟩;have HB1:=Lib.hid (show Below w.heap.size w w1 from (belowOne w _).trans (hb1.mono (by simp)));have x1:=(hb1.block _ (by simp)).trans (heap_alloc_new w _);have X1:=Lib.hid x1;have hl1:=Own.block_lt x1)
       | (go_at_call 37;(with_reducible refine (PA.out _).mono ?_);rintro e2 w2 ⟨k2,m2,e2',t2,an2,nn2,cn2,ai2,ni2,ci2,rfl,⟨dd,hJ2⟩,hb2⟩;have HB2:=Lib.hid (HB1.out.trans (hb2.mono HB1.out.size));have hs2:=hb2.size;have HX2:=Lib.hid ((hb2.block _ hl1).trans X1.out);have HT2:=Lib.hid (fun (o:Obj)=>(⟨two_new w2 o (.cells #[.int .i64 k2,.int .i64 m2,.int .i64 e2',.string t2,.slice an2 nn2 cn2,.slice ai2 ni2 ci2,.bool false] 66),(hJ2.keep (S':=fun b=>b < w2.heap.size+1) (fun b _ hb=>by omega) (fun _ _ _=>rfl) (Nat.le_refl _)).below (belowTwo w2 _ _) (Nat.le_refl _)⟩:Tk ((w2.alloc o).alloc (.cells #[.int .i64 k2,.int .i64 m2,.int .i64 e2',.string t2,.slice an2 nn2 cn2,.slice ai2 ni2 ci2,.bool false] 66)) (w2.heap.size+1) dd (.int .i64 k2) (.int .i64 m2) (.int .i64 e2') (.string t2) (.slice an2 nn2 cn2) (.slice ai2 ni2 ci2) j false)))
       | (go_at_call 38;(with_reducible refine (TKO.out _ _ _ _ _ _ _ _ _ (HT2.out _)).mono ?_);rintro e3 w3 ⟨v3,rfl,ho3,ht3,hm3⟩;obtain ⟨an3,cn3,ae3,ce3,rfl,-⟩:=ho3.open_;have HO3:=Lib.hid (ho3.keep (S':=fun b=>w2.heap.size+2<=b) (fun b hb _=>by simp at hb;omega) (fun _ _ _=>rfl) (Nat.le_refl _));have hB3:Below w2.heap.size w2 w3:=(((((Moves.refl w2.heap.size (w2.heap.size+1) w2).alloc (Nat.le_refl _) _).alloc (by simp) _).trans (hm3.mono (by simp <;> omega))).below (by omega));have HB3:=Lib.hid (HB2.out.trans (hB3.mono HB2.out.size));have hs3:=hB3.size;have HT3:=Lib.hid (ht3.below (belowOne w3 (.cells #[.int .i64 x.h,.string ⟨x.v.toArray⟩,.int .i64 x.o,.int .i64 x.u,.slice an3 x.ns.length cn3,.slice ae3 x.es.length ce3] 25)));obtain ⟨⟨y0,y1,y2,y3,y4,y5,y6⟩,fr⟩:=HT3.out.cells;have HX3:=Lib.hid ((heap_alloc_old w3 (.cells #[.int .i64 x.h,.string ⟨x.v.toArray⟩,.int .i64 x.o,.int .i64 x.u,.slice an3 x.ns.length cn3,.slice ae3 x.es.length ce3] 25) (by omega)).trans ((hB3.block _ (by omega)).trans HX2.out));obtain ⟨⟨z0,z1,z2,z3,z4,z5⟩,g0,g1,g2,g3,g4,g5⟩:=twelve_of HX3.out))
      refine bodyPost_ret (v:= .tuple #[.agg #[.int .i64 0,.string ⟨#[]⟩,.int .i64 0,.int .i64 0,.slice none 0 0,.slice none 0 0],.int .i64 80]) (by simp [results,Tryz.results16,go_sem,z0,z1,z2,z3,z4,z5]) rfl ?_;rw [put6_is];exact tret_fin (r:=(80,none)) (HB3.out.alloc HB3.out.size _) (Nat.le_refl _) o0_at _ _ _ _ _ _
    | true=>
      cases RR with
      | false=>
        rw [if_neg (by simp)];show Calls _ _ _ _ (TRet w (80,none))
        go_enter Tryz.func16,Tryz.ntmps16
        go_wp2_with (first
         | (go_at_call 36;(with_reducible refine (OP.out _).mono ?_);rintro e1 w1 ⟨rfl,hb1⟩;have HB1:=Lib.hid (show Below w.heap.size w w1 from (belowOne w _).trans (hb1.mono (by simp)));have x1:=(hb1.block _ (by simp)).trans (heap_alloc_new w _);have X1:=Lib.hid x1;have hl1:=Own.block_lt x1)
         | (go_at_call 37;(with_reducible refine (PA.out _).mono ?_);rintro e2 w2 ⟨k2,m2,e2',t2,an2,nn2,cn2,ai2,ni2,ci2,rfl,⟨dd,hJ2⟩,hb2⟩;have HB2:=Lib.hid (HB1.out.trans (hb2.mono HB1.out.size));have hs2:=hb2.size;have HX2:=Lib.hid ((hb2.block _ hl1).trans X1.out);have HT2:=Lib.hid (fun (o:Obj)=>(⟨two_new w2 o (.cells #[.int .i64 k2,.int .i64 m2,.int .i64 e2',.string t2,.slice an2 nn2 cn2,.slice ai2 ni2 ci2,.bool false] 66),(hJ2.keep (S':=fun b=>b < w2.heap.size+1) (fun b _ hb=>by omega) (fun _ _ _=>rfl) (Nat.le_refl _)).below (belowTwo w2 _ _) (Nat.le_refl _)⟩:Tk ((w2.alloc o).alloc (.cells #[.int .i64 k2,.int .i64 m2,.int .i64 e2',.string t2,.slice an2 nn2 cn2,.slice ai2 ni2 ci2,.bool false] 66)) (w2.heap.size+1) dd (.int .i64 k2) (.int .i64 m2) (.int .i64 e2') (.string t2) (.slice an2 nn2 cn2) (.slice ai2 ni2 ci2) j false)))
         | (go_at_call 38;(with_reducible refine (TKO.out _ _ _ _ _ _ _ _ _ (HT2.out _)).mono ?_);rintro e3 w3 ⟨v3,rfl,ho3,ht3,hm3⟩;obtain ⟨an3,cn3,ae3,ce3,rfl,-⟩:=ho3.open_;have HO3:=Lib.hid (ho3.keep (S':=fun b=>w2.heap.size+2<=b) (fun b hb _=>by simp at hb;omega) (fun _ _ _=>rfl) (Nat.le_refl _));have hB3:Below w2.heap.size w2 w3:=(((((Moves.refl w2.heap.size (w2.heap.size+1) w2).alloc (Nat.le_refl _) _).alloc (by simp) _).trans (hm3.mono (by simp <;> omega))).below (by omega));have HB3:=Lib.hid (HB2.out.trans (hB3.mono HB2.out.size));have hs3:=hB3.size;have HT3:=Lib.hid (ht3.below (belowOne w3 (.cells #[.int .i64 x.h,.string ⟨x.v.toArray⟩,.int .i64 x.o,.int .i64 x.u,.slice an3 x.ns.length cn3,.slice ae3 x.es.length ce3] 25)));obtain ⟨⟨y0,y1,y2,y3,y4,y5,y6⟩,fr⟩:=HT3.out.cells;have HX3:=Lib.hid ((heap_alloc_old w3 (.cells #[.int .i64 x.h,.string ⟨x.v.toArray⟩,.int .i64 x.o,.int .i64 x.u,.slice an3 x.ns.length cn3,.slice ae3 x.es.length ce3] 25) (by omega)).trans ((hB3.block _ (by omega)).trans HX2.out));obtain ⟨⟨z0,z1,z2,z3,z4,z5⟩,g0,g1,g2,g3,g4,g5⟩:=twelve_of HX3.out)
         | (go_at_call 8;(with_reducible refine (RI.out _ _ (HO3.out.any.below (belowOne w3 _) (Nat.le_refl _))).mono ?_);rintro e5 w5 ⟨rfl,hb5⟩;have HB5:=Lib.hid ((HB3.out.alloc HB3.out.size _).trans (hb5.mono (by have:=HB3.out.size;simp;omega)));clear z0 z1 z2 z3 z4 z5 g0 g1 g2 g3 g4 g5;obtain ⟨v0,v1,v2,v3,v4,v5⟩:=six_of ((hb5.block _ (by simp)).trans (heap_alloc_new w3 _));obtain ⟨⟨z0,z1,z2,z3,z4,z5⟩,g0,g1,g2,g3,g4,g5⟩:=twelve_of ((hb5.block _ (by simp;omega)).trans HX3.out)))
        refine bodyPost_ret (v:= .tuple #[.agg #[.int .i64 0,.string ⟨#[]⟩,.int .i64 0,.int .i64 0,.slice none 0 0,.slice none 0 0],.int .i64 80]) (by simp [results,Tryz.results16,go_sem,z0,z1,z2,z3,z4,z5]) rfl ?_;rw [put6_is];exact tret_fin (r:=(80,none)) HB5.out (Nat.le_refl _) o0_at _ _ _ _ _ _
      | true=>
        rw [if_pos (by simp)];show Calls _ _ _ _ (TRet w (0,some x))
        go_enter Tryz.func16,Tryz.ntmps16
        go_wp2_with (first
         | (go_at_call 36;(with_reducible refine (OP.out _).mono ?_);rintro e1 w1 ⟨rfl,hb1⟩;have HB1:=Lib.hid (show Below w.heap.size w w1 from (belowOne w _).trans (hb1.mono (by simp)));have x1:=(hb1.block _ (by simp)).trans (heap_alloc_new w _);have X1:=Lib.hid x1;have hl1:=Own.block_lt x1)
         | (go_at_call 37;(with_reducible refine (PA.out _).mono ?_);rintro e2 w2 ⟨k2,m2,e2',t2,an2,nn2,cn2,ai2,ni2,ci2,rfl,⟨dd,hJ2⟩,hb2⟩;have HB2:=Lib.hid (HB1.out.trans (hb2.mono HB1.out.size));have hs2:=hb2.size;have HX2:=Lib.hid ((hb2.block _ hl1).trans X1.out);have HT2:=Lib.hid (fun (o:Obj)=>(⟨two_new w2 o (.cells #[.int .i64 k2,.int .i64 m2,.int .i64 e2',.string t2,.slice an2 nn2 cn2,.slice ai2 ni2 ci2,.bool false] 66),(hJ2.keep (S':=fun b=>b < w2.heap.size+1) (fun b _ hb=>by omega) (fun _ _ _=>rfl) (Nat.le_refl _)).below (belowTwo w2 _ _) (Nat.le_refl _)⟩:Tk ((w2.alloc o).alloc (.cells #[.int .i64 k2,.int .i64 m2,.int .i64 e2',.string t2,.slice an2 nn2 cn2,.slice ai2 ni2 ci2,.bool false] 66)) (w2.heap.size+1) dd (.int .i64 k2) (.int .i64 m2) (.int .i64 e2') (.string t2) (.slice an2 nn2 cn2) (.slice ai2 ni2 ci2) j false)))
         | (go_at_call 38;(with_reducible refine (TKO.out _ _ _ _ _ _ _ _ _ (HT2.out _)).mono ?_);rintro e3 w3 ⟨v3,rfl,ho3,ht3,hm3⟩;obtain ⟨an3,cn3,ae3,ce3,rfl,-⟩:=ho3.open_;have HO3:=Lib.hid (ho3.keep (S':=fun b=>w2.heap.size+2<=b) (fun b hb _=>by simp at hb;omega) (fun _ _ _=>rfl) (Nat.le_refl _));have hB3:Below w2.heap.size w2 w3:=(((((Moves.refl w2.heap.size (w2.heap.size+1) w2).alloc (Nat.le_refl _) _).alloc (by simp) _).trans (hm3.mono (by simp <;> omega))).below (by omega));have HB3:=Lib.hid (HB2.out.trans (hB3.mono HB2.out.size));have hs3:=hB3.size;have HT3:=Lib.hid (ht3.below (belowOne w3 (.cells #[.int .i64 x.h,.string ⟨x.v.toArray⟩,.int .i64 x.o,.int .i64 x.u,.slice an3 x.ns.length cn3,.slice ae3 x.es.length ce3] 25)));obtain ⟨⟨y0,y1,y2,y3,y4,y5,y6⟩,fr⟩:=HT3.out.cells;have HX3:=Lib.hid ((heap_alloc_old w3 (.cells #[.int .i64 x.h,.string ⟨x.v.toArray⟩,.int .i64 x.o,.int .i64 x.u,.slice an3 x.ns.length cn3,.slice ae3 x.es.length ce3] 25) (by omega)).trans ((hB3.block _ (by omega)).trans HX2.out));obtain ⟨⟨z0,z1,z2,z3,z4,z5⟩,g0,g1,g2,g3,g4,g5⟩:=twelve_of HX3.out)
         | (go_at_call 8;(with_reducible refine (RI.out _ _ (HO3.out.any.below (belowOne w3 _) (Nat.le_refl _))).mono ?_);rintro e5 w5 ⟨rfl,hb5⟩;have HB5:=Lib.hid ((HB3.out.alloc HB3.out.size _).trans (hb5.mono (by have:=HB3.out.size;simp;omega)));clear z0 z1 z2 z3 z4 z5 g0 g1 g2 g3 g4 g5;obtain ⟨v0,v1,v2,v3,v4,v5⟩:=six_of ((hb5.block _ (by simp)).trans (heap_alloc_new w3 _));obtain ⟨⟨z0,z1,z2,z3,z4,z5⟩,g0,g1,g2,g3,g4,g5⟩:=twelve_of ((hb5.block _ (by simp;omega)).trans HX3.out)))
        refine bodyPost_ret (v:= .tuple #[.agg #[.int .i64 x.h,.string ⟨x.v.toArray⟩,.int .i64 x.o,.int .i64 x.u,.slice an3 x.ns.length cn3,.slice ae3 x.es.length ce3],.int .i64 0]) (by simp [results,Tryz.results16,go_sem,z0,z1,z2,z3,z4,z5]) rfl ?_;rw [put6_is];exact tret_fin (r:=(0,some x)) HB5.out (Nat.le_refl _) ((HO3.out.below ((belowOne w3 _).trans (hb5.mono (by simp))) (Nat.le_refl _)).keep (fun b hb _=>by have hb':w2.heap.size+2<=b:=hb;omega) (fun _ _ _=>rfl) (Nat.le_refl _)) _ _ _ _ _ _
   ·rw [if_neg hpe];have hne:(pe !=0)=true:=by simpa using hpe
    go_enter Tryz.func16,Tryz.ntmps16
    go_wp2_with (first
     | (go_at_call 36;(with_reducible refine (OP.out _).mono ?_);rintro e1 w1 ⟨rfl,hb1⟩;have HB1:=Lib.hid (show Below w.heap.size w w1 from (belowOne w _).trans (hb1.mono (by simp)));have x1:=(hb1.block _ (by simp)).trans (heap_alloc_new w _);have X1:=Lib.hid x1)
     | (go_at_call 37;(with_reducible refine (PA.out _).mono ?_);rintro e2 w2 ⟨k2,m2,e2',t2,an2,nn2,cn2,ai2,ni2,ci2,rfl,hJ2,hb2⟩;have HB2:=Lib.hid (HB1.out.trans (hb2.mono HB1.out.size));have x2:=(heap_alloc_old w2 (.cells #[.int .i64 k2,.int .i64 m2,.int .i64 e2',.string t2,.slice an2 nn2 cn2,.slice ai2 ni2 ci2] 49) (by have:=Own.block_lt X1.out;have:=hb2.size;omega)).trans ((hb2.block _ (Own.block_lt X1.out)).trans X1.out);obtain ⟨⟨z0,z1,z2,z3,z4,z5⟩,g0,g1,g2,g3,g4,g5⟩:=twelve_of x2))
    refine bodyPost_ret (v:= .tuple #[.agg #[.int .i64 0,.string ⟨#[]⟩,.int .i64 0,.int .i64 0,.slice none 0 0,.slice none 0 0],.int .i64 pe]) (by simp [results,Tryz.results16,go_sem,z0,z1,z2,z3,z4,z5]) rfl ?_;rw [put6_is];exact tret_fin (r:=(pe,none)) (HB2.out.alloc HB2.out.size _) (Nat.le_refl _) o0_at _ _ _ _ _ _
end Go.Proofs.YtclghelocglnlaaGreatDoor.Od
