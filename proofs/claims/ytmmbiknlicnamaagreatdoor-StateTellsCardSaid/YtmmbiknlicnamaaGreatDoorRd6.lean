import Derived.Test.YtmmbiknlicnamaaGreatDoorRd5
set_option maxHeartbeats 8000000
set_option linter.unusedVariables false
set_option linter.unusedSimpArgs false
namespace Go.Proofs.YtmmbiknlicnamaaGreatDoor.Js
open Go.RowKit Lex
def XO (base bv sb rb : Nat) (k : Nat) : Prop := k = rb ∨ k = bv ∨ k = sb ∨ base ≤ k
structure ObjI (lo base br bd bres bv bs sb rb bt n : Nat) (st : List (List UInt8) × List J) (w : World) : Prop where
 fr : Fr lo base br bd bres bv rb bt n w
 hbs : w.heap[bs]? = some (.cells #[.map (some sb)] 190 (0,0))
 set : SetIs w sb st.1
 own : ∃ nv iv vs,Own2 base bv n 7 nv iv st.1 vs st.2 w
 len : st.1.length = st.2.length
 bnd : st.1.length ≤ 1000000
 low : lo ≤ bs ∧ lo ≤ sb ∧ bs < base ∧ sb < base
 ne : bs ≠ bv ∧ sb ≠ bv ∧ sb ≠ bs ∧ sb ≠ br ∧ sb ≠ bd ∧ sb ≠ bres
def stepO (n : Nat) (st : List (List UInt8) × List J) (l : List Tok) : Int × (List (List UInt8) × List J) × List Tok :=
 if (nameS st.1 l).1 = 0 then ((valS n (nameS st.1 l).2.2).er,(st.1 ++ [(nameS st.1 l).2.1],st.2 ++ [(valS n (nameS st.1 l).2.2).j]),(valS n (nameS st.1 l).2.2).l) else ((nameS st.1 l).1,st,(nameS st.1 l).2.2)
theorem str_info2 : (Tryz.prog.info? 9).map (fun i => (i.zero,i.size,i.bytes)) = some (some (.string ⟨#[]⟩),1,16) := by kernel_rfl
set_option maxRecDepth 100000 in
theorem obj1_step (n : Nat) (hn : n ≤ 15) (hv : ValOk n) (lo base br bd bres bv bs sb rb bt cap : Nat) (ts : List Tok) :
 StepOk 168 #[.pointer (some ⟨br,0,none⟩),.pointer (some ⟨bs,0,none⟩),.pointer (some ⟨bd,0,none⟩),.pointer (some ⟨bv,0,none⟩)] (XO base bv sb rb) (ObjI lo base br bd bres bv bs sb rb bt n) (fun w => (Fr lo base br bd bres bv rb bt n w ∧ Loads bv 7 w)) (stepO n) (fun st => st.1.length) rb bt cap ts := by
 intro st l w hI hR hcnt
 obtain ⟨ns,acc⟩ := st
 obtain ⟨hF,hbs,hset,⟨nv,iv,vs,hO⟩,hlen0,_,⟨l1,l2,l3,l4⟩,⟨n1,n2,n3,n4,n5,n6⟩⟩ := hI
 simp only at hset hO hlen0 hcnt
 have hl0 : 0 < l.length := List.length_pos_iff.2 hR.fin.ne
 have c1 := cell_of_one hF.hbr
 have c3 := cell_of_one hbs
 have hlen := hR.len
 have N := Lib.hid (name_any hR hset (by omega))
 have HNG := Lib.hid (name_good (seen := ns) hR.fin)
 have HNR := Lib.hid (fun h => name_right (N := 1099511627776) (seen := ns) hR.fin (fun x hx => hR.good x (hR.suf.mem hx)) h)
 have HF := Lib.hid hF
 obtain ⟨a1,a2,a3,a4,a5,a6⟩ := hF.low
 obtain ⟨b1,b2,b3,b4,b5⟩ := hF.high
 obtain ⟨d1,d2,d3⟩ := hF.ne
 have HO := Lib.hid hO
 have HBS := Lib.hid hbs
 have HSET := Lib.hid hset
 have HL0 := Lib.hid hlen0
 have hns : ns.length ≤ 1000000 := by omega
 have hac : acc.length ≤ 1000000 := by omega
 clear hF hO hR hbs hset hlen0
 unfold stepO
 simp only
 obtain ⟨NR,HNN⟩ : ∃ NR,Hid (nameS ns l = NR) := ⟨_,rfl⟩
 rw [HNN.out] at N HNG HNR ⊢
 obtain ⟨E,nm,l'⟩ := NR
 simp only at N HNG HNR ⊢
 have hxm : ∀ k,(k = rb ∨ k = sb) → XO base bv sb rb k := fun k h => h.elim (fun h => .inl h) (fun h => .inr (.inr (.inl h)))
 have HXM := Lib.hid hxm
 clear hxm
 by_cases hE : E = 0
 ·subst hE
  simp only [if_true,true_implies,forall_const] at N HNR ⊢
  obtain ⟨R,HRR⟩ : ∃ R,Hid (valS n l' = R) := ⟨_,rfl⟩
  rw [HRR.out]
  obtain ⟨i0,hi0,hz0,hz1,hz2⟩ := info_parts json_info
  obtain ⟨i1,hi1,hy0,hy1,hy2⟩ := info_parts str_info2
  go_enter Tryz.func168,Tryz.ntmps168
  go_wp2_with (go_at_call 169;(with_reducible refine (N.out).mono ?_);rintro e1 w1 ⟨rfl,hR1,hc1,hs1⟩;have c1' := (World.cell?_of_block (w := w) (a := ⟨br,0,none⟩) (hc1.block br (Own.block_lt HF.out.hbr) (by omega))).trans c1;have c2' := (World.cell?_of_block (w := w) (a := ⟨bd,0,none⟩) (hc1.block bd (Own.block_lt HF.out.hbd) (by omega))).trans (cell_of_one HF.out.hbd))
  have V := hv w1 rb bt cap ts l' hR1
  rw [show ((17 - n : Nat) : Int) = ((16 - n : Nat) : Int) + 1 by omega] at V
  unfold VRet at V
  have HG := Lib.hid (val_good n l' hR1.fin)
  rw [HRR.out] at V HG
  have hcX1 : Chg (XO base bv sb rb) w w1 := hc1.mono (fun k _ h => HXM.out k h)
  have HO1 := Lib.hid (HO.out.chg hc1 (by omega) (by omega))
  have HF1 := Lib.hid (HF.out.chg hc1 (by omega) (by omega) (by omega))
  have HBS1 : Hid (w1.heap[bs]? = some (.cells #[.map (some sb)] 190 (0,0))) := (hc1.block bs (Own.block_lt HBS.out) (by omega)).trans HBS.out
  have HS1 := Lib.hid hs1
  have hsz1 := hc1.size
  clear N c1 c3 c1' c2' hc1 hs1 HXM
  (with_reducible refine V.mono ?_)
  rintro e2 w2 ⟨k,m,e',t,an,nn,cn,ai,ni,ci,rfl,hR2,hc2,hJ⟩
  have hO2 := HO1.out.chgR hc2 (by omega) (by omega)
  obtain ⟨ao,cap',rfl⟩ := own_slice hO2.irow
  obtain ⟨ano,cap2,rfl⟩ := own_slice hO2.nrow
  have hO1 := HO1.out
  obtain ⟨y0,y1,y2,y3,y4,y5⟩ := six_of hO2.blk
  have yf4 := free_of hO2.blk 4
  have hbl : bv < w2.heap.size := Own.block_lt hO2.blk
  have HO2 := Lib.hid hO2
  have hsz2 := hc2.size
  have HC2 := Lib.hid hc2
  have HJ := Lib.hid hJ
  clear hO1 hO2 V hc2 hJ hR1
  have hib : ∀ b,(Value.slice ao acc.length cap').ownBlock = some b → base ≤ b ∧ b < w1.heap.size := fun b hb => HO1.out.irow.lt b hb
  have hnb : ∀ b,(Value.slice ano ns.length cap2).ownBlock = some b → base ≤ b ∧ b < w1.heap.size := fun b hb => HO1.out.nrow.lt b hb
  have HIB := Lib.hid (And.intro hib hnb)
  have hnbv : some bv ≠ (Value.slice ano ns.length cap2).ownBlock := fun h => by have := (hnb bv h.symm).1;omega
  have hnbi : some w2.heap.size ≠ (Value.slice ano ns.length cap2).ownBlock := fun h => by have := (hnb _ h.symm).2;omega
  have HNB := Lib.hid (And.intro hnbv hnbi)
  clear hib hnb hnbv hnbi
  go_wp2_with (at_builtin;(refine wpList_append_lies _ rfl _ _ 36 rfl base 9 i1 _ 1 16 Tryz.underlying36 hi1 hy0 hy1 hy2 rfl (by omega) _ ns.length (ns.map strW) rfl ((HO2.out.nrow.alloc _).alloc _) ⟨w2.heap.size + 1,0,none⟩ 1 1 [.string ⟨nm.toArray⟩] rfl rfl (World.news_of_block (cs := #[.string ⟨nm.toArray⟩]) (t := 9) (fr := (0,0)) (two_new _ _ _)) (by simp [Value.oneCell']) (by omega) (by unfold maxLen;omega) (by omega) (by simp;omega) (w2.heap.size + 2) (by simp) ?_);intro g cp w3 hown hgrow hat hlt;have k4 := (hgrow.cell_far ⟨bv,4,none⟩ (by simp;omega) HNB.out.1).trans ((World.cell?_of_block (w := w2) (a := ⟨bv,4,none⟩) ((Below.heap_alloc _ _ _ (by simp;omega)).trans (Below.heap_alloc _ _ _ hbl))).trans y4);have kf := (hgrow.frozen_far ⟨bv,4,none⟩ (by simp;omega) HNB.out.1).trans ((World.frozen?_of_block (w := w2) (a := ⟨bv,4,none⟩) ((Below.heap_alloc _ _ _ (by simp;omega)).trans (Below.heap_alloc _ _ _ hbl))).trans yf4))
  have hBS : Below w2.heap.size w2 ((w2.alloc (.cells #[.int .i64 k,.int .i64 m,.int .i64 e',.string t,.slice an nn cn,.slice ai ni ci] 58)).alloc (.cells #[.string ⟨nm.toArray⟩] 9)) := ((Below.refl _ _).alloc (Nat.le_refl _) _).alloc (by simp) _
  have hO4 := step_name HO2.out (by omega) hgrow hBS (hat.imp id (fun h => by omega)) (nm := nm) HNR.out.2.2 hown
  obtain ⟨F1,F2,F3,F4,F5⟩ := name_frame (bv := bv) (nv := .slice ano ns.length cap2) hgrow hBS (.slice (some ⟨g,0,none⟩) (ns.length + 1) cp)
  have hgw : (Value.slice (some ⟨g,0,none⟩) (ns.length + 1) cp).ownBlock = some g := rfl
  have hgl : base ≤ g := (hown.lt g rfl).1
  have hitem : (w3.setCell ⟨bv,4,none⟩ (.slice (some ⟨g,0,none⟩) (ns.length + 1) cp)).heap[w2.heap.size]? = some (.cells #[.int .i64 k,.int .i64 m,.int .i64 e',.string t,.slice an nn cn,.slice ai ni ci] 58) := by
   rw [Below.heap_setCell _ _ _ _ (by show w2.heap.size ≠ bv;omega),hgrow.block w2.heap.size (by simp;omega) HNB.out.2]
   exact two_old _ _ _
  have hgi : g ≠ w2.heap.size := by
   rcases hat with h | h
   ·intro e;subst e;exact HNB.out.2 h.symm
   ·omega
  have hJ4 : R.er = 0 → JAt (fun b => w1.heap.size ≤ b ∧ b < w2.heap.size) (w3.setCell ⟨bv,4,none⟩ (.slice (some ⟨g,0,none⟩) (ns.length + 1) cp)) n (.agg #[.int .i64 k,.int .i64 m,.int .i64 e',.string t,.slice an nn cn,.slice ai ni ci]) R.j := fun h0 =>
   (HJ.out h0).keep (fun b hb hlt => ⟨hb,hlt⟩) (fun b hb hlt => F1 b hlt (fun h => by have := (HIB.out.2 b h.symm).2;omega) (by omega)) F2
  have hR4 : Rd (w3.setCell ⟨bv,4,none⟩ (.slice (some ⟨g,0,none⟩) (ns.length + 1) cp)) rb bt cap ts R.l := by
   refine hR2.keep (F1 rb hR2.lt ?_ (by omega)) (F1 bt hR2.blt ?_ (by omega)) F2
   ·intro h;have := (HIB.out.2 rb h.symm).1;omega
   ·intro h;have := (HIB.out.2 bt h.symm).1;omega
  have hc4 : Chg (XO base bv sb rb) w (w3.setCell ⟨bv,4,none⟩ (.slice (some ⟨g,0,none⟩) (ns.length + 1) cp)) := by
   refine (hcX1.trans (HC2.out.mono (fun _ _ h => .inl h))).trans ⟨F3,F4,F5,F2,fun b hb hX => F1 b hb (fun h => hX ?_) (fun h => hX (.inr (.inl h)))⟩
   exact .inr (.inr (.inr (HIB.out.2 b h.symm).1))
  have hS4 : SetIs (w3.setCell ⟨bv,4,none⟩ (.slice (some ⟨g,0,none⟩) (ns.length + 1) cp)) sb (ns ++ [nm]) := by
   have hs2 := HS1.out.chg HC2.out (by omega)
   refine hs2.keep (F1 sb hs2.lt ?_ (by omega))
   intro h;have := (HIB.out.2 sb h.symm).1;omega
  have hgat : ∀ b,w2.heap.size ≤ b → b < w2.heap.size + 1 → some b ≠ (Value.slice ao acc.length cap').ownBlock := fun b h1 _ h => by have := (HIB.out.1 b h.symm).2;omega
  have HGAT := Lib.hid hgat
  have hltg : ∀ b,(Value.slice (some ⟨g,0,none⟩) (ns.length + 1) cp).ownBlock = some b → b = g := fun b hb => by cases hb;rfl
  have HAT := Lib.hid hat
  have hsz4 : w2.heap.size + 1 ≤ (w3.setCell ⟨bv,4,none⟩ (.slice (some ⟨g,0,none⟩) (ns.length + 1) cp)).heap.size := Own.block_lt hitem
  have HX := Lib.hid (And.intro hgl (And.intro hgi hltg))
  clear hgat F1 F2 F3 F4 F5 hBS hown hgrow hat hlt k4 kf y0 y1 y2 y3 y4 y5 yf4 hgw HJ hR2 hgl hgi hltg
  generalize w3.setCell ⟨bv,4,none⟩ (.slice (some ⟨g,0,none⟩) (ns.length + 1) cp) = w4 at *
  obtain ⟨y0,y1,y2,y3,y4,y5⟩ := six_of hO4.blk
  have yf := free_of hO4.blk 5
  have hbl4 : bv < w4.heap.size := Own.block_lt hO4.blk
  obtain ⟨x0,x1,x2,x3,x4,x5⟩ := six_of hitem
  have hil4 : w2.heap.size < w4.heap.size := Own.block_lt hitem
  have HROW := Lib.hid hO4.irow
  have HNE := Lib.hid hO4.ine
  have HO4 := Lib.hid hO4
  have hil : (acc.length : Int) < (acc.length : Int) + 1 := by omega
  have cell2 : Hid (∀ {o2 : Obj} {i : Nat} {v : Value},w4.cell? ⟨bv,i,none⟩ = some v → (w4.alloc o2).drew.cell? ⟨bv,i,none⟩ = some v) := fun {o2 i v} h => by
   show (w4.alloc o2).cell? _ = _
   exact (World.cell?_of_block (w := w4) (a := ⟨bv,i,none⟩) (Below.heap_alloc _ _ _ hbl4)).trans h
  have frozen2 : Hid (∀ {o2 : Obj} {i : Nat},w4.frozen? ⟨bv,i,none⟩ = false → (w4.alloc o2).drew.frozen? ⟨bv,i,none⟩ = false) := fun {o2 i} h => by
   show (w4.alloc o2).frozen? _ = _
   exact (World.frozen?_of_block (w := w4) (a := ⟨bv,i,none⟩) (Below.heap_alloc _ _ _ hbl4)).trans h
  have fin : ∀ o2 w5 g2 cp2 (z0 z1 z2 z3 z4 z5 : Value),w5.ownsRow base 58 6 (.slice (some ⟨g2,0,none⟩) (acc.length + 1) cp2) (acc.length + 1) (vs.flatMap aggC ++ [z0,z1,z2,z3,z4,z5]) → (w4.alloc o2).drew.grownBy w5 (Value.slice ao acc.length cap').ownBlock → ((Value.slice ao acc.length cap').ownBlock = some g2 ∨ g2 = w4.heap.size + 1) →
   ∀ W,W = (put6 w5 g2 (acc.length * 6) (.int .i64 k) (.int .i64 m) (.int .i64 e') (.string t) (.slice an nn cn) (.slice ai ni ci)).setCell ⟨bv,5,none⟩ (.slice (some ⟨g2,0,none⟩) (acc.length + 1) cp2) →
   Rd W rb bt cap ts R.l ∧ Chg (XO base bv sb rb) w W ∧ (R.er = 0 → ObjI lo base br bd bres bv bs sb rb bt n (ns ++ [nm],acc ++ [R.j]) W) ∧ (Fr lo base br bd bres bv rb bt n W ∧ Loads bv 7 W) ∧ (R.er = 0 → R.l.length < l.length) := by
   intro o2 w5 g2 cp2 z0 z1 z2 z3 z4 z5 hown hgrow hat0 W hW
   have hat : (Value.slice ao acc.length cap').ownBlock = some g2 ∨ w4.heap.size ≤ g2 := hat0.imp id (fun h => by omega)
   have hBS : Below w4.heap.size w4 (w4.alloc o2).drew := ((Below.refl _ _).alloc (Nat.le_refl _) _).drew
   obtain ⟨F1,F2,F3,F4,F5⟩ := step_frame (acc := acc) (bv := bv) (iv := .slice ao acc.length cap') hgrow hBS hat (.int .i64 k) (.int .i64 m) (.int .i64 e') (.string t) (.slice an nn cn) (.slice ai ni ci) (.slice (some ⟨g2,0,none⟩) (acc.length + 1) cp2)
   rw [← hW] at F1 F2 F3 F4 F5
   have hib := HIB.out.1
   have hcW : Chg (XO base bv sb rb) w4 W := ⟨F3,F4,F5,F2,fun b hb hX => F1 b hb (fun h => hX (.inr (.inr (.inr (hib b h.symm).1)))) (fun h => hX (.inr (.inl h)))⟩
   have hcw : Chg (XO base bv sb rb) w W := hc4.trans hcW
   have hFW := HF.out.chg hcw (by unfold XO;omega) (by unfold XO;omega) (by unfold XO;omega)
   have hRW : Rd W rb bt cap ts R.l := by
    refine hR4.keep (F1 rb hR4.lt ?_ (by omega)) (F1 bt hR4.blt ?_ (by omega)) F2
    ·intro h;have := (hib rb h.symm).1;omega
    ·intro h;have := (hib bt h.symm).1;omega
   have hll : R.er = 0 → R.l.length < l.length := fun h0 => by
    have q1 := HG.out.2.2 h0
    have q2 := HNG.out.2.length_le
    omega
   refine ⟨hRW,hcw,fun h0 => ⟨hFW,?_,?_,⟨.slice (some ⟨g,0,none⟩) (ns.length + 1) cp,.slice (some ⟨g2,0,none⟩) (acc.length + 1) cp2,vs ++ [Value.agg #[.int .i64 k,.int .i64 m,.int .i64 e',.string t,.slice an nn cn,.slice ai ni ci]],?_⟩,by simp [HL0.out],by simp;omega,⟨l1,l2,l3,l4⟩,⟨n1,n2,n3,n4,n5,n6⟩⟩,⟨hFW,?_⟩,hll⟩
   ·have q1 : w4.heap[bs]? = some (.cells #[.map (some sb)] 190 (0,0)) := (hc4.block bs (Own.block_lt HBS.out) (by unfold XO;omega)).trans HBS.out
    rw [F1 bs (Own.block_lt q1) (fun h => by have := (hib bs h.symm).1;omega) (by omega)];exact q1
   ·exact hS4.keep (F1 sb hS4.lt (fun h => by have := (hib sb h.symm).1;omega) (by omega))
   ·rw [hW]
    refine step_own HO4.out hgrow hBS hat hown (hJ4 h0) (fun b hb _ => ⟨by omega,fun h => by have := (hib b h.symm).2;omega,fun h => ?_,by omega⟩)
    have hbg := HX.out.2.2 b h.symm
    rcases HAT.out with h' | h'
    ·have := (HIB.out.2 g h').2;omega
    ·omega
   ·have hb2 : (put6 w5 g2 (acc.length * 6) (.int .i64 k) (.int .i64 m) (.int .i64 e') (.string t) (.slice an nn cn) (.slice ai ni ci)).heap[bv]? = w4.heap[bv]? := by
     have hbg : bv ≠ g2 := by
      rcases hat with h | h
      ·rintro rfl;exact HNE.out h
      ·omega
     rw [put6_block _ _ _ _ _ _ _ _ _ _ hbg,hgrow.block bv (by show bv < (w4.alloc o2).heap.size;simp;omega) (fun h => HNE.out h.symm)]
     exact Below.heap_alloc _ _ _ hbl4
    rw [hW]
    exact ⟨_,_,_,_,_,_,set_cell5 (hb2.trans HO4.out.blk) _⟩
  have FIN := Lib.hid fin
  clear fin hR4 hc4 hS4 hJ4 hO4 hitem HX
  go_region_law ((refine step_append_lies _ (by rfl) _ _ _ (by rfl) base 58 i0 _ 6 88 Tryz.underlying56 hi0 hz0 hz1 hz2 rfl (by omega) _ acc.length (vs.flatMap aggC) (by rfl) ((HROW.out.alloc _).drew) ⟨w4.heap.size,0,none⟩ 1 1 [.int .i64 0,.int .i64 0,.int .i64 0,.string ⟨#[]⟩,.slice none 0 0,.slice none 0 0] (by rfl) (by rfl) (World.news_of_block (cs := #[.int .i64 0,.int .i64 0,.int .i64 0,.string ⟨#[]⟩,.slice none 0 0,.slice none 0 0]) (t := 58) (fr := (0,0)) (heap_alloc_new _ _)) (by simp [Value.oneCell']) (by omega) (by unfold maxLen;omega) (by omega) (by simp;omega) (w4.heap.size + 1) (by simp) ?_;intro g2 cp2 w5 hown hgrow hat hlt;obtain ⟨z0,z1,z2,z3,z4,z5⟩ := new_cells hown;have f0 := hown.frozenAt (acc.length * 6);have f1 := hown.frozenAt (acc.length * 6 + 1);have f2 := hown.frozenAt (acc.length * 6 + 2);have f3 := hown.frozenAt (acc.length * 6 + 3);have f4 := hown.frozenAt (acc.length * 6 + 4);have f5 := hown.frozenAt (acc.length * 6 + 5);have hbg : bv ≠ g2 := (by rcases hat with h | h;(intro e;subst e;exact HNE.out h);omega);have k5 := (hgrow.cell_far ⟨bv,5,none⟩ (by simp;omega) (fun h => HNE.out h.symm)).trans (cell2.out y5);have kf := (hgrow.frozen_far ⟨bv,5,none⟩ (by simp;omega) (fun h => HNE.out h.symm)).trans (frozen2.out yf)))
  all_goals go_wp2_with fail
  all_goals go_ret
  all_goals refine ⟨rfl,FIN.out _ w5 g2 cp2 _ _ _ _ _ _ hown hgrow hat _ ?_⟩
  all_goals first | (unfold put6;with_reducible rfl) | (rw [← put6_swap _ _ _ _ _ _ _ _ _ _ _ _ hbg];unfold put6;with_reducible rfl)
 ·have hne : (E != 0) = true := by simpa using hE
  rw [if_neg hE]
  simp only
  go_enter Tryz.func168,Tryz.ntmps168
  go_wp2_with (go_at_call 169;(with_reducible refine (N.out).mono ?_);rintro e1 w1 ⟨rfl,hR1,hc1,hs1⟩)
  go_ret
  have hcX : Chg (XO base bv sb rb) w w1 := hc1.mono (fun k _ h => HXM.out k h)
  refine ⟨rfl,hR1,hcX,fun h => absurd h hE,⟨HF.out.chg hc1 (by omega) (by omega) (by omega),(HO.out.loads).chg hc1 (by omega)⟩,fun h => absurd h hE⟩
end Go.Proofs.YtmmbiknlicnamaaGreatDoor.Js
