import Derived.Test.YtmmbiknlicnamaaGreatDoorMR
set_option maxHeartbeats 8000000
set_option linter.unusedVariables false
set_option linter.unusedSimpArgs false
namespace Go.Proofs.YtmmbiknlicnamaaGreatDoor.Js
open Go.RowKit Lex
structure Fr (lo base br bd bres bv rb bt n : Nat) (w : World) : Prop where
 hbr : w.heap[br]? = some (.cells #[.pointer (some ⟨rb,0,none⟩)] 159 (0,0))
 hbd : w.heap[bd]? = some (.cells #[.int .i64 ((16 - n : Nat) : Int)] 3 (0,0))
 hres : w.heap[bres]? = some (.cells #[.int .i64 0,.int .i64 0,.int .i64 0,.string ⟨#[]⟩,.slice none 0 0,.slice none 0 0] 58 (0,0))
 low : rb < lo ∧ bt < lo ∧ lo ≤ br ∧ lo ≤ bd ∧ lo ≤ bres ∧ lo ≤ bv
 high : br < base ∧ bd < base ∧ bres < base ∧ bv < base ∧ base ≤ w.heap.size
 ne : br ≠ bv ∧ bd ≠ bv ∧ bres ≠ bv
def XA (base bv rb : Nat) (k : Nat) : Prop := k = rb ∨ k = bv ∨ base ≤ k
theorem Fr.chg {lo base br bd bres bv rb bt n : Nat} {w w' : World} {X : Nat → Prop} (h : Fr lo base br bd bres bv rb bt n w) (hc : Chg X w w') (h1 : ¬ X br) (h2 : ¬ X bd) (h3 : ¬ X bres) : Fr lo base br bd bres bv rb bt n w' :=
 ⟨(hc.block _ (Own.block_lt h.hbr) h1).trans h.hbr,(hc.block _ (Own.block_lt h.hbd) h2).trans h.hbd,(hc.block _ (Own.block_lt h.hres) h3).trans h.hres,h.low,⟨h.high.1,h.high.2.1,h.high.2.2.1,h.high.2.2.2.1,Nat.le_trans h.high.2.2.2.2 hc.size⟩,h.ne⟩
theorem Fr.chgA {lo base br bd bres bv rb bt n : Nat} {w w' : World} (h : Fr lo base br bd bres bv rb bt n w) (hc : Chg (XA base bv rb) w w') : Fr lo base br bd bres bv rb bt n w' := by
 obtain ⟨a1,a2,a3,a4,a5,a6⟩ := h.low
 obtain ⟨b1,b2,b3,b4,b5⟩ := h.high
 obtain ⟨c1,c2,c3⟩ := h.ne
 exact h.chg hc (by unfold XA;omega) (by unfold XA;omega) (by unfold XA;omega)
theorem Fr.chgR {lo base br bd bres bv rb bt n : Nat} {w w' : World} (h : Fr lo base br bd bres bv rb bt n w) (hc : Chg (· = rb) w w') : Fr lo base br bd bres bv rb bt n w' := by
 obtain ⟨a1,a2,a3,a4,a5,a6⟩ := h.low
 exact h.chg hc (by omega) (by omega) (by omega)
theorem Own2.chg {base bv n : Nat} {k : Int} {nv iv : Value} {ns : List (List UInt8)} {vs : List Value} {acc : List J} {w w' : World} {X : Nat → Prop} (h : Own2 base bv n k nv iv ns vs acc w) (hc : Chg X w w') (h1 : ∀ b,base ≤ b → ¬ X b) (h2 : ¬ X bv) : Own2 base bv n k nv iv ns vs acc w' := by
 have keep : ∀ {e : TypeId} {s n : Nat} {v : Value} {xs : List Value},w.ownsRow base e s v n xs → w'.ownsRow base e s v n xs := fun {e s n v xs} hr => by
  refine ⟨hr.1,?_⟩
  rcases hr.2 with hn | ⟨g,cap,cur,hv,hbg,hg,hq⟩
  ·exact .inl hn
  ·exact .inr ⟨g,cap,cur,hv,hbg,(hc.block g (Own.block_lt hg) (h1 g hbg)).trans hg,hq⟩
 exact ⟨(hc.block bv (Own.block_lt h.blk) h2).trans h.blk,keep h.irow,keep h.nrow,h.vl,h.ine,h.txt,fun i hi => (h.items i hi).keep (fun _ hb _ => hb) (fun b hb hl => hc.block b hl (h1 b hb.1)) hc.size⟩
theorem Own2.chgR {base bv n : Nat} {k : Int} {nv iv : Value} {ns : List (List UInt8)} {vs : List Value} {acc : List J} {w w' : World} {rb : Nat} (h : Own2 base bv n k nv iv ns vs acc w) (hc : Chg (· = rb) w w') (h1 : rb < base) (h2 : rb ≠ bv) : Own2 base bv n k nv iv ns vs acc w' := by
 have keep : ∀ {e : TypeId} {s n : Nat} {v : Value} {xs : List Value},w.ownsRow base e s v n xs → w'.ownsRow base e s v n xs := fun {e s n v xs} hr => by
  refine ⟨hr.1,?_⟩
  rcases hr.2 with hn | ⟨g,cap,cur,hv,hbg,hg,hq⟩
  ·exact .inl hn
  ·exact .inr ⟨g,cap,cur,hv,hbg,(hc.block g (Own.block_lt hg) (by omega)).trans hg,hq⟩
 exact ⟨(hc.block bv (Own.block_lt h.blk) (Ne.symm h2)).trans h.blk,keep h.irow,keep h.nrow,h.vl,h.ine,h.txt,fun i hi => (h.items i hi).keep (fun _ hb _ => hb) (fun b hb hl => hc.block b hl (by have := hb.1;omega)) hc.size⟩
def Loads (bv : Nat) (k : Int) (w : World) : Prop := ∃ a n c a' n' c',w.heap[bv]? = some (.cells #[.int .i64 k,.int .i64 0,.int .i64 0,.string ⟨#[]⟩,.slice a n c,.slice a' n' c'] 58 (0,0))
theorem own_slice {w : World} {base e s n : Nat} {v : Value} {xs : List Value} (h : w.ownsRow base e s v n xs) : ∃ ao c,v = .slice ao n c := by
 rcases h.2 with ⟨rfl,hn⟩ | ⟨g,cp,cur,hv,_⟩
 ·exact ⟨none,0,by rw [hn]⟩
 ·exact ⟨_,_,hv⟩
theorem Own2.loads {base bv n : Nat} {k : Int} {nv iv : Value} {ns : List (List UInt8)} {vs : List Value} {acc : List J} {w : World} (h : Own2 base bv n k nv iv ns vs acc w) : Loads bv k w := by
 obtain ⟨ao,c,rfl⟩ := own_slice h.irow
 obtain ⟨an,cn,rfl⟩ := own_slice h.nrow
 exact ⟨_,_,_,_,_,_,h.blk⟩
theorem Loads.chg {bv : Nat} {k : Int} {w w' : World} {X : Nat → Prop} (h : Loads bv k w) (hc : Chg X w w') (h1 : ¬ X bv) : Loads bv k w' := by
 obtain ⟨a,n,c,a',n',c',h⟩ := h
 exact ⟨a,n,c,a',n',c',(hc.block bv (Own.block_lt h) h1).trans h⟩
structure ArrI (lo base br bd bres bv rb bt n : Nat) (acc : List J) (w : World) : Prop where
 fr : Fr lo base br bd bres bv rb bt n w
 own : ∃ iv vs,Own2 base bv n 6 (.slice none 0 0) iv [] vs acc w
 bnd : acc.length ≤ 1000000
def stepA (n : Nat) (acc : List J) (l : List Tok) : Int × List J × List Tok := ((valS n l).er,acc ++ [(valS n l).j],(valS n l).l)
set_option maxRecDepth 100000 in
theorem arr1_step (n : Nat) (hn : n ≤ 15) (hv : ValOk n) (lo base br bd bres bv rb bt cap : Nat) (ts : List Tok) :
 StepOk 167 #[.pointer (some ⟨br,0,none⟩),.pointer (some ⟨bd,0,none⟩),.pointer (some ⟨bv,0,none⟩)] (XA base bv rb) (ArrI lo base br bd bres bv rb bt n) (fun w => Fr lo base br bd bres bv rb bt n w ∧ Loads bv 6 w) (stepA n) List.length rb bt cap ts := by
 intro acc l w hI hR hcnt
 obtain ⟨hF,⟨iv,vs,hO⟩,_⟩ := hI
 have hl0 : 0 < l.length := List.length_pos_iff.2 hR.fin.ne
 have c1 := cell_of_one hF.hbr
 have c2 := cell_of_one hF.hbd
 have V := Lib.hid (hv w rb bt cap ts l hR)
 rw [show ((17 - n : Nat) : Int) = ((16 - n : Nat) : Int) + 1 by omega] at V
 have hd : ((16 - n : Nat) : Int) ≤ 16 := by omega
 have hd0 : (0 : Int) ≤ ((16 - n : Nat) : Int) := by omega
 have HG := Lib.hid (val_good n l hR.fin)
 have hlen := hR.len
 have HF := Lib.hid hF
 obtain ⟨a1,a2,a3,a4,a5,a6⟩ := hF.low
 obtain ⟨b1,b2,b3,b4,b5⟩ := hF.high
 have HO := Lib.hid hO
 clear hF hO hR
 unfold stepA
 simp only
 generalize ((16 - n : Nat) : Int) = D at c2 V hd hd0
 unfold VRet at V
 obtain ⟨R,HRR⟩ : ∃ R,Hid (valS n l = R) := ⟨_,rfl⟩
 rw [HRR.out] at V HG ⊢
 obtain ⟨i0,hi0,hz0,hz1,hz2⟩ := info_parts json_info
 go_enter Tryz.func167,Tryz.ntmps167
 go_wp2_with (go_at_call 84;(with_reducible refine (V.out).mono ?_);rintro e1 w1 ⟨k,m,e',t,an,nn,cn,ai,ni,ci,rfl,hR1,hc1,hJ⟩)
 have hO1 : Own2 base bv n 6 (.slice none 0 0) iv [] vs acc w1 := HO.out.chgR hc1 (by omega) (by omega)
 have HO1 := Lib.hid hO1
 obtain ⟨ao,cap',rfl⟩ := own_slice hO1.irow
 obtain ⟨y0,y1,y2,y3,y4,y5⟩ := six_of hO1.blk
 have yf := free_of hO1.blk 5
 have hbl : bv < w1.heap.size := Own.block_lt hO1.blk
 have HROW := Lib.hid hO1.irow
 have HNE := Lib.hid hO1.ine
 have HC1 := Lib.hid hc1
 have HJ := Lib.hid hJ
 have hs1 := hc1.size
 clear hO1 c1 c2 V hc1 hJ
 have hil : (acc.length : Int) < (acc.length : Int) + 1 := by omega
 have cell2 : Hid (∀ {o1 o2 : Obj} {i : Nat} {v : Value},w1.cell? ⟨bv,i,none⟩ = some v → ((w1.alloc o1).alloc o2).drew.cell? ⟨bv,i,none⟩ = some v) := fun {o1 o2 i v} h => by
  show ((w1.alloc o1).alloc o2).cell? _ = _
  exact (World.cell?_of_block (w := w1) (a := ⟨bv,i,none⟩) ((Below.heap_alloc _ _ _ (by simp;omega)).trans (Below.heap_alloc _ _ _ hbl))).trans h
 have frozen2 : Hid (∀ {o1 o2 : Obj} {i : Nat},w1.frozen? ⟨bv,i,none⟩ = false → ((w1.alloc o1).alloc o2).drew.frozen? ⟨bv,i,none⟩ = false) := fun {o1 o2 i} h => by
  show ((w1.alloc o1).alloc o2).frozen? _ = _
  exact (World.frozen?_of_block (w := w1) (a := ⟨bv,i,none⟩) ((Below.heap_alloc _ _ _ (by simp;omega)).trans (Below.heap_alloc _ _ _ hbl))).trans h
 have fin : ∀ o1 o2 w2 g cp (z0 z1 z2 z3 z4 z5 : Value),w2.ownsRow base 58 6 (.slice (some ⟨g,0,none⟩) (acc.length + 1) cp) (acc.length + 1) (vs.flatMap aggC ++ [z0,z1,z2,z3,z4,z5]) → ((w1.alloc o1).alloc o2).drew.grownBy w2 (Value.slice ao acc.length cap').ownBlock → ((Value.slice ao acc.length cap').ownBlock = some g ∨ g = w1.heap.size + 2) →
  ∀ W,W = (put6 w2 g (acc.length * 6) (.int .i64 k) (.int .i64 m) (.int .i64 e') (.string t) (.slice an nn cn) (.slice ai ni ci)).setCell ⟨bv,5,none⟩ (.slice (some ⟨g,0,none⟩) (acc.length + 1) cp) →
  Rd W rb bt cap ts R.l ∧ Chg (XA base bv rb) w W ∧ (R.er = 0 → ArrI lo base br bd bres bv rb bt n (acc ++ [R.j]) W) ∧ (Fr lo base br bd bres bv rb bt n W ∧ Loads bv 6 W) ∧ (R.er = 0 → R.l.length < l.length) := by
  intro o1 o2 w2 g cp z0 z1 z2 z3 z4 z5 hown hgrow hat0 W hW
  have hat : (Value.slice ao acc.length cap').ownBlock = some g ∨ w1.heap.size ≤ g := hat0.imp id (fun h => by omega)
  have hBS : Below w1.heap.size w1 ((w1.alloc o1).alloc o2).drew := (((Below.refl _ _).alloc (Nat.le_refl _) _).alloc (by simp) _).drew
  have hib : ∀ b,(Value.slice ao acc.length cap').ownBlock = some b → base ≤ b ∧ b < w.heap.size := fun b hb => HO.out.irow.lt b hb
  obtain ⟨F1,F2,F3,F4,F5⟩ := step_frame (acc := acc) (bv := bv) (iv := .slice ao acc.length cap') hgrow hBS hat (.int .i64 k) (.int .i64 m) (.int .i64 e') (.string t) (.slice an nn cn) (.slice ai ni ci) (.slice (some ⟨g,0,none⟩) (acc.length + 1) cp)
  rw [← hW] at F1 F2 F3 F4 F5
  have hcW : Chg (XA base bv rb) w1 W := ⟨F3,F4,F5,F2,fun b hb hX => F1 b hb (fun h => hX (.inr (.inr (hib b h.symm).1))) (fun h => hX (.inr (.inl h)))⟩
  have hcw : Chg (XA base bv rb) w W := (HC1.out.mono (fun _ _ h => .inl h)).trans hcW
  have hFW := HF.out.chgA hcw
  have hRW : Rd W rb bt cap ts R.l := by
   refine hR1.keep (F1 rb hR1.lt ?_ (by omega)) (F1 bt hR1.blt ?_ (by omega)) F2
   ·intro h;have := (hib rb h.symm).1;omega
   ·intro h;have := (hib bt h.symm).1;omega
  refine ⟨hRW,hcw,fun h0 => ⟨hFW,⟨.slice (some ⟨g,0,none⟩) (acc.length + 1) cp,vs ++ [Value.agg #[.int .i64 k,.int .i64 m,.int .i64 e',.string t,.slice an nn cn,.slice ai ni ci]],?_⟩,by simp;omega⟩,⟨hFW,?_⟩,HG.out.2.2⟩
  ·rw [hW]
   exact step_own HO1.out hgrow hBS hat hown (HJ.out h0) (fun b hb _ => ⟨by omega,fun h => by have := (hib b h.symm).2;omega,(fun h => by simp [Value.ownBlock] at h),by omega⟩)
  ·have hb2 : (put6 w2 g (acc.length * 6) (.int .i64 k) (.int .i64 m) (.int .i64 e') (.string t) (.slice an nn cn) (.slice ai ni ci)).heap[bv]? = w1.heap[bv]? := by
    have hbg : bv ≠ g := by
     rcases hat with h | h
     ·rintro rfl;exact HNE.out h
     ·omega
    rw [put6_block _ _ _ _ _ _ _ _ _ _ hbg,hgrow.block bv (by show bv < ((w1.alloc o1).alloc o2).heap.size;simp;omega) (fun h => HNE.out h.symm)]
    exact (Below.heap_alloc _ _ _ (by simp;omega)).trans (Below.heap_alloc _ _ _ hbl)
   rw [hW]
   exact ⟨_,_,_,_,_,_,set_cell5 (hb2.trans HO1.out.blk) _⟩
 have FIN := Lib.hid fin
 clear fin HJ HC1 HG hR1
 go_region_law ((refine step_append_lies _ (by rfl) _ _ _ (by rfl) base 58 i0 _ 6 88 Tryz.underlying56 hi0 hz0 hz1 hz2 rfl (by omega) _ acc.length (vs.flatMap aggC) (by rfl) (((HROW.out.alloc _).alloc _).drew) ⟨w1.heap.size + 1,0,none⟩ 1 1 [.int .i64 0,.int .i64 0,.int .i64 0,.string ⟨#[]⟩,.slice none 0 0,.slice none 0 0] (by rfl) (by rfl) (World.news_of_block (cs := #[.int .i64 0,.int .i64 0,.int .i64 0,.string ⟨#[]⟩,.slice none 0 0,.slice none 0 0]) (t := 58) (fr := (0,0)) (two_new _ _ _)) (by simp [Value.oneCell']) (by omega) (by unfold maxLen;omega) (by omega) (by simp;omega) (w1.heap.size + 2) (by simp) ?_;intro g cp w2 hown hgrow hat hlt;obtain ⟨z0,z1,z2,z3,z4,z5⟩ := new_cells hown;have f0 := hown.frozenAt (acc.length * 6);have f1 := hown.frozenAt (acc.length * 6 + 1);have f2 := hown.frozenAt (acc.length * 6 + 2);have f3 := hown.frozenAt (acc.length * 6 + 3);have f4 := hown.frozenAt (acc.length * 6 + 4);have f5 := hown.frozenAt (acc.length * 6 + 5);have hbg : bv ≠ g := (by rcases hat with h | h;(intro e;subst e;exact HNE.out h);omega);have k5 := (hgrow.cell_far ⟨bv,5,none⟩ (by simp;omega) (fun h => HNE.out h.symm)).trans (cell2.out y5);have kf := (hgrow.frozen_far ⟨bv,5,none⟩ (by simp;omega) (fun h => HNE.out h.symm)).trans (frozen2.out yf)))
 all_goals go_wp2_with fail
 all_goals go_ret
 all_goals refine ⟨rfl,FIN.out _ _ w2 g cp _ _ _ _ _ _ hown hgrow hat _ ?_⟩
 all_goals first | (unfold put6;with_reducible rfl) | (rw [← put6_swap _ _ _ _ _ _ _ _ _ _ _ _ hbg];unfold put6;with_reducible rfl)
end Go.Proofs.YtmmbiknlicnamaaGreatDoor.Js
