import Derived.Test.YtmmbiknlicnamaaGreatDoorRd6
set_option maxHeartbeats 8000000
set_option linter.unusedVariables false
set_option linter.unusedSimpArgs false
namespace Go.Proofs.YtmmbiknlicnamaaGreatDoor.Js
open Go.RowKit Lex
theorem arr_until (n : Nat) : ∀ (fuel : Nat) (acc : List J) (l : List Tok),arrL (valS n) fuel acc l = ⟨(untilS (stepA n) 93 fuel acc l).1,if (untilS (stepA n) 93 fuel acc l).1 = 0 then .mk 6 0 0 [] [] (untilS (stepA n) 93 fuel acc l).2.1 else j0,(untilS (stepA n) 93 fuel acc l).2.2⟩
 | 0,acc,l => rfl
 | fuel + 1,acc,l => by
   rw [arrL,untilS]
   have e1 : (stepA n acc l).1 = (valS n l).er := rfl
   have e2 : (stepA n acc l).2.1 = acc ++ [(valS n l).j] := rfl
   have e3 : (stepA n acc l).2.2 = (valS n l).l := rfl
   by_cases h : (valS n l).er = 0
   ·rw [if_pos h,if_pos (e1.trans h),e2,e3]
    generalize (valS n l).l = q
    cases q with
    | nil => rfl
    | cons y l' =>
      simp only [moreS]
      by_cases h1 : sgB y 93 = true
      ·rw [if_pos h1,if_pos h1];rfl
      ·rw [if_neg h1,if_neg h1]
       by_cases h2 : sgB y 44 = true
       ·rw [if_pos h2,if_pos h2];exact arr_until n fuel _ l'
       ·rw [if_neg h2,if_neg h2];rfl
   ·rw [if_neg h,if_neg (by rw [e1];exact h),e1,if_neg h,e3]
theorem obj_until (n : Nat) : ∀ (fuel : Nat) (ns : List (List UInt8)) (acc : List J) (l : List Tok),objL (valS n) fuel ns acc l = ⟨(untilS (stepO n) 125 fuel (ns,acc) l).1,if (untilS (stepO n) 125 fuel (ns,acc) l).1 = 0 then .mk 7 0 0 [] (untilS (stepO n) 125 fuel (ns,acc) l).2.1.1 (untilS (stepO n) 125 fuel (ns,acc) l).2.1.2 else j0,(untilS (stepO n) 125 fuel (ns,acc) l).2.2⟩
 | 0,ns,acc,l => rfl
 | fuel + 1,ns,acc,l => by
   rw [objL,untilS]
   by_cases h0 : (nameS ns l).1 = 0
   ·have es : stepO n (ns,acc) l = ((valS n (nameS ns l).2.2).er,(ns ++ [(nameS ns l).2.1],acc ++ [(valS n (nameS ns l).2.2).j]),(valS n (nameS ns l).2.2).l) := by unfold stepO;rw [if_pos h0]
    rw [if_pos h0,es]
    simp only
    by_cases h : (valS n (nameS ns l).2.2).er = 0
    ·rw [if_pos h,if_pos h]
     generalize (valS n (nameS ns l).2.2).l = q
     cases q with
     | nil => rfl
     | cons y l' =>
       simp only [moreS]
       by_cases h1 : sgB y 125 = true
       ·rw [if_pos h1,if_pos h1];rfl
       ·rw [if_neg h1,if_neg h1]
        by_cases h2 : sgB y 44 = true
        ·rw [if_pos h2,if_pos h2];exact obj_until n fuel _ _ l'
        ·rw [if_neg h2,if_neg h2];rfl
    ·rw [if_neg h,if_neg h,if_neg h]
   ·have es : stepO n (ns,acc) l = ((nameS ns l).1,(ns,acc),(nameS ns l).2.2) := by unfold stepO;rw [if_neg h0]
    rw [if_neg h0,es]
    simp only
    rw [if_neg h0,if_neg h0]
theorem flat6_get {vs : List Value} (h6 : ∀ v ∈ vs,(aggC v).length = 6) : ∀ (j i : Nat),j < vs.length → i < 6 → (vs.flatMap aggC)[j * 6 + i]? = (aggC (vs.getD j undef))[i]? := by
 induction vs with
 | nil => intro j i hj;simp at hj
 | cons x l ih =>
   intro j i hj hi
   have hx := h6 x (by simp)
   rw [List.flatMap_cons]
   cases j with
   | zero => rw [List.getElem?_append_left (by omega)];simp
   | succ j =>
     rw [List.getElem?_append_right (by rw [hx];omega),hx,show (j + 1) * 6 + i - 6 = j * 6 + i by omega,ih (fun v hv => h6 v (by simp [hv])) j i (by simpa using hj) hi]
     simp
theorem Own2.jat {base bv n : Nat} {k : Int} {nv iv : Value} {ns : List (List UInt8)} {vs : List Value} {acc : List J} {w : World} (h : Own2 base bv n k nv iv ns vs acc w) (hk : i64B k) (hn : ns.length ≤ 1000000) (ha : acc.length ≤ 1000000) :
 JAt (fun b => base ≤ b) w (n + 1) (.agg #[.int .i64 k,.int .i64 0,.int .i64 0,.string ⟨#[]⟩,nv,iv]) (.mk k 0 0 [] ns acc) := by
 have hz : i64B 0 := ⟨by decide,by decide⟩
 have hmem : ∀ v ∈ vs,∃ i,i < acc.length ∧ v = vs.getD i undef := fun v hv => by
  obtain ⟨i,hi,rfl⟩ := List.mem_iff_getElem.1 hv
  exact ⟨i,by rw [← h.vl];exact hi,by rw [List.getD_eq_getElem?_getD,List.getElem?_eq_getElem hi];rfl⟩
 have h6 : ∀ v ∈ vs,(aggC v).length = 6 := fun v hv => by
  obtain ⟨i,hi,rfl⟩ := hmem v hv
  obtain ⟨_,_,_,_,_,_,_,_,_,_,e⟩ := jAt_form (h.items i hi)
  rw [e];rfl
 have hst : StrsAt (fun b => base ≤ b) w nv ns := by
  obtain ⟨an,cn,rfl⟩ := own_slice h.nrow
  rcases h.nrow.2 with ⟨e,h0⟩ | ⟨g,cap,cur,hv,hbg,hg,hnc,hcm,hcs,htake⟩
  ·exact ⟨an,cn,rfl,by omega,by omega,h.txt,fun hp => by omega⟩
  ·cases hv
   refine ⟨_,_,rfl,hnc,by omega,h.txt,fun _ => ⟨g,0,rfl,hbg,Own.block_lt hg,fun j hj => ?_⟩⟩
   rw [Nat.zero_add]
   have := h.nrow.cellAt j (by omega)
   rw [this,List.getElem?_map,List.getElem?_eq_getElem hj,List.getD_eq_getElem?_getD,List.getElem?_eq_getElem hj]
   rfl
 obtain ⟨ao,ci,rfl⟩ := own_slice h.irow
 refine ⟨nv,ao,ci,rfl,hk,hz,hz,by unfold txtB;simp,hst,?_,by omega,fun hp => ?_⟩
 ·rcases h.irow.2 with ⟨e,h0⟩ | ⟨g,cap,cur,hv,hbg,hg,hnc,_⟩
  ·omega
  ·cases hv;exact hnc
 ·rcases h.irow.2 with ⟨e,h0⟩ | ⟨g,cap,cur,hv,hbg,hg,hnc,_⟩
  ·omega
  ·cases hv
   refine ⟨g,0,rfl,hbg,Own.block_lt hg,fun i hi => ⟨vs.getD i undef,fun q c hc => ?_,(h.items i hi).keep (fun b hb _ => hb.1) (fun _ _ _ => rfl) (Nat.le_refl _)⟩⟩
   have hi2 : i < vs.length := by rw [h.vl];exact hi
   have hq : q < 6 := by
    have := (List.getElem?_eq_some_iff.1 hc).1
    rw [h6 _ (by rw [List.getD_eq_getElem?_getD,List.getElem?_eq_getElem hi2];exact List.getElem_mem _)] at this
    exact this
   rw [Nat.zero_add,h.irow.cellAt (i * 6 + q) (by omega),flat6_get h6 i q hi2 hq,hc]
theorem vret_fin {w W0 w1 : World} {rb bt cap bres base n : Nat} {ts : List Tok} {RR : R} {X : Nat → Prop} {k m e : Int} {t : ByteArray} {a a' : Option Addr} {nn c nn' c' : Nat} {E : Int}
 (hB : Below w.heap.size w W0) (hX : ∀ b,b < w.heap.size → X b → b = rb) (hc : Chg X W0 w1) (hR : Rd w1 rb bt cap ts RR.l) (h1 : w.heap.size ≤ bres) (h2 : bres < base) (h3 : rb < w.heap.size) (h4 : bt < w.heap.size) (hE : RR.er = E) (h5 : w.heap.size ≤ base)
 (hJ : E = 0 → JAt (fun b => base ≤ b) w1 n (.agg #[.int .i64 k,.int .i64 m,.int .i64 e,.string t,.slice a nn c,.slice a' nn' c']) RR.j) (c0 c1 c2 c3 c4 c5 : Value) :
 VRet w rb bt cap ts n RR (.returned (.tuple #[.agg #[.int .i64 k,.int .i64 m,.int .i64 e,.string t,.slice a nn c,.slice a' nn' c'],.int .i64 E])) (put6 w1 bres 0 c0 c1 c2 c3 c4 c5) := by
 have hsz := put6_size w1 bres 0 c0 c1 c2 c3 c4 c5
 have hbl := fun b h => put6_block w1 bres 0 c0 c1 c2 c3 c4 c5 b h
 obtain ⟨p1,p2,p3⟩ := put6_os w1 bres 0 c0 c1 c2 c3 c4 c5
 have s1 := hc.size
 have s2 := hB.size
 refine ⟨k,m,e,t,a,nn,c,a',nn',c',by rw [hE],hR.keep (hbl rb (by omega)) (hbl bt (by omega)) (by omega),⟨(p1.trans hc.os).trans hB.os,(p2.trans hc.tape).trans hB.tape,(p3.trans hc.output).trans hB.output,by omega,fun b hb hx => ?_⟩,fun h0 => ?_⟩
 ·rw [hbl b (by omega),hc.block b (by omega) (fun h => hx (hX b hb h)),hB.block b hb]
 ·exact (hJ (by rw [← hE];exact h0)).keep (fun b hb _ => by omega) (fun b hb _ => hbl b (by omega)) (by omega)
theorem alloc4 (w : World) (o1 o2 o3 o4 : Obj) : ((((w.alloc o1).alloc o2).alloc o3).alloc o4).heap[w.heap.size]? = some o1 ∧ ((((w.alloc o1).alloc o2).alloc o3).alloc o4).heap[w.heap.size + 1]? = some o2 ∧
 ((((w.alloc o1).alloc o2).alloc o3).alloc o4).heap[w.heap.size + 2]? = some o3 ∧ ((((w.alloc o1).alloc o2).alloc o3).alloc o4).heap[w.heap.size + 3]? = some o4 ∧ ((((w.alloc o1).alloc o2).alloc o3).alloc o4).heap.size = w.heap.size + 4 := by
 have n2 : ((w.alloc o1).alloc o2).heap[w.heap.size + 1]? = some o2 := by simpa using heap_alloc_new (w.alloc o1) o2
 have n3 : (((w.alloc o1).alloc o2).alloc o3).heap[w.heap.size + 2]? = some o3 := by simpa using heap_alloc_new ((w.alloc o1).alloc o2) o3
 have n4 : ((((w.alloc o1).alloc o2).alloc o3).alloc o4).heap[w.heap.size + 3]? = some o4 := by simpa using heap_alloc_new (((w.alloc o1).alloc o2).alloc o3) o4
 refine ⟨?_,?_,?_,n4,by simp⟩
 ·rw [Below.heap_alloc _ _ _ (by simp <;> omega),Below.heap_alloc _ _ _ (by simp <;> omega),Below.heap_alloc _ _ _ (by simp)];exact heap_alloc_new w o1
 ·rw [Below.heap_alloc _ _ _ (by simp <;> omega),Below.heap_alloc _ _ _ (by simp)];exact n2
 ·rw [Below.heap_alloc _ _ _ (by simp)];exact n3
def zero6 : Array Value := #[.int .i64 0,.int .i64 0,.int .i64 0,.string ⟨#[]⟩,.slice none 0 0,.slice none 0 0]
theorem own2_new {w : World} {base bv n : Nat} {k : Int} (h : w.heap[bv]? = some (.cells #[.int .i64 k,.int .i64 0,.int .i64 0,.string ⟨#[]⟩,.slice none 0 0,.slice none 0 0] 58 (0,0))) : Own2 base bv n k (.slice none 0 0) (.slice none 0 0) [] [] [] w :=
 ⟨h,World.ownsRow_nil _ _ _ _,World.ownsRow_nil _ _ _ _,rfl,by simp [Value.ownBlock],fun x hx => by simp at hx,fun i hi => by simp at hi⟩
theorem ArrI.chgR {lo base br bd bres bv rb bt n : Nat} {acc : List J} {w w' : World} (h : ArrI lo base br bd bres bv rb bt n acc w) (hc : Chg (· = rb) w w') : ArrI lo base br bd bres bv rb bt n acc w' := by
 obtain ⟨hF,⟨iv,vs,hO⟩,hb⟩ := h
 obtain ⟨a1,a2,a3,a4,a5,a6⟩ := hF.low
 obtain ⟨b1,b2,b3,b4,b5⟩ := hF.high
 exact ⟨hF.chgR hc,⟨iv,vs,hO.chgR hc (by omega) (by omega)⟩,hb⟩
set_option maxRecDepth 100000 in
theorem array_any (n : Nat) (hn : n ≤ 15) (hv : ValOk n) (w : World) (rb bt cap : Nat) (ts l : List Tok) (hR : Rd w rb bt cap ts l) :
 Calls Tryz.prog 115 #[.pointer (some ⟨rb,0,none⟩),.int .i64 ((16 - n : Nat) : Int)] w (VRet w rb bt cap ts (n + 1) (arrS (valS n) l)) := by
 obtain ⟨x,l1,rfl⟩ := ex_cons hR.fin
 obtain ⟨e1,e2,e3,e4,e5⟩ := alloc4 w (.cells #[.pointer (some ⟨rb,0,none⟩)] 159 (0,0)) (.cells #[.int .i64 ((16 - n : Nat) : Int)] 3 (0,0)) (.cells zero6 58 (0,0)) (.cells #[.int .i64 6,.int .i64 0,.int .i64 0,.string ⟨#[]⟩,.slice none 0 0,.slice none 0 0] 58 (0,0))
 have hmf : ∀ (fn : Fn) (first cap : Array Value) (w : World),(Instr.makeFunc fn first cap).run Tryz.prog w = .ok (.func fn first cap) w := fun _ _ _ _ => rfl
 have hbel : ∀ o1 o2 o3 o4,Below w.heap.size w ((((w.alloc o1).alloc o2).alloc o3).alloc o4) := fun o1 o2 o3 o4 => ((((Below.refl _ _).alloc (Nat.le_refl _) _).alloc (by simp) _).alloc (by simp;omega) _).alloc (by simp;omega) _
 have HBEL := Lib.hid hbel
 have hrl := hR.lt
 have htl := hR.blt
 have HR := Lib.hid hR
 have hF0 : Fr w.heap.size (w.heap.size + 4) w.heap.size (w.heap.size + 1) (w.heap.size + 2) (w.heap.size + 3) rb bt n ((((w.alloc (.cells #[.pointer (some ⟨rb,0,none⟩)] 159 (0,0))).alloc (.cells #[.int .i64 ((16 - n : Nat) : Int)] 3 (0,0))).alloc (.cells zero6 58 (0,0))).alloc (.cells #[.int .i64 6,.int .i64 0,.int .i64 0,.string ⟨#[]⟩,.slice none 0 0,.slice none 0 0] 58 (0,0))) :=
  ⟨e1,e2,e3,⟨hrl,htl,by omega,by omega,by omega,by omega⟩,⟨by omega,by omega,by omega,by omega,by omega⟩,⟨by omega,by omega,by omega⟩⟩
 have hI0 : ArrI w.heap.size (w.heap.size + 4) w.heap.size (w.heap.size + 1) (w.heap.size + 2) (w.heap.size + 3) rb bt n [] _ := ⟨hF0,⟨_,_,own2_new e4⟩,by simp⟩
 have HI0 := Lib.hid hI0
 have hlen : 0 + (x :: l1).length ≤ ts.length := by have := hR.suf.length_le;omega
 have U := Lib.hid (until_arr (σ := List J) #[.pointer (some ⟨w.heap.size,0,none⟩),.pointer (some ⟨w.heap.size + 1,0,none⟩),.pointer (some ⟨w.heap.size + 3,0,none⟩)] (XA (w.heap.size + 4) (w.heap.size + 3) rb) (ArrI w.heap.size (w.heap.size + 4) w.heap.size (w.heap.size + 1) (w.heap.size + 2) (w.heap.size + 3) rb bt n)
  (fun w' => Fr w.heap.size (w.heap.size + 4) w.heap.size (w.heap.size + 1) (w.heap.size + 2) (w.heap.size + 3) rb bt n w' ∧ Loads (w.heap.size + 3) 6 w') (stepA n) List.length (fun st l => by simp [stepA]) rb bt cap ts 93 ⟨#[93]⟩ rfl (.inl rfl)
  (arr1_step n hn hv _ _ _ _ _ _ rb bt cap ts) (fun st w w' h hc => h.chgR hc) (fun w1 w2 h hc => ⟨h.1.chgR hc,h.2.chg hc (by omega)⟩) (fun st w h => ⟨h.fr,by obtain ⟨iv,vs,hO⟩ := h.own;exact hO.loads⟩)
  [] x l1 _ HI0.out (hR.below (HBEL.out _ _ _ _)) hlen)
 have HRES : Hid (arrS (valS n) (x :: l1) = ⟨(if sgB x 93 = true then (0,[],l1) else untilS (stepA n) 93 (x :: l1).length [] (x :: l1)).1,if (if sgB x 93 = true then ((0 : Int),([] : List J),l1) else untilS (stepA n) 93 (x :: l1).length [] (x :: l1)).1 = 0 then .mk 6 0 0 [] [] (if sgB x 93 = true then (0,[],l1) else untilS (stepA n) 93 (x :: l1).length [] (x :: l1)).2.1 else j0,(if sgB x 93 = true then (0,[],l1) else untilS (stepA n) 93 (x :: l1).length [] (x :: l1)).2.2⟩) := by
  show _ = _
  unfold arrS
  dsimp only
  by_cases h : sgB x 93 = true
  ·simp [h]
  ·simp only [if_neg h]
   exact arr_until n _ _ _
 obtain ⟨RR,HRR⟩ : ∃ RR,Hid (arrS (valS n) (x :: l1) = RR) := ⟨_,rfl⟩
 have HRQ := Lib.hid (HRR.out.symm.trans HRES.out)
 rw [HRR.out]
 clear HRES HRR hR hI0 hF0 hbel hlen e1 e2 e3 e4 e5
 simp only at U
 generalize (if sgB x 93 = true then ((0 : Int),([] : List J),l1) else untilS (stepA n) 93 (x :: l1).length [] (x :: l1)) = Q at *
 obtain ⟨E,acc,l2⟩ := Q
 simp only at U HRQ
 unfold zero6 at U
 generalize ((16 - n : Nat) : Int) = D at *
 go_enter Tryz.func115,Tryz.ntmps115
 go_wp2_with (go_at_call 166;(with_reducible refine (U.out).mono ?_);rintro e1 w1 ⟨rfl,hR1,hc1,hI1,hF1,hL1⟩;have HI1 := Lib.hid hI1;clear hI1;obtain ⟨a,nn,c,a',nn',c',hL⟩ := hL1;obtain ⟨y0,y1,y2,y3,y4,y5⟩ := six_of hL;obtain ⟨z0,z1,z2,z3,z4,z5⟩ := six_of hF1.hres;have f0 := free_of hF1.hres 0;have f1 := free_of hF1.hres 1;have f2 := free_of hF1.hres 2;have f3 := free_of hF1.hres 3;have f4 := free_of hF1.hres 4;have f5 := free_of hF1.hres 5)
 refine bodyPost_ret (v := .tuple #[.agg #[.int .i64 6,.int .i64 0,.int .i64 0,.string ⟨#[]⟩,.slice a nn c,.slice a' nn' c'],.int .i64 E]) (by simp [results,Tryz.results115,go_sem,z0,z1,z2,z3,z4,z5]) rfl ?_
 have hER : RR.er = E := by rw [HRQ.out]
 have hlR : l2 = RR.l := by rw [HRQ.out]
 rw [hlR] at hR1
 have hJ : E = 0 → JAt (fun b => w.heap.size + 4 ≤ b) w1 (n + 1) (.agg #[.int .i64 6,.int .i64 0,.int .i64 0,.string ⟨#[]⟩,.slice a nn c,.slice a' nn' c']) RR.j := fun h0 => by
  obtain ⟨_,⟨iv,vs,hO⟩,hbn⟩ := HI1.out h0
  have := hO.jat ⟨by decide,by decide⟩ (by simp) hbn
  have hb := hO.blk
  rw [hL] at hb
  simp only [Option.some.injEq,Obj.cells.injEq,and_true,Array.mk.injEq,List.cons.injEq,true_and] at hb
  obtain ⟨e1,e2⟩ := hb
  rw [← e2,← e1] at this
  rw [HRQ.out,if_pos h0]
  exact this
 exact vret_fin (bres := w.heap.size + 2) (HBEL.out _ _ _ _) (fun b hb hx => by unfold XA at hx;omega) hc1 hR1 (by omega) (by omega) hrl htl hER (by omega) hJ _ _ _ _ _ _
end Go.Proofs.YtmmbiknlicnamaaGreatDoor.Js
