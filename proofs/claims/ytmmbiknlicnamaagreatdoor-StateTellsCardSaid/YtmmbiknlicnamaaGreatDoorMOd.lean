import Derived.Test.YtmmbiknlicnamaaGreatDoorInv
import Derived.Test.YtmmbiknlicnamaaGreatDoorJm
import Derived.Test.YtmmbiknlicnamaaGreatDoorMOb
import Derived.Test.YtmmbiknlicnamaaGreatDoorWr3
import Derived.Test.YtmmbiknlicnamaaGreatDoorMOc
import Derived.Test.YtmmbiknlicnamaaGreatDoorME
import Derived.Test.YtmmbiknlicnamaaGreatDoorMS
set_option maxHeartbeats 8000000
set_option linter.unusedVariables false
set_option linter.unusedSimpArgs false
namespace Go.Proofs.YtmmbiknlicnamaaGreatDoor.Od
open Go.RowKit Js
theorem all_run {ops : Array Oper} {l : Array Bool} {md : Region.Mode} (hac : ∀ (i : Nat) (o : Oper),ops[i]? = some o → ∀ e ∈ o.after.toList,e.on < i) (hs : l.size = ops.size) (hr : Region.ready md ops l = []) : ∀ i,i < ops.size → l.getD i false = true := by
 intro i
 induction i using Nat.strongRecOn with
 | ind i ih =>
   intro hi
   cases h : l.getD i false with
   | true => rfl
   | false =>
     exfalso
     have hm : i ∈ Region.ready md ops l := by
      unfold Region.ready
      rw [List.mem_filter]
      refine ⟨List.mem_range.2 hi,?_⟩
      have h1 : l.getD i true = false := by
       rw [Array.getD_eq_getD_getElem?,Array.getElem?_eq_getElem (by omega)] at h ⊢
       exact h
      rw [h1,Array.getElem?_eq_getElem hi]
      simp only [Bool.not_false,Bool.true_and,Option.map_some,Option.getD_some]
      rw [Array.all_eq_true']
      intro e he
      have h2 := ih e.on (hac i _ (Array.getElem?_eq_getElem hi) e (by simpa using he)) (by
       have := hac i _ (Array.getElem?_eq_getElem hi) e (by simpa using he)
       omega)
      rw [h2,Bool.or_true]
     rw [hr] at hm
     cases hm
def acB (ops : Array Oper) : Bool := (List.range ops.size).all fun i => match ops[i]? with | some o => o.after.toList.all (fun e => decide (e.on < i)) | none => true
def lastB (ops : Array Oper) (N : Nat) : Bool := match ops[N]? with | some o => (List.range N).all (fun j => o.after.toList.any fun e => Region.binds .any e && e.on == j) | none => true
theorem acB_of {ops : Array Oper} (h : acB ops = true) : ∀ (i : Nat) (o : Oper),ops[i]? = some o → ∀ e ∈ o.after.toList,e.on < i := fun i o ho e he => by
 have hi : i < ops.size := (Array.getElem?_eq_some_iff.1 ho).1
 have h1 := List.all_eq_true.1 h i (List.mem_range.2 hi)
 rw [ho] at h1
 have h2 := List.all_eq_true.1 h1 e he
 simpa using h2
theorem lastB_of {ops : Array Oper} {N : Nat} (h : lastB ops N = true) : ∀ o,ops[N]? = some o → ∀ j,j < N → ∃ e ∈ o.after.toList,Region.binds .any e = true ∧ e.on = j := fun o ho j hj => by
 unfold lastB at h
 rw [ho] at h
 have h1 := List.all_eq_true.1 h j (List.mem_range.2 hj)
 obtain ⟨e,he,h2⟩ := List.any_eq_true.1 h1
 rw [Bool.and_eq_true,beq_iff_eq] at h2
 exact ⟨e,he,h2.1,h2.2⟩
theorem wpOp_here {P : Program} {ops : Array Oper} {Q : Exit → Act → World → Prop} {i : Nat} {K : Act → World → Prop} {a : Act} {w : World} {o : Oper} (ho : ops[i]? = some o)
 (h : ∀ K' : Act → World → Prop,(∀ a w,K a w → K' a w) → if Region.wanted o (yielded ops a.tmps) = true then Oper.wp P o a w K' Q else K' (a.put o.dst undef) w) : wpOp P ops Q i K a w := by
 have := h K (fun _ _ h => h)
 unfold wpOp
 rw [ho]
 by_cases hw : Region.wanted o (yielded ops a.tmps) = true
 ·rw [if_pos hw] at this
  simp only [hw,if_true]
  exact .inl this
 ·rw [if_neg hw] at this
  simp only [hw]
  exact this
def Stable (p : Value → World → Prop) : Prop := ∀ z w w',p z w → Below w.heap.size w w' → p z w'
theorem stable_eq (v : Value) : Stable (fun z _ => z = v) := fun _ _ _ h _ => h
structure FF (w0 : World) (PS : List (Value → World → Prop)) (zs : List Value) (l : Array Bool) (w : World) : Prop where
 bel : Below w0.heap.size w0 w
 fact : ∀ j p z,PS[j]? = some p → zs[j]? = some z → l.getD j false = true → p z w
theorem FF.step {w0 w w' : World} {PS : List (Value → World → Prop)} {zs : List Value} {l : Array Bool} (h : FF w0 PS zs l w) (hs : ∀ p ∈ PS,Stable p) {i : Nat} (hi : i < zs.length) {v : Value} (hb : Below w.heap.size w w') (hv : ∀ p,PS[i]? = some p → p v w') :
 FF w0 PS (zs.set i v) (l.setIfInBounds i true) w' := by
 refine ⟨h.bel.trans (hb.mono h.bel.size),fun j q z hj hz hL => ?_⟩
 by_cases e : i = j
 ·subst e
  rw [List.getElem?_set_self hi] at hz
  cases hz
  exact hv q hj
 ·rw [List.getElem?_set_ne e] at hz
  have hL' : l.getD j false = true := by
   rw [Array.getD_eq_getD_getElem?,Array.getElem?_setIfInBounds_ne e] at hL
   rw [Array.getD_eq_getD_getElem?];exact hL
  exact hs q (List.mem_of_getElem? hj) z w w' (h.fact j q z hj hz hL') hb
def StepOk (P : Program) (ops : Array Oper) (Q : Exit → Act → World → Prop) (mk : List Value → Act) (w0 : World) (PS : List (Value → World → Prop)) (i : Nat) : Prop :=
 ∀ zs l wz o,zs.length = PS.length → FF w0 PS zs l wz → ops[i]? = some o → (∀ e ∈ o.after.toList,Region.binds .any e = true → l.getD e.on false = true) →
   wpOp P ops Q i (fun a' w' => ∃ v,a' = mk (zs.set i v) ∧ Below wz.heap.size wz w' ∧ ∀ p,PS[i]? = some p → p v w') (mk zs) wz
theorem wp_region_grow {P : Program} {id : Nat} {ops : Array Oper} {Q : Exit → Act → World → Prop} {a : Act} {w : World} (hm : P.follows .mixedOrders = true) (mk : List Value → Act) (PS : List (Value → World → Prop)) (zs0 : List Value)
 (hN : ops.size = PS.length + 1) (hz0 : zs0.length = PS.length) (ha : a = mk zs0) (hst : ∀ p ∈ PS,Stable p)
 (hac' : acB ops = true) (hall' : lastB ops PS.length = true)
 (hstep : ∀ i,i < PS.length → StepOk P ops Q mk w PS i)
 (hfin : ∀ zs wz,zs.length = PS.length → Below w.heap.size w wz → (∀ (j : Nat) (p : Value → World → Prop) (z : Value),PS[j]? = some p → zs[j]? = some z → p z wz) → wpOp P ops Q PS.length (fun a' w' => Q .normal a' w') (mk zs) wz) :
 (Code.region id ops true).wp P Q a w := by
 have hac := acB_of hac'
 have hall := lastB_of hall'
 refine wp_region_inv hm (fun l a wz => if l.getD PS.length false = true then (∀ j,j < ops.size → l.getD j false = true) ∧ Q .normal a wz else ∃ zs,zs.length = PS.length ∧ a = mk zs ∧ FF w PS zs l wz) ?_ ?_ ?_
 ·have hz : (Array.replicate ops.size false).getD PS.length false = false := by
   rw [Array.getD_eq_getD_getElem?,Array.getElem?_replicate];split <;> rfl
  rw [hz,if_neg (by decide)]
  refine ⟨zs0,hz0,ha,(Below.refl _ _).drew,fun j p z _ _ hL => ?_⟩
  rw [Array.getD_eq_getD_getElem?,Array.getElem?_replicate] at hL
  split at hL <;> cases hL
 ·intro l a wz i hl hi hI
  obtain ⟨hli,o,ho,hpre⟩ := ready_mem hi
  have hi' : i < ops.size := (Array.getElem?_eq_some_iff.1 ho).1
  by_cases hlast : l.getD PS.length false = true
  ·exfalso
   rw [if_pos hlast] at hI
   have h1 := hI.1 i hi'
   rw [Array.getD_eq_getD_getElem?,Array.getElem?_eq_getElem (by omega)] at h1 hli
   simp only [Option.getD_some] at h1 hli
   rw [h1] at hli
   cases hli
  ·rw [if_neg hlast] at hI
   obtain ⟨zs,hzl,rfl,hF⟩ := hI
   by_cases e : i = PS.length
   ·subst e
    have hev : ∀ (j : Nat) (p : Value → World → Prop) (z : Value),PS[j]? = some p → zs[j]? = some z → p z wz := fun j p z hj hz => by
     have hjl : j < PS.length := (List.getElem?_eq_some_iff.1 hj).1
     obtain ⟨e,he,hb,hej⟩ := hall o ho j hjl
     subst hej
     exact hF.fact _ p z hj hz (hpre e he hb)
    refine wpOp_mono (fun a' w' h => ?_) (hfin zs wz hzl hF.bel hev)
    rw [if_pos]
    ·refine ⟨fun j hj => ?_,h⟩
     by_cases hjN : PS.length = j
     ·subst hjN
      rw [Array.getD_eq_getD_getElem?,Array.getElem?_setIfInBounds_self_of_lt (by omega)];rfl
     ·rw [Array.getD_eq_getD_getElem?,Array.getElem?_setIfInBounds_ne hjN,← Array.getD_eq_getD_getElem?]
      obtain ⟨e,he,hb,hej⟩ := hall o ho j (by omega)
      subst hej
      exact hpre e he hb
    ·rw [Array.getD_eq_getD_getElem?,Array.getElem?_setIfInBounds_self_of_lt (by omega)];rfl
   ·refine wpOp_mono (fun a' w' h => ?_) (hstep i (by omega) zs l wz o hzl hF ho hpre)
    obtain ⟨v,rfl,hb,hv⟩ := h
    have hne : (l.setIfInBounds i true).getD PS.length false = l.getD PS.length false := by
     rw [Array.getD_eq_getD_getElem?,Array.getElem?_setIfInBounds_ne e,Array.getD_eq_getD_getElem?]
    rw [hne,if_neg hlast]
    exact ⟨zs.set i v,by simpa using hzl,rfl,hF.step hst (by omega) hb hv⟩
 ·intro l a wz hl hr hI
  have := all_run hac hl hr PS.length (by omega)
  rw [if_pos this] at hI
  exact hI.2
end Go.Proofs.YtmmbiknlicnamaaGreatDoor.Od
namespace Go.Proofs.YtmmbiknlicnamaaGreatDoor.Od
open Go.RowKit Js Lex
theorem intJ_num {n : Int} (h : numB n = true) : intJ n = numJ n := by
 obtain ⟨h0,h1⟩ := numB_iff h
 have h2 : (Dec.mk n 0).2.2 = true := by
  by_cases hn : n = 0
  ·subst hn
   rw [Dec.mk_zero]
  ·have hv := Dec.strip_val n
   have hs := Dec.strip_ne n hn
   generalize hst : Dec.strip n = st at hv hs
   obtain ⟨q,k⟩ := st
   simp only at hv hs
   obtain ⟨g1,g2,g3⟩ := ten_pow hs.2 hv.symm h0 h1
   unfold Dec.mk Dec.p15
   rw [if_neg hn,hst]
   simp only
   rw [if_pos (by omega)]
 unfold intJ numJ
 rw [if_pos h2]
theorem numB_64 {n : Int} (h : numB n = true) : -9223372036854775808 ≤ n ∧ n ≤ 9223372036854775807 := by
 have := numB_iff h
 omega
theorem int_num (n : Int) (h : numB n = true) (w : World) : Calls Tryz.prog 67 #[.int .i64 n] w (Ret (bareV 4 (Dec.mk n 0).1 (Dec.mk n 0).2.1 []) w) := by
 have := int5_any n w (numB_64 h).1 (numB_64 h).2
 rwa [intJ_num h] at this
theorem num_i64 {n : Int} (h : numB n = true) : i64B (Dec.mk n 0).1 ∧ i64B (Dec.mk n 0).2.1 := by
 obtain ⟨b1,b2,b3,b4⟩ := Dec.rightB_bounds (num_told h).2
 exact ⟨⟨by omega,by omega⟩,⟨by omega,by omega⟩⟩
theorem num_jat {S : Nat → Prop} {w : World} {n : Int} (h : numB n = true) : JAt S w 1 (bareV 4 (Dec.mk n 0).1 (Dec.mk n 0).2.1 []) (numJ n) := leaf_jat (d := 0) (t := []) ⟨by decide,by decide⟩ (num_i64 h).1 (num_i64 h).2 (by unfold txtB;simp)
theorem flag_jat {S : Nat → Prop} {w : World} (b : Bool) : JAt S w 1 (bareV (if b = true then 3 else 2) 0 0 []) (boolJ b) := leaf_jat (d := 0) (t := []) (by cases b <;> exact ⟨by decide,by decide⟩) ⟨by decide,by decide⟩ ⟨by decide,by decide⟩ (by unfold txtB;simp)
theorem strs_lit {w : World} {b c : Nat} {T : TypeId} {fr : Nat × Nat} {l : List (List UInt8)} (h : w.heap[b]? = some (.cells (l.map strW).toArray T fr)) (hc : l.length ≤ c) (hl : l.length ≤ 100) (ht : ∀ n ∈ l,txtB n) : StrsAt Any w (.slice (some ⟨b,0,none⟩) l.length c) l :=
 ⟨_,_,rfl,hc,by omega,ht,fun _ => ⟨b,0,rfl,trivial,Own.block_lt h,fun j hj => by
   rw [cell_of_row _ _ _ _ _ _ h,Nat.zero_add]
   simp [List.getD,hj]⟩⟩
theorem its_lit {S : Nat → Prop} {w : World} {b d : Nat} {T : TypeId} {fr : Nat × Nat} {us : List Value} {is : List J} (h : w.heap[b]? = some (.cells (us.flatMap aggC).toArray T fr)) (hS : S b) (hl : us.length = is.length) (h6 : ∀ u ∈ us,(aggC u).length = 6)
 (hJ : ∀ i,i < is.length → JAt S w d (us.getD i undef) (is.getD i j0)) : ItemsAt S w d (some ⟨b,0,none⟩) is := fun _ =>
 ⟨b,0,rfl,hS,Own.block_lt h,fun i hi => ⟨us.getD i undef,fun q c hq => by
   have hm : us.getD i undef ∈ us := by
    rw [List.getD_eq_getElem?_getD,List.getElem?_eq_getElem (by omega)]
    exact List.getElem_mem _
   have hq6 : q < 6 := by
    have := (List.getElem?_eq_some_iff.1 hq).1
    rw [h6 _ hm] at this
    exact this
   rw [cell_of_row _ _ _ _ _ _ h,Nat.zero_add,← hq,← flat6_get h6 i q (by omega) hq6]
   simp,hJ i hi⟩⟩
end Go.Proofs.YtmmbiknlicnamaaGreatDoor.Od
namespace Go.Proofs.YtmmbiknlicnamaaGreatDoor.Od
open Go.RowKit Js Lex
end Go.Proofs.YtmmbiknlicnamaaGreatDoor.Od
namespace Go.Proofs.YtmmbiknlicnamaaGreatDoor.Od
open Go.RowKit Js Lex
def namesO : List (List UInt8) := [hdrL,serL,ordL,updL,nodL,edgL]
def JV (lo d : Nat) (j : J) (z : Value) (w : World) : Prop := (∃ k m e t an nn cn ai ni ci,z = .agg #[.int .i64 k,.int .i64 m,.int .i64 e,.string t,.slice an nn cn,.slice ai ni ci]) ∧ JAt (fun b => lo ≤ b) w d z j
theorem JV.stable (lo d : Nat) (j : J) : Stable (JV lo d j) := fun z w w' h hb => ⟨h.1,h.2.below hb (Nat.le_refl _)⟩
def NamesV (z : Value) (w : World) : Prop := ∃ b,z = .slice (some ⟨b,0,none⟩) 6 6 ∧ StrsAt Any w z namesO
theorem NamesV.stable : Stable NamesV := fun z w w' ⟨b,e,h⟩ hb => ⟨b,e,h.keep (fun _ _ _ => trivial) (fun k _ hk => hb.block k hk) hb.size⟩
def ItemsV (is : List J) (z : Value) (w : World) : Prop := ∃ b,z = .slice (some ⟨b,0,none⟩) 6 6 ∧ ItemsAt Any w 3 (some ⟨b,0,none⟩) is
theorem ItemsV.stable (is : List J) : Stable (ItemsV is) := fun z w w' ⟨b,e,h⟩ hb => ⟨b,e,h.below hb⟩
theorem name_ok : NameOk Tp.nameB := fun l h => ⟨by
 unfold asciiB
 rw [List.all_eq_true]
 intro c hc
 have := Tp.name_of h c hc
 unfold Tp.ofB at this
 simp only [decide_eq_true_eq] at this
 simp only [Bool.and_eq_true,decide_eq_true_eq]
 omega,(Tp.name_len h).2⟩
def itemsO (x : O) : List J := [numJ x.h,.mk 5 0 0 x.v [] [],numJ x.o,numJ x.u,.mk 6 0 0 [] [] (x.ns.map (partJ nidL)),.mk 6 0 0 [] [] (x.es.map (partJ eidL))]
theorem str_jat {S : Nat → Prop} {w : World} {t : List UInt8} (h : txtB t) : JAt S w 1 (bareV 5 0 0 t) (.mk 5 0 0 t [] []) := leaf_jat (d := 0) ⟨by decide,by decide⟩ ⟨by decide,by decide⟩ ⟨by decide,by decide⟩ h
end Go.Proofs.YtmmbiknlicnamaaGreatDoor.Od
