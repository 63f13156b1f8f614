/- The law StateTells (states may be, are laid, taken, and newer as the document says) answers true for all inputs; taken that Go's own tables (those of strconv, math/bits and unicode/utf8) hold what the program's text lays, which the card ties. -/
import Derived.Test.YtmmbiknlicnamaaGreatDoorMAz
import Derived.Test.YtmmbiknlicnamaaGreatDoorSBr
import Derived.ShutString
import Derived.Test.YtmmbiknlicnamaaGreatDoorMF
import Derived.Test.YtmmbiknlicnamaaGreatDoorMG
set_option maxHeartbeats 8000000
set_option linter.unusedVariables false
set_option linter.unusedSimpArgs false
set_option linter.constructorNameAsVariable false
namespace Go.Proofs.YtmmbiknlicnamaaGreatDoor.Sta
open Go.ChangeShapes Go.WideShapes Go.ChangeAt Go.RowKit Js Lex Od
theorem trod_struct10 {H : Type} {enc : TypeId × Value → H} {P : Program} {w : World} {base : Nat} {spare : Nat → Bool} {held : Bool} {t : TypeId} {f0 f1 f2 f3 f4 f5 f6 f7 f8 f9 : Field} {fuel : Nat} {cs : List Value} {x : DataW H × List MemPlace} (ht : P.underlying t = some (.struct #[f0,f1,f2,f3,f4,f5,f6,f7,f8,f9])) (h : DataW.trod enc P w base spare held fuel t cs = some x) :
 ∃ y0 y1 y2 y3 y4 y5 y6 y7 y8 y9 n,x.1 = .agg [y0.1,y1.1,y2.1,y3.1,y4.1,y5.1,y6.1,y7.1,y8.1,y9.1] ∧ cs.length = P.cellsOf t ∧ DataW.trod enc P w base spare held n f0.type ((cs.drop f0.offset).take (P.cellsOf f0.type)) = some y0 ∧ DataW.trod enc P w base spare held n f1.type ((cs.drop f1.offset).take (P.cellsOf f1.type)) = some y1 ∧ DataW.trod enc P w base spare held n f2.type ((cs.drop f2.offset).take (P.cellsOf f2.type)) = some y2 ∧ DataW.trod enc P w base spare held n f3.type ((cs.drop f3.offset).take (P.cellsOf f3.type)) = some y3 ∧ DataW.trod enc P w base spare held n f4.type ((cs.drop f4.offset).take (P.cellsOf f4.type)) = some y4 ∧ DataW.trod enc P w base spare held n f5.type ((cs.drop f5.offset).take (P.cellsOf f5.type)) = some y5 ∧ DataW.trod enc P w base spare held n f6.type ((cs.drop f6.offset).take (P.cellsOf f6.type)) = some y6 ∧ DataW.trod enc P w base spare held n f7.type ((cs.drop f7.offset).take (P.cellsOf f7.type)) = some y7 ∧ DataW.trod enc P w base spare held n f8.type ((cs.drop f8.offset).take (P.cellsOf f8.type)) = some y8 ∧ DataW.trod enc P w base spare held n f9.type ((cs.drop f9.offset).take (P.cellsOf f9.type)) = some y9 := by
 obtain ⟨xs,n,_,rfl,hl,hlen,hf⟩ := DataW.trod_struct ht h
 match xs,hlen with
 | [y0,y1,y2,y3,y4,y5,y6,y7,y8,y9],_ => exact ⟨y0,y1,y2,y3,y4,y5,y6,y7,y8,y9,n,by simp,hl,by simpa using hf 0 f0 rfl,by simpa using hf 1 f1 rfl,by simpa using hf 2 f2 rfl,by simpa using hf 3 f3 rfl,by simpa using hf 4 f4 rfl,by simpa using hf 5 f5 rfl,by simpa using hf 6 f6 rfl,by simpa using hf 7 f7 rfl,by simpa using hf 8 f8 rfl,by simpa using hf 9 f9 rfl⟩
structure KnownT (t : TypeId) (f0 f1 f2 f3 f4 f5 f6 f7 f8 f9 : Field) : Prop where
 o : Tryz.prog.underlying t = some (.struct #[f0,f1,f2,f3,f4,f5,f6,f7,f8,f9])
 types : [f0.type,f1.type,f2.type,f3.type,f4.type,f5.type,f6.type,f7.type,f8.type,f9.type] = [3,3,9,3,3,4,3,3,4,3]
 places : [f0.offset,f1.offset,f2.offset,f3.offset,f4.offset,f5.offset,f6.offset,f7.offset,f8.offset,f9.offset] = [0,1,2,3,4,5,6,7,8,9]
 c : Tryz.prog.cellsOf t = 10
set_option maxRecDepth 100000 in
theorem open_state_at {H : Type} {enc : TypeId × Value → H} {W : World} {base : Nat} {v : Value} {d : DataW H} {p : List MemPlace} {t : TypeId} {f0 f1 f2 f3 f4 f5 f6 f7 f8 f9 : Field} (K : KnownT t f0 f1 f2 f3 f4 f5 f6 f7 f8 f9)
 (hval : Value.okWide Tryz.prog W .any base t v) (h : DataW.Trod enc Tryz.prog W 0 (fun _ => true) true t v d p) (hw : Wt t d) : ∃ x : S9,v = sV x ∧ x.ok := by
 obtain ⟨cs,rfl,hsz⟩ := okWide_struct K.o hval
 obtain ⟨fuel,hf⟩ := h
 obtain ⟨y0,y1,y2,y3,y4,y5,y6,y7,y8,y9,n',hx,hcl,t0,t1,t2,t3,t4,t5,t6,t7,t8,t9⟩ := trod_struct10 K.o hf
 have T := K.types
 have Pz := K.places
 simp only [List.cons.injEq,and_true] at T Pz
 obtain ⟨T0,T1,T2,T3,T4,T5,T6,T7,T8,T9⟩ := T
 obtain ⟨P0,P1,P2,P3,P4,P5,P6,P7,P8,P9⟩ := Pz
 rw [K.c] at hcl
 rw [T0,P0] at t0
 rw [T1,P1] at t1
 rw [T2,P2] at t2
 rw [T3,P3] at t3
 rw [T4,P4] at t4
 rw [T5,P5] at t5
 rw [T6,P6] at t6
 rw [T7,P7] at t7
 rw [T8,P8] at t8
 rw [T9,P9] at t9
 simp only [Od.cellsInt,Od.cellsStr,Od.cellsBool] at t0 t1 t2 t3 t4 t5 t6 t7 t8 t9
 simp only [Value.cells] at hcl t0 t1 t2 t3 t4 t5 t6 t7 t8 t9
 obtain ⟨l⟩ := cs
 simp only at hcl t0 t1 t2 t3 t4 t5 t6 t7 t8 t9
 match l,hcl with
 | [c0,c1,c2,c3,c4,c5,c6,c7,c8,c9],_ =>
   have hx' : d = .agg [y0.1,y1.1,y2.1,y3.1,y4.1,y5.1,y6.1,y7.1,y8.1,y9.1] := hx
   subst hx'
   obtain ⟨a0,e0,-,w0⟩ := DataW.trod_int Tryz.underlying3 t0
   obtain ⟨a1,e1,-,w1⟩ := DataW.trod_int Tryz.underlying3 t1
   obtain ⟨a2,e2,hy1,hs⟩ := DataW.trod_string Tryz.underlying9 t2
   obtain ⟨a3,e3,-,w3⟩ := DataW.trod_int Tryz.underlying3 t3
   obtain ⟨a4,e4,-,w4⟩ := DataW.trod_int Tryz.underlying3 t4
   obtain ⟨a5,e5,-⟩ := DataW.trod_bool Tryz.underlying4 t5
   obtain ⟨a6,e6,-,w6⟩ := DataW.trod_int Tryz.underlying3 t6
   obtain ⟨a7,e7,-,w7⟩ := DataW.trod_int Tryz.underlying3 t7
   obtain ⟨a8,e8,-⟩ := DataW.trod_bool Tryz.underlying4 t8
   obtain ⟨a9,e9,-,w9⟩ := DataW.trod_int Tryz.underlying3 t9
   simp at e0 e1 e2 e3 e4 e5 e6 e7 e8 e9
   subst e0 e1 e2 e3 e4 e5 e6 e7 e8 e9
   have hw1 := wt_part K.o hw (j := 2) (tj := 9) (by simp [T2]) rfl
   rw [hy1] at hw1
   have hsl := wt_string hw1
   exact ⟨⟨a0,a1,a2.data.toList,a3,a4,a5,a6,a7,a8,a9⟩,rfl,⟨Od.i64B_of' w0,Od.i64B_of' w1,Od.i64B_of' w3,Od.i64B_of' w4,Od.i64B_of' w6,Od.i64B_of' w7,Od.i64B_of' w9,by simp at hsl ⊢;omega⟩⟩
set_option maxRecDepth 100000 in
theorem knownT : ∃ f0 f1 f2 f3 f4 f5 f6 f7 f8 f9,KnownT 41 f0 f1 f2 f3 f4 f5 f6 f7 f8 f9 := ⟨_,_,_,_,_,_,_,_,_,_,⟨Tryz.underlying41,rfl,rfl,by kernel_rfl⟩⟩
set_option maxRecDepth 100000 in
theorem open_state {H : Type} {enc : TypeId × Value → H} {W : World} {base : Nat} {v : Value} {d : DataW H} {p : List MemPlace} (hval : Value.okWide Tryz.prog W .any base 41 v) (h : DataW.Trod enc Tryz.prog W 0 (fun _ => true) true 41 v d p) (hw : Wt 41 d) : ∃ x : S9,v = sV x ∧ x.ok := by
 obtain ⟨_,_,_,_,_,_,_,_,_,_,K⟩ := knownT
 exact open_state_at K hval h hw
end Go.Proofs.YtmmbiknlicnamaaGreatDoor.Sta
namespace Go.Proofs.YtmmbiknlicnamaaGreatDoor.stateTells
open Go.ChangeShapes Go.WideShapes Go.ChangeAt Go.RowKit Go.Proofs.YtmmbiknlicnamaaGreatDoor.Sta Go.Proofs.YtmmbiknlicnamaaGreatDoor.Od
open Go.Proofs.YtmmbiknlicnamaaGreatDoor.Js (laid5 laid_met laidWorld tab_of_laid)
open Go.ChangeMaps (open_string shut_string)
set_option maxRecDepth 100000 in
theorem contract (H : Type) (enc : TypeId × Value → H) (W : World) (base : Nat) (args : Array Value) (ds gs : List (DataW H)) (before : List MemPlace)
 (hval : ∀ (j : Nat) t v,Tryz.f4.params[j]? = some t → args[j]? = some v → Value.okWide Tryz.prog W .any base t v)
 (hW : DataW.Whole enc Tryz.prog Tryz.f4.params.toList Rows.stateTellsSpec.vars false W args.toList ds gs before) (hz : (DataW.weightsEach Tryz.prog (Tryz.f4.params.toList ++ (OpenSpec.ofChange Rows.stateTellsSpec).bare.plain.varTypes Tryz.prog) (ds ++ gs)).all (· ≤ reachBytes) = true) (hL : laidMetH Tryz.prog laid5 W) :
 Calls Tryz.prog 4 args W fun e W' => ∃ v,e = .returned v ∧ Rows.stateTellsSpec.post enc Tryz.prog Tryz.f4 false true false false W args v W' := by
 have hT := tab_of_laid hL
 clear hL
 have hW' := hW
 have hlt := hW.lt
 obtain ⟨p,q,hA0,hV,rfl,hfz,hnd⟩ := hW
 have hA : DataW.TrodAll enc Tryz.prog W 0 (fun _ => true) true Tryz.f4.params.toList args.toList ds p := hA0
 rw [Tryz.params4] at hA hval
 obtain ⟨v0,vs0,d0,ds0,p0,q0,hargs,rfl,rfl,h0,r0⟩ := trodAll_cons hA
 obtain ⟨v1,vs1,d1,ds1,p1,q1,rfl,rfl,rfl,h1,r1⟩ := trodAll_cons r0
 obtain ⟨v2,vs2,d2,ds2,p2,q2,rfl,rfl,rfl,h2,r2⟩ := trodAll_cons r1
 obtain ⟨v3,vs3,d3,ds3,p3,q3,rfl,rfl,rfl,h3,r3⟩ := trodAll_cons r2
 obtain ⟨v4,vs4,d4,ds4,p4,q4,rfl,rfl,rfl,h4,r4⟩ := trodAll_cons r3
 obtain ⟨rfl,rfl,rfl⟩ := trodAll_nil r4
 obtain rfl : args = #[v0,v1,v2,v3,v4] := Array.ext' hargs
 obtain ⟨rfl,rfl⟩ := trodVars_none hV
 have k0 := h0
 have k1 := h1
 have k2 := h2
 have k3 := h3
 have k4 := h4
 have wt0 : Wt 41 d0 := wt_of hz (j := 0) (by rw [Tryz.params4];rfl) rfl
 obtain ⟨z0,rfl,hz0⟩ := open_state (hval 0 41 v0 rfl rfl) h0 wt0
 have wt1 : Wt 41 d1 := wt_of hz (j := 1) (by rw [Tryz.params4];rfl) rfl
 obtain ⟨z1,rfl,hz1⟩ := open_state (hval 1 41 v1 rfl rfl) h1 wt1
 have wt2 : Wt 9 d2 := wt_of hz (j := 2) (by rw [Tryz.params4];rfl) rfl
 obtain ⟨s2,rfl,rfl,rfl,hs2⟩ := open_string Tryz.underlying9 (hval 2 9 v2 rfl rfl) h2
 have l2 := wt_string wt2
 clear hs2
 obtain ⟨t2,rfl⟩ : ∃ t : List UInt8,s2 = ⟨t.toArray⟩ := ⟨s2.data.toList,by cases s2;simp⟩
 obtain ⟨x3,rfl,rfl,rfl,wx3⟩ := open_int Tryz.underlying3 (hval 3 3 v3 rfl rfl) h3
 obtain ⟨b3,c3⟩ := bounds_i64 wx3
 have wt4 : Wt 9 d4 := wt_of hz (j := 4) (by rw [Tryz.params4];rfl) rfl
 obtain ⟨s4,rfl,rfl,rfl,hs4⟩ := open_string Tryz.underlying9 (hval 4 9 v4 rfl rfl) h4
 have l4 := wt_string wt4
 clear hs4
 obtain ⟨t4,rfl⟩ : ∃ t : List UInt8,s4 = ⟨t.toArray⟩ := ⟨s4.data.toList,by cases s4;simp⟩
 clear hA0
 simp only [List.append_nil] at hW'
 refine (tells9_walk z0 z1 t2 x3 t4 W hT hz0 hz1 (by simp at l2;omega) b3 c3 (by simp at l4;omega)).mono fun e W' ⟨he,hg⟩ => ?_
 subst he
 exact ⟨_,rfl,_,_,_,[],_,[],hW',trodAll_cons_mk (shut_bool Tryz.underlying4 _) trodAll_mk0,
  (trodAll_cons_mk (Below.trod laidOut (by kernel_rfl) (of_decide_eq_true (by kernel_rfl)) k0 hg (fun x hx => by first | (exact absurd hx (by simp)) | exact hlt x (by simp [hx]))) (trodAll_cons_mk (Below.trod laidOut (by kernel_rfl) (of_decide_eq_true (by kernel_rfl)) k1 hg (fun x hx => by first | (exact absurd hx (by simp)) | exact hlt x (by simp [hx]))) (trodAll_cons_mk (Below.trod laidOut (by kernel_rfl) (of_decide_eq_true (by kernel_rfl)) k2 hg (fun x hx => by first | (exact absurd hx (by simp)) | exact hlt x (by simp [hx]))) (trodAll_cons_mk (Below.trod laidOut (by kernel_rfl) (of_decide_eq_true (by kernel_rfl)) k3 hg (fun x hx => by first | (exact absurd hx (by simp)) | exact hlt x (by simp [hx]))) (trodAll_cons_mk (Below.trod laidOut (by kernel_rfl) (of_decide_eq_true (by kernel_rfl)) k4 hg (fun x hx => by first | (exact absurd hx (by simp)) | exact hlt x (by simp [hx]))) trodAll_mk0))))),rfl,
  hg.frame _,fun h => by cases h⟩
theorem reads (os : Os) {H : Type} (enc : TypeId × Value → H) : ∃ places,DataW.whole enc Tryz.prog ((laidWorld os).forCall (fun _ _ => 0) ⟨#[],#[.agg #[.int .i64 0,.int .i64 0,.string ⟨#[]⟩,.int .i64 0,.int .i64 0,.bool false,.int .i64 0,.int .i64 0,.bool false,.int .i64 0],.agg #[.int .i64 0,.int .i64 0,.string ⟨#[]⟩,.int .i64 0,.int .i64 0,.bool false,.int .i64 0,.int .i64 0,.bool false,.int .i64 0],.string ⟨#[]⟩,.int .i64 0,.string ⟨#[]⟩],[]⟩).memory Tryz.f4.params.toList Rows.stateTellsSpec.vars false (#[Value.agg #[.int .i64 0,.int .i64 0,.string ⟨#[]⟩,.int .i64 0,.int .i64 0,.bool false,.int .i64 0,.int .i64 0,.bool false,.int .i64 0],Value.agg #[.int .i64 0,.int .i64 0,.string ⟨#[]⟩,.int .i64 0,.int .i64 0,.bool false,.int .i64 0,.int .i64 0,.bool false,.int .i64 0],Value.string ⟨#[]⟩,Value.int .i64 0,Value.string ⟨#[]⟩] : Array Value).toList 8 = some ([.agg [.lit (.int .i64 0),.lit (.int .i64 0),.lit (.string []),.lit (.int .i64 0),.lit (.int .i64 0),.lit (.bool false),.lit (.int .i64 0),.lit (.int .i64 0),.lit (.bool false),.lit (.int .i64 0)],.agg [.lit (.int .i64 0),.lit (.int .i64 0),.lit (.string []),.lit (.int .i64 0),.lit (.int .i64 0),.lit (.bool false),.lit (.int .i64 0),.lit (.int .i64 0),.lit (.bool false),.lit (.int .i64 0)],.lit (.string []),.lit (.int .i64 0),.lit (.string [])],[],places) :=
 ⟨[],by kernel_rfl⟩
set_option maxRecDepth 100000 in
theorem lifted (os : Os) (started : os.Started) (H : Type) (enc : TypeId × Value → H) (F : Stop.Interp) :
 ReturnsInHanded {} Tryz.checked os 4 .any ((OpenSpec.ofChange Rows.stateTellsSpec).preRow enc Tryz.prog Tryz.f4 Rows.stateTellsRow.domain false Rows.stateTellsRow.laid) (((OpenSpec.ofChange Rows.stateTellsSpec).at F).post enc Tryz.prog Tryz.f4 false true false false) := by
 obtain ⟨places,hx⟩ := reads os enc
 refine returnsInHanded_of_row (C := Tryz.checked) (s := OpenSpec.ofChange Rows.stateTellsSpec) own started (by kernel_rfl) Tryz.func4
  (witness_row_at (enc := enc) (C := Tryz.checked) false (laidWorld os) #[.agg #[.int .i64 0,.int .i64 0,.string ⟨#[]⟩,.int .i64 0,.int .i64 0,.bool false,.int .i64 0,.int .i64 0,.bool false,.int .i64 0],.agg #[.int .i64 0,.int .i64 0,.string ⟨#[]⟩,.int .i64 0,.int .i64 0,.bool false,.int .i64 0,.int .i64 0,.bool false,.int .i64 0],.string ⟨#[]⟩,.int .i64 0,.string ⟨#[]⟩] rfl (by kernel_rfl) (by kernel_rfl) (by kernel_rfl)
    (OpenSpec.preRow_of_cond 8 hx (by kernel_rfl) (fun k hk => by cases hk) (by kernel_rfl) (laid_met os _))) ?_
 intro W base args ds gs before hval hW _ _ hz hL _ _
 exact contract H enc W base args ds gs before hval hW hz hL
theorem said : Rows.StateTellsSaid :=
 OpenClaim.holds_of_cond 4 Tryz.f4 rfl rfl rfl rfl rfl rfl rfl ⟨rfl,rfl,rfl,rfl,rfl⟩ rfl rfl rfl rfl rfl (by kernel_rfl) Tryz.func4 (by kernel_rfl)
  (of_decide_eq_true (by kernel_rfl)) (by unfold Func.isWrapper;first | (rw [if_pos (by decide +kernel)];kernel_rfl) | (rw [if_neg (by decide +kernel)];exact ⟨rfl,rfl⟩))
  (fun os started H enc _ F => by rw [OpenClaim.pre_eq_preRow];exact lifted os started H enc F)
theorem plain (f : FuncId) (fn : Func) (hf : Tryz.pinned.checked.prog.funcNamed Rows.stateTellsRow.func = some f) (hfn : Tryz.pinned.checked.prog.funcs[f]? = some fn) :
 false = Tryz.pinned.checked.prog.looks [] ∧ ∀ (j : Nat) t,fn.params[j]? = some t → Tryz.pinned.checked.prog.wantsStandIn t = false := by
 obtain rfl : f = 4 := Option.some.inj ((show Tryz.prog.funcNamed Rows.stateTellsRow.func = some 4 by kernel_rfl).symm.trans hf) |>.symm
 obtain rfl : fn = Tryz.f4 := (Option.some.inj (Tryz.func4.symm.trans hfn)).symm
 refine ⟨by kernel_rfl,fun j t ht => ?_⟩
 rw [Tryz.params4] at ht
 have hm := Array.mem_of_getElem? ht
 have hh : t = 41 ∨ t = 3 ∨ t = 9 := by simp at hm;first | (rcases hm with h | h | h <;> simp [h]) | (rcases hm with h | h | h | h | h <;> simp [h])
 rcases hh with rfl | rfl | rfl
 ·exact (show Tryz.prog.wantsStandIn 41 = false by kernel_rfl)
 ·exact (show Tryz.prog.wantsStandIn 3 = false by kernel_rfl)
 ·exact (show Tryz.prog.wantsStandIn 9 = false by kernel_rfl)
theorem card : Rows.StateTellsCardSaid :=
 Claim7.holds_tied_plain_at .later [] _ _ _ _ said (fun _ h => by cases h) (by kernel_rfl) (fun _ h => by cases h) stateTells_row_tie rfl ⟨rfl,rfl⟩ (by kernel_rfl) rfl plain (by kernel_rfl)
end Go.Proofs.YtmmbiknlicnamaaGreatDoor.stateTells
