/- The law OrderBack (Take undoes Lay) answers true for all inputs; taken that Go's own tables (those of strconv, math/bits and unicode/utf8) hold what the program's text lays, which the card ties. -/
import Derived.Test.YtgfkpfppdoeifaaGreatDoorMOg
import Derived.Test.YtgfkpfppdoeifaaGreatDoorMF
import Derived.Test.YtgfkpfppdoeifaaGreatDoorMG
/- OrderBack: Take undoes Lay. -/
set_option linter.unusedVariables false
set_option linter.unusedSimpArgs false
namespace Go.Proofs.YtgfkpfppdoeifaaGreatDoor.Od
open Go.RowKit Js Lex

set_option maxHeartbeats 8000000 in
set_option maxRecDepth 100000 in
theorem back_walk (v0 : Value) (x : O) (base : Int) (w : World) (hT : Dec.Tab w) (h : OAt Any w v0 x) (b0 : -9223372036854775808 ≤ base) (b1 : base ≤ 9223372036854775807) : Calls Tryz.prog 4 #[v0, .int .i64 base] w (Ret (.bool true) w) := by
  obtain ⟨a0, c0, e0, f0, rfl, -⟩ := h.open_
  have X0 := Lib.hid (BX8.new h)
  have A1 := Lib.hid (fun (w' : World) (hb : Below w.heap.size w w') => awake8_any w' (hT.below hb))
  have hr := fit_rightO Tp.fit_name x base
  obtain ⟨y, hy⟩ : ∃ y, fitO Tp.fitL x base = y := ⟨_, rfl⟩
  have F1 := Lib.hid (fun (w' : World) (b : Nat) (a : Option Addr) (c : Nat) (e : Option Addr) (f : Nat) (hx : BX8 x b a c e f w') => fit8 hy hx b0 b1)
  rw [hy] at hr
  have L1 := Lib.hid (fun (w' : World) (b : Nat) (a : Option Addr) (c : Nat) (e : Option Addr) (f : Nat) (hb : Below w.heap.size w w') (hx : BX8 y b a c e f w') => lay_yes hr (hT.below hb) hx)
  have T1 := Lib.hid (fun (w' : World) => take_lay8 hr w')
  have R1 := Lib.hid (fun (w' : World) (b : Nat) (a : Option Addr) (c : Nat) (e : Option Addr) (f : Nat) (hx : BX8 y b a c e f w') => right_any Any _ y w' hx.oat)
  rw [hr] at R1
  have S1 := Lib.hid (fun (w' : World) (b : Nat) (a : Option Addr) (c : Nat) (e : Option Addr) (f : Nat) (hx : BX8 y b a c e f w') (b' : Nat) (a' : Option Addr) (c' : Nat) (e' : Option Addr) (f' : Nat) (hx' : BX8 y b' a' c' e' f' w') => same8_any Any Any _ _ y y w' hx.oat hx'.oat)
  have S2 := Lib.hid (fun (w' : World) (b : Nat) (a : Option Addr) (c : Nat) (e : Option Addr) (f : Nat) (hx : BX8 y b a c e f w') (b' : Nat) (a' : Option Addr) (c' : Nat) (e' : Option Addr) (f' : Nat) (hx' : BX8 y b' a' c' e' f' w') => rsame8_any Any Any _ _ y y w' hx.oat hx'.oat)
  rw [sameO_iff.2 rfl] at S1 S2
  generalize layS y = T at *
  clear hy hr h
  have B0 := Lib.hid (belowOne w (.cells #[.int .i64 x.h, .string ⟨x.v.toArray⟩, .int .i64 x.o, .int .i64 x.u, .slice a0 x.ns.length c0, .slice e0 x.es.length f0] 25))
  go_enter Tryz.func4, Tryz.ntmps4
  go_wp2_with (first
    | (go_at_call 10; (with_reducible refine (A1.out _ B0.out).mono ?_); rintro e1 w1 ⟨rfl, hb1⟩; have B1 := Lib.hid (B0.out.trans (hb1.mono B0.out.size)); have X1 := Lib.hid (X0.out.below hb1); obtain ⟨x0, x1, x2, x3, x4, x5⟩ := six_of X1.out.blk)
    | (go_at_call 11; (with_reducible refine (F1.out _ _ _ _ _ _ X1.out).mono ?_); rintro e2 w2 ⟨a2, c2, d2, f2, rfl, hv2, hb2⟩; have B2 := Lib.hid ((B1.out.trans (hb2.mono B1.out.size)).alloc (Nat.le_trans B1.out.size hb2.size) (.cells #[.int .i64 y.h, .string ⟨y.v.toArray⟩, .int .i64 y.o, .int .i64 y.u, .slice a2 y.ns.length c2, .slice d2 y.es.length f2] 25)); have Y2 := Lib.hid (BX8.new hv2))
    | (go_at_call 12; (with_reducible refine (L1.out _ _ _ _ _ _ B2.out Y2.out).mono ?_); rintro e3 w3 ⟨rfl, hb3⟩; have B3 := Lib.hid (B2.out.trans (hb3.mono B2.out.size)); have Y3 := Lib.hid (Y2.out.below hb3))
    | (go_at_call 22; (with_reducible refine (T1.out _).mono ?_); rintro e4 w4 ⟨a4, c4, d4, f4, rfl, hv4, hb4⟩; have B4 := Lib.hid ((B3.out.trans (hb4.mono B3.out.size)).alloc (Nat.le_trans B3.out.size hb4.size) (.cells #[.int .i64 y.h, .string ⟨y.v.toArray⟩, .int .i64 y.o, .int .i64 y.u, .slice a4 y.ns.length c4, .slice d4 y.es.length f4] 25)); have Z4 := Lib.hid (BX8.new hv4); have Y4 := Lib.hid ((Y3.out.below hb4).box (.cells #[.int .i64 y.h, .string ⟨y.v.toArray⟩, .int .i64 y.o, .int .i64 y.u, .slice a4 y.ns.length c4, .slice d4 y.es.length f4] 25)); obtain ⟨y0, y1, y2, y3, y4, y5⟩ := six_of Y4.out.blk)
    | (go_at_call 14; (with_reducible refine (R1.out _ _ _ _ _ _ Y4.out).mono ?_); rintro e5 w5 ⟨rfl, hb5⟩; have B5 := Lib.hid (B4.out.trans (hb5.mono B4.out.size)); have Y5 := Lib.hid (Y4.out.below hb5); have Z5 := Lib.hid (Z4.out.below hb5); obtain ⟨u0, u1, u2, u3, u4, u5⟩ := six_of Y5.out.blk; obtain ⟨v0, v1, v2, v3, v4, v5⟩ := six_of Z5.out.blk)
    | (go_at_call 16; (with_reducible refine (S1.out _ _ _ _ _ _ Y5.out _ _ _ _ _ Z5.out).mono ?_); rintro e6 w6 ⟨rfl, hb6⟩; have B6 := Lib.hid (B5.out.trans (hb6.mono B5.out.size)); have Y6 := Lib.hid (Y5.out.below hb6); have Z6 := Lib.hid (Z5.out.below hb6); obtain ⟨p0, p1, p2, p3, p4, p5⟩ := six_of Y6.out.blk; obtain ⟨q0, q1, q2, q3, q4, q5⟩ := six_of Z6.out.blk)
    | (go_at_call 17; (with_reducible refine (S2.out _ _ _ _ _ _ Y6.out _ _ _ _ _ Z6.out).mono ?_); rintro e7 w7 ⟨rfl, hb7⟩; have B7 := Lib.hid (B6.out.trans (hb7.mono B6.out.size))))
  go_ret
  exact ⟨rfl, B7.out⟩
end Go.Proofs.YtgfkpfppdoeifaaGreatDoor.Od

/- The law OrderBack (Take undoes Lay) answers true for all raw orders and numbers; taken that Go's own tables (those of strconv, math/bits and unicode/utf8) hold what the program's text lays, which the card ties. -/
set_option linter.unusedSimpArgs false
set_option linter.unusedVariables false
namespace Go.Proofs.YtgfkpfppdoeifaaGreatDoor.orderBack
open Go.ChangeShapes Go.WideShapes Go.ChangeAt Go.RowKit Go.Proofs.YtgfkpfppdoeifaaGreatDoor.Od
open Go.Proofs.YtgfkpfppdoeifaaGreatDoor.Js (laid5 laid_met laidWorld tab_of_laid)

set_option maxRecDepth 100000 in
theorem contract (H : Type) (enc : TypeId × Value → H) (W : World) (base : Nat) (args : Array Value) (ds gs : List (DataW H)) (before : List MemPlace)
    (hval : ∀ (j : Nat) t v, Tryz.f4.params[j]? = some t → args[j]? = some v → Value.okWide Tryz.prog W .any base t v)
    (hW : DataW.Whole enc Tryz.prog Tryz.f4.params.toList Rows.orderBackSpec.vars false W args.toList ds gs before) (hz : (DataW.weightsEach Tryz.prog (Tryz.f4.params.toList ++ (OpenSpec.ofChange Rows.orderBackSpec).bare.plain.varTypes Tryz.prog) (ds ++ gs)).all (· ≤ reachBytes) = true) (hL : laidMetH Tryz.prog laid5 W) :
    Calls Tryz.prog 4 args W fun e W' => ∃ v, e = .returned v ∧ Rows.orderBackSpec.post enc Tryz.prog Tryz.f4 false true false false W args v W' := by
  have hT := tab_of_laid hL
  clear hL
  have hW' := hW
  have hlt := hW.lt
  obtain ⟨p, q, hA0, hV, rfl, hfz, hnd⟩ := hW
  have hA : DataW.TrodAll enc Tryz.prog W 0 (fun _ => true) true Tryz.f4.params.toList args.toList ds p := hA0
  rw [Tryz.params4] at hA hval
  obtain ⟨v0, vs0, d0, ds0, p0, q0, hargs, rfl, rfl, h0, r0⟩ := trodAll_cons hA
  obtain ⟨v1, vs1, d1, ds1, p1, q1, rfl, rfl, rfl, h1, r1⟩ := trodAll_cons r0
  obtain ⟨rfl, rfl, rfl⟩ := trodAll_nil r1
  obtain rfl : args = #[v0, v1] := Array.ext' hargs
  obtain ⟨rfl, rfl⟩ := trodVars_none hV
  have k0 := h0
  have k1 := h1
  have wt0 : Wt 25 d0 := wt_of hz (j := 0) (by rw [Tryz.params4]; rfl) rfl
  obtain ⟨z0, hz0⟩ := open_order (hval 0 25 v0 rfl rfl) h0 wt0
  obtain ⟨x1, rfl, rfl, rfl, wx1⟩ := open_int Tryz.underlying3 (hval 1 3 v1 rfl rfl) h1
  obtain ⟨b1, c1⟩ := bounds_i64 wx1
  clear hA0
  simp only [List.append_nil] at hW'
  refine (back_walk v0 z0 x1 W hT hz0 b1 c1).mono fun e W' ⟨he, hg⟩ => ?_
  subst he
  exact ⟨_, rfl, _, _, _, [], _, [], hW', trodAll_cons_mk (shut_bool Tryz.underlying4 _) trodAll_mk0,
    (trodAll_cons_mk (Below.trod laidOut (by kernel_rfl) (of_decide_eq_true (by kernel_rfl)) k0 hg (fun x hx => by first | (exact absurd hx (by simp)) | exact hlt x (by simp [hx]))) (trodAll_cons_mk (Below.trod laidOut (by kernel_rfl) (of_decide_eq_true (by kernel_rfl)) k1 hg (fun x hx => by first | (exact absurd hx (by simp)) | exact hlt x (by simp [hx]))) trodAll_mk0)), rfl,
    hg.frame _, fun h => by cases h⟩

theorem reads (os : Os) {H : Type} (enc : TypeId × Value → H) : ∃ places, DataW.whole enc Tryz.prog ((laidWorld os).forCall (fun _ _ => 0) ⟨#[], #[.agg #[.int .i64 0, .string ⟨#[]⟩, .int .i64 0, .int .i64 0, .slice none 0 0, .slice none 0 0], .int .i64 0], []⟩).memory Tryz.f4.params.toList Rows.orderBackSpec.vars false (#[Value.agg #[.int .i64 0, .string ⟨#[]⟩, .int .i64 0, .int .i64 0, .slice none 0 0, .slice none 0 0], Value.int .i64 0] : Array Value).toList 8 = some ([.agg [.lit (.int .i64 0), .lit (.string []), .lit (.int .i64 0), .lit (.int .i64 0), .nil, .nil], .lit (.int .i64 0)], [], places) :=
  ⟨[], by kernel_rfl⟩

set_option maxRecDepth 100000 in
theorem lifted (os : Os) (started : os.Started) (H : Type) (enc : TypeId × Value → H) (F : Stop.Interp) :
    ReturnsInHanded {} Tryz.checked os 4 .any ((OpenSpec.ofChange Rows.orderBackSpec).preRow enc Tryz.prog Tryz.f4 Rows.orderBackRow.domain false Rows.orderBackRow.laid) (((OpenSpec.ofChange Rows.orderBackSpec).at F).post enc Tryz.prog Tryz.f4 false true false false) := by
  obtain ⟨places, hx⟩ := reads os enc
  refine returnsInHanded_of_row (C := Tryz.checked) (s := OpenSpec.ofChange Rows.orderBackSpec) own started (by kernel_rfl) Tryz.func4
    (witness_row_at (enc := enc) (C := Tryz.checked) false (laidWorld os) #[.agg #[.int .i64 0, .string ⟨#[]⟩, .int .i64 0, .int .i64 0, .slice none 0 0, .slice none 0 0], .int .i64 0] rfl (by kernel_rfl) (by kernel_rfl) (by kernel_rfl)
      (OpenSpec.preRow_of_cond 8 hx (by kernel_rfl) (fun k hk => by cases hk) (by kernel_rfl) (laid_met os _))) ?_
  intro W base args ds gs before hval hW _ _ hz hL _ _
  exact contract H enc W base args ds gs before hval hW hz hL

theorem said : Rows.OrderBackSaid :=
  OpenClaim.holds_of_cond 4 Tryz.f4 rfl rfl rfl rfl rfl rfl rfl ⟨rfl, rfl, rfl, rfl, rfl⟩ rfl rfl rfl rfl rfl (by kernel_rfl) Tryz.func4 (by kernel_rfl)
    (of_decide_eq_true (by kernel_rfl)) (by unfold Func.isWrapper; first | (rw [if_pos (by decide +kernel)]; kernel_rfl) | (rw [if_neg (by decide +kernel)]; exact ⟨rfl, rfl⟩))
    (fun os started H enc _ F => by rw [OpenClaim.pre_eq_preRow]; exact lifted os started H enc F)

theorem plain (f : FuncId) (fn : Func) (hf : Tryz.pinned.checked.prog.funcNamed Rows.orderBackRow.func = some f) (hfn : Tryz.pinned.checked.prog.funcs[f]? = some fn) :
    false = Tryz.pinned.checked.prog.looks [] ∧ ∀ (j : Nat) t, fn.params[j]? = some t → Tryz.pinned.checked.prog.wantsStandIn t = false := by
  obtain rfl : f = 4 := Option.some.inj ((show Tryz.prog.funcNamed Rows.orderBackRow.func = some 4 by kernel_rfl).symm.trans hf) |>.symm
  obtain rfl : fn = Tryz.f4 := (Option.some.inj (Tryz.func4.symm.trans hfn)).symm
  refine ⟨by kernel_rfl, fun j t ht => ?_⟩
  rw [Tryz.params4] at ht
  have hm := Array.mem_of_getElem? ht
  have hh : t = 25 ∨ t = 3 := by simp at hm; first | (rcases hm with h | h <;> simp [h]) | (rcases hm with h | h <;> simp [h])
  rcases hh with rfl | rfl
  · exact (show Tryz.prog.wantsStandIn 25 = false by kernel_rfl)
  · exact (show Tryz.prog.wantsStandIn 3 = false by kernel_rfl)

theorem card : Rows.OrderBackCardSaid :=
  Claim7.holds_tied_plain_at .later [] _ _ _ _ said (fun _ h => by cases h) (by kernel_rfl) (fun _ h => by cases h) orderBack_row_tie rfl ⟨rfl, rfl⟩ (by kernel_rfl) rfl plain (by kernel_rfl)
end Go.Proofs.YtgfkpfppdoeifaaGreatDoor.orderBack
