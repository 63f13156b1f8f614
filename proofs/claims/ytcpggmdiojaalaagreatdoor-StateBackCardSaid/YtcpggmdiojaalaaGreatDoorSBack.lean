/- The law StateBack (Take undoes Lay) answers true for all inputs; taken that Go's own tables (those of strconv, math/bits and unicode/utf8) hold what the program's text lays, which the card ties. -/
import Derived.Test.YtcpggmdiojaalaaGreatDoorMAj
import Derived.Test.YtcpggmdiojaalaaGreatDoorAF
import Derived.Test.YtcpggmdiojaalaaGreatDoorMG
/- StateBack: Take undoes Lay. -/
set_option linter.unusedVariables false
set_option linter.unusedSimpArgs false
namespace Go.Proofs.YtcpggmdiojaalaaGreatDoor.Sta
open Go.RowKit Js Lex Od

set_option maxHeartbeats 8000000 in
set_option maxRecDepth 100000 in
theorem back9_walk (x : S9) (w : World) (hT : Dec.Tab w) (hx : x.ok) : Calls Tryz.prog 6 #[sV x] w (Ret (.bool true) w) := by
  have A1 := Lib.hid (fun (w' : World) (hb : Below w.heap.size w w') => awake9_any w' (hT.below hb))
  have F1 := Lib.hid (fun (w' : World) => fit9_any x w' hx)
  have hr := fit9_right Tp.fit_name x
  generalize fit9 Tp.fitL x = y at *
  have L1 := Lib.hid (fun (w' : World) (hb : Below w.heap.size w w') => lay9_yes hr w' (hT.below hb))
  have T1 := Lib.hid (fun (w' : World) => take9_lay hr w')
  have R1 := Lib.hid (fun (w' : World) => right9_any y w' (ok_right name_ok hr))
  rw [hr] at R1
  generalize layS9 y = T at *
  clear hr hx
  obtain ⟨hd, bo, nm, od, up, lv, nd, sq, dr, ac⟩ := x
  obtain ⟨hd', bo', nm', od', up', lv', nd', sq', dr', ac'⟩ := y
  unfold sV sC at *
  simp only at F1 L1 T1 R1
  have B0 := Lib.hid (belowOne w (.cells #[.int .i64 hd, .int .i64 bo, .string ⟨nm.toArray⟩, .int .i64 od, .int .i64 up, .bool lv, .int .i64 nd, .int .i64 sq, .bool dr, .int .i64 ac] 53))
  have X0 := Lib.hid (BX9.new w #[.int .i64 hd, .int .i64 bo, .string ⟨nm.toArray⟩, .int .i64 od, .int .i64 up, .bool lv, .int .i64 nd, .int .i64 sq, .bool dr, .int .i64 ac])
  obtain ⟨Y, HY⟩ : ∃ Y, Hid ((#[.int .i64 hd', .int .i64 bo', .string ⟨nm'.toArray⟩, .int .i64 od', .int .i64 up', .bool lv', .int .i64 nd', .int .i64 sq', .bool dr', .int .i64 ac'] : Array Value) = Y) := ⟨_, rfl⟩
  go_enter Tryz.func6, Tryz.ntmps6
  go_wp2_with (first
    | (go_at_call 32; (with_reducible refine (A1.out _ B0.out).mono ?_); rintro e1 w1 ⟨rfl, hb1⟩; have B1 := Lib.hid (below_next B0.out hb1); have X1 := Lib.hid (X0.out.below hb1); obtain ⟨x0, x1, x2, x3, x4, x5, x6, x7, x8, x9⟩ := ten_of X1.out.blk; clear hb1)
    | (go_at_call 33; (with_reducible refine (F1.out _).mono ?_); rintro e2 w2 ⟨rfl, hb2⟩; have U2 := Lib.hid (BX9.new w2 Y); rw [← HY.out] at U2; have B2 := Lib.hid (below_box (below_next B1.out hb2) (.cells Y 53)); rw [← HY.out] at B2; clear hb2 x0 x1 x2 x3 x4 x5 x6 x7 x8 x9)
    | (go_at_call 34; (with_reducible refine (L1.out _ B2.out).mono ?_); rintro e3 w3 ⟨rfl, hb3⟩; have B3 := Lib.hid (below_next B2.out hb3); have U3 := Lib.hid (U2.out.below hb3); clear hb3)
    | (go_at_call 41; (with_reducible refine (T1.out _).mono ?_); rintro e4 w4 ⟨rfl, hb4⟩; have V4 := Lib.hid (BX9.new w4 Y); rw [← HY.out] at V4; have B4 := Lib.hid (below_box (below_next B3.out hb4) (.cells Y 53)); have U4 := Lib.hid ((U3.out.below hb4).box (.cells Y 53)); rw [← HY.out] at B4 U4; obtain ⟨u0, u1, u2, u3, u4, u5, u6, u7, u8, u9⟩ := ten_of U4.out.blk; clear hb4)
    | (go_at_call 36; (with_reducible refine (R1.out _).mono ?_); rintro e5 w5 ⟨rfl, hb5⟩; have B5 := Lib.hid (below_next B4.out hb5); have U5 := Lib.hid (U4.out.below hb5); have V5 := Lib.hid (V4.out.below hb5); clear u0 u1 u2 u3 u4 u5 u6 u7 u8 u9; obtain ⟨u0, u1, u2, u3, u4, u5, u6, u7, u8, u9⟩ := ten_of U5.out.blk; obtain ⟨v0, v1, v2, v3, v4, v5, v6, v7, v8, v9⟩ := ten_of V5.out.blk; clear hb5))
  go_ret
  exact ⟨rfl, B5.out⟩
end Go.Proofs.YtcpggmdiojaalaaGreatDoor.Sta

/- The law StateBack (Take undoes Lay) answers true for all raw states; taken that Go's own tables (those of strconv, math/bits and unicode/utf8) hold what the program's text lays, which the card ties. -/
set_option linter.unusedSimpArgs false
set_option linter.unusedVariables false
namespace Go.Proofs.YtcpggmdiojaalaaGreatDoor.stateBack
open Go.ChangeShapes Go.WideShapes Go.ChangeAt Go.RowKit Go.Proofs.YtcpggmdiojaalaaGreatDoor.Sta Go.Proofs.YtcpggmdiojaalaaGreatDoor.Od
open Go.Proofs.YtcpggmdiojaalaaGreatDoor.Js (laid5 laid_met laidWorld tab_of_laid)

set_option maxRecDepth 100000 in
theorem contract (H : Type) (enc : TypeId × Value → H) (W : World) (base : Nat) (args : Array Value) (ds gs : List (DataW H)) (before : List MemPlace)
    (hval : ∀ (j : Nat) t v, Tryz.f6.params[j]? = some t → args[j]? = some v → Value.okWide Tryz.prog W .any base t v)
    (hW : DataW.Whole enc Tryz.prog Tryz.f6.params.toList Rows.stateBackSpec.vars false W args.toList ds gs before) (hz : (DataW.weightsEach Tryz.prog (Tryz.f6.params.toList ++ (OpenSpec.ofChange Rows.stateBackSpec).bare.plain.varTypes Tryz.prog) (ds ++ gs)).all (· ≤ reachBytes) = true) (hL : laidMetH Tryz.prog laid5 W) :
    Calls Tryz.prog 6 args W fun e W' => ∃ v, e = .returned v ∧ Rows.stateBackSpec.post enc Tryz.prog Tryz.f6 false true false false W args v W' := by
  have hT := tab_of_laid hL
  clear hL
  have hW' := hW
  have hlt := hW.lt
  obtain ⟨p, q, hA0, hV, rfl, hfz, hnd⟩ := hW
  have hA : DataW.TrodAll enc Tryz.prog W 0 (fun _ => true) true Tryz.f6.params.toList args.toList ds p := hA0
  rw [Tryz.params6] at hA hval
  obtain ⟨v0, vs0, d0, ds0, p0, q0, hargs, rfl, rfl, h0, r0⟩ := trodAll_cons hA
  obtain ⟨rfl, rfl, rfl⟩ := trodAll_nil r0
  obtain rfl : args = #[v0] := Array.ext' hargs
  obtain ⟨rfl, rfl⟩ := trodVars_none hV
  have k0 := h0
  have wt0 : Wt 53 d0 := wt_of hz (j := 0) (by rw [Tryz.params6]; rfl) rfl
  obtain ⟨z0, rfl, hz0⟩ := open_state (hval 0 53 v0 rfl rfl) h0 wt0
  clear hA0
  simp only [List.append_nil] at hW'
  refine (back9_walk z0 W hT hz0).mono fun e W' ⟨he, hg⟩ => ?_
  subst he
  exact ⟨_, rfl, _, _, _, [], _, [], hW', trodAll_cons_mk (shut_bool Tryz.underlying4 _) trodAll_mk0,
    (trodAll_cons_mk (Below.trod laidOut (by kernel_rfl) (of_decide_eq_true (by kernel_rfl)) k0 hg (fun x hx => by first | (exact absurd hx (by simp)) | exact hlt x (by simp [hx]))) trodAll_mk0), rfl,
    hg.frame _, fun h => by cases h⟩

theorem reads (os : Os) {H : Type} (enc : TypeId × Value → H) : ∃ places, DataW.whole enc Tryz.prog ((laidWorld os).forCall (fun _ _ => 0) ⟨#[], #[.agg #[.int .i64 0, .int .i64 0, .string ⟨#[]⟩, .int .i64 0, .int .i64 0, .bool false, .int .i64 0, .int .i64 0, .bool false, .int .i64 0]], []⟩).memory Tryz.f6.params.toList Rows.stateBackSpec.vars false (#[Value.agg #[.int .i64 0, .int .i64 0, .string ⟨#[]⟩, .int .i64 0, .int .i64 0, .bool false, .int .i64 0, .int .i64 0, .bool false, .int .i64 0]] : Array Value).toList 8 = some ([.agg [.lit (.int .i64 0), .lit (.int .i64 0), .lit (.string []), .lit (.int .i64 0), .lit (.int .i64 0), .lit (.bool false), .lit (.int .i64 0), .lit (.int .i64 0), .lit (.bool false), .lit (.int .i64 0)]], [], places) :=
  ⟨[], by kernel_rfl⟩

set_option maxRecDepth 100000 in
theorem lifted (os : Os) (started : os.Started) (H : Type) (enc : TypeId × Value → H) (F : Stop.Interp) :
    ReturnsInHanded {} Tryz.checked os 6 .any ((OpenSpec.ofChange Rows.stateBackSpec).preRow enc Tryz.prog Tryz.f6 Rows.stateBackRow.domain false Rows.stateBackRow.laid) (((OpenSpec.ofChange Rows.stateBackSpec).at F).post enc Tryz.prog Tryz.f6 false true false false) := by
  obtain ⟨places, hx⟩ := reads os enc
  refine returnsInHanded_of_row (C := Tryz.checked) (s := OpenSpec.ofChange Rows.stateBackSpec) own started (by kernel_rfl) Tryz.func6
    (witness_row_at (enc := enc) (C := Tryz.checked) false (laidWorld os) #[.agg #[.int .i64 0, .int .i64 0, .string ⟨#[]⟩, .int .i64 0, .int .i64 0, .bool false, .int .i64 0, .int .i64 0, .bool false, .int .i64 0]] rfl (by kernel_rfl) (by kernel_rfl) (by kernel_rfl)
      (OpenSpec.preRow_of_cond 8 hx (by kernel_rfl) (fun k hk => by cases hk) (by kernel_rfl) (laid_met os _))) ?_
  intro W base args ds gs before hval hW _ _ hz hL _ _
  exact contract H enc W base args ds gs before hval hW hz hL

theorem said : Rows.StateBackSaid :=
  OpenClaim.holds_of_cond 6 Tryz.f6 rfl rfl rfl rfl rfl rfl rfl ⟨rfl, rfl, rfl, rfl, rfl⟩ rfl rfl rfl rfl rfl (by kernel_rfl) Tryz.func6 (by kernel_rfl)
    (of_decide_eq_true (by kernel_rfl)) (by unfold Func.isWrapper; first | (rw [if_pos (by decide +kernel)]; kernel_rfl) | (rw [if_neg (by decide +kernel)]; exact ⟨rfl, rfl⟩))
    (fun os started H enc _ F => by rw [OpenClaim.pre_eq_preRow]; exact lifted os started H enc F)

theorem plain (f : FuncId) (fn : Func) (hf : Tryz.pinned.checked.prog.funcNamed Rows.stateBackRow.func = some f) (hfn : Tryz.pinned.checked.prog.funcs[f]? = some fn) :
    false = Tryz.pinned.checked.prog.looks [] ∧ ∀ (j : Nat) t, fn.params[j]? = some t → Tryz.pinned.checked.prog.wantsStandIn t = false := by
  obtain rfl : f = 6 := Option.some.inj ((show Tryz.prog.funcNamed Rows.stateBackRow.func = some 6 by kernel_rfl).symm.trans hf) |>.symm
  obtain rfl : fn = Tryz.f6 := (Option.some.inj (Tryz.func6.symm.trans hfn)).symm
  refine ⟨by kernel_rfl, fun j t ht => ?_⟩
  rw [Tryz.params6] at ht
  obtain rfl : t = 53 := by simpa using Array.mem_of_getElem? ht
  exact (show Tryz.prog.wantsStandIn 53 = false by kernel_rfl)

theorem card : Rows.StateBackCardSaid :=
  Claim7.holds_tied_plain_at .later [] _ _ _ _ said (fun _ h => by cases h) (by kernel_rfl) (fun _ h => by cases h) stateBack_row_tie rfl ⟨rfl, rfl⟩ (by kernel_rfl) rfl plain (by kernel_rfl)
end Go.Proofs.YtcpggmdiojaalaaGreatDoor.stateBack
