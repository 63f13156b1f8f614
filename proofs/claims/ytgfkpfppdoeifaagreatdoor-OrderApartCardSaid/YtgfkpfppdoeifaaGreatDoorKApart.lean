/- The law OrderApart (unlike right orders have unlike texts, and Base is how many nodes are released) answers true for all inputs; taken that Go's own tables (those of strconv, math/bits and unicode/utf8) hold what the program's text lays, which the card ties. -/
import Derived.Test.YtgfkpfppdoeifaaGreatDoorMOg
import Derived.Test.YtgfkpfppdoeifaaGreatDoorMF
import Derived.Test.YtgfkpfppdoeifaaGreatDoorMG
/- OrderApart: unlike right orders have unlike texts; Base is how many nodes are released. -/
set_option linter.unusedVariables false
set_option linter.unusedSimpArgs false
namespace Go.Proofs.YtgfkpfppdoeifaaGreatDoor.Od
open Go.RowKit Js Lex

theorem fit_len8 (x : O) (base : Int) : (fitO Tp.fitL x base).ns.length = cntF x := by unfold fitO; simp
theorem fit_base8 (x : O) (base : Int) : (baseO (fitO Tp.fitL x base) : Int) = 1 + Quo.pickS base ((fitO Tp.fitL x base).ns.length : Int) := by
  rw [fit_base, fit_len8]
  rfl
/-- What stands for a call in a region that only reads. -/
theorem quiet_of {P : Program} {f : FuncId} {args : Array Value} {v : Value} {w : World} {d : Nat} {os : Array Obj} (h : Calls P f args («Sort».grow (redrawn w d) os) (fun e w' => e = .returned v ∧ «Sort».grow (redrawn w d) os = w')) :
    Calls P f args («Sort».grow (redrawn w d) os) (fun e w'' => e = .returned v ∧ ∃ p : Regrown, w'' = «Sort».grow (redrawn w p.d) p.os) :=
  Calls.regrown_of (h.mono fun e w' ⟨he, hw⟩ => ⟨he, by subst hw; exact Below.refl _ _⟩)

set_option maxHeartbeats 16000000 in
set_option maxRecDepth 100000 in
theorem apart_walk (v0 : Value) (x : O) (v1 : Value) (y : O) (one two : Int) (w : World) (hT : Dec.Tab w) (h : OAt Any w v0 x) (h' : OAt Any w v1 y) (b0 : -9223372036854775808 ≤ one) (b1 : one ≤ 9223372036854775807) (b2 : -9223372036854775808 ≤ two) (b3 : two ≤ 9223372036854775807) :
    Calls Tryz.prog 9 #[v0, v1, .int .i64 one, .int .i64 two] w (Ret (.bool true) w) := by
  obtain ⟨a0, c0, e0, f0, rfl, -⟩ := h.open_
  obtain ⟨a1, c1, e1, f1, rfl, -⟩ := h'.open_
  have hBB := belowTwo w (.cells #[.int .i64 x.h, .string ⟨x.v.toArray⟩, .int .i64 x.o, .int .i64 x.u, .slice a0 x.ns.length c0, .slice e0 x.es.length f0] 25) (.cells #[.int .i64 y.h, .string ⟨y.v.toArray⟩, .int .i64 y.o, .int .i64 y.u, .slice a1 y.ns.length c1, .slice e1 y.es.length f1] 25)
  have X0 : Hid (BX8 x w.heap.size a0 c0 e0 f0 ((w.alloc (.cells #[.int .i64 x.h, .string ⟨x.v.toArray⟩, .int .i64 x.o, .int .i64 x.u, .slice a0 x.ns.length c0, .slice e0 x.es.length f0] 25)).alloc (.cells #[.int .i64 y.h, .string ⟨y.v.toArray⟩, .int .i64 y.o, .int .i64 y.u, .slice a1 y.ns.length c1, .slice e1 y.es.length f1] 25))) := (BX8.new h).box _
  have Y0 : Hid (BX8 y (w.heap.size + 1) a1 c1 e1 f1 ((w.alloc (.cells #[.int .i64 x.h, .string ⟨x.v.toArray⟩, .int .i64 x.o, .int .i64 x.u, .slice a0 x.ns.length c0, .slice e0 x.es.length f0] 25)).alloc (.cells #[.int .i64 y.h, .string ⟨y.v.toArray⟩, .int .i64 y.o, .int .i64 y.u, .slice a1 y.ns.length c1, .slice e1 y.es.length f1] 25))) := ⟨two_new _ _ _, h'.below hBB (Nat.le_refl _)⟩
  have B0 := Lib.hid hBB
  have A1 := Lib.hid (fun (w' : World) (hb : Below w.heap.size w w') => awake8_any w' (hT.below hb))
  have hr1 := fit_rightO Tp.fit_name x one
  have hr2 := fit_rightO Tp.fit_name y two
  have hbase := fit_base8 x one
  have hln : (fitO Tp.fitL x one).ns.length ≤ 64 ∧ 1 ≤ (fitO Tp.fitL x one).ns.length := by rw [fit_len8]; exact ⟨(cntF_B x).2, (cntF_B x).1⟩
  obtain ⟨p, hp⟩ : ∃ p, fitO Tp.fitL x one = p := ⟨_, rfl⟩
  obtain ⟨q, hq⟩ : ∃ q, fitO Tp.fitL y two = q := ⟨_, rfl⟩
  have F1 := Lib.hid (fun (w' : World) (b : Nat) (a : Option Addr) (c : Nat) (e : Option Addr) (f : Nat) (hx : BX8 x b a c e f w') => fit8 hp hx b0 b1)
  have F2 := Lib.hid (fun (w' : World) (b : Nat) (a : Option Addr) (c : Nat) (e : Option Addr) (f : Nat) (hx : BX8 y b a c e f w') => fit8 hq hx b2 b3)
  rw [hp] at hr1 hbase hln
  rw [hq] at hr2
  have L1 := Lib.hid (fun (w' : World) (b : Nat) (a : Option Addr) (c : Nat) (e : Option Addr) (f : Nat) (hb : Below w.heap.size w w') (hx : BX8 p b a c e f w') => lay_yes hr1 (hT.below hb) hx)
  have L2 := Lib.hid (fun (w' : World) (b : Nat) (a : Option Addr) (c : Nat) (e : Option Addr) (f : Nat) (hb : Below w.heap.size w w') (hx : BX8 q b a c e f w') => lay_yes hr2 (hT.below hb) hx)
  have HSE : Hid ((layS p = layS q ∧ sameO p q = true) ∨ (layS p ≠ layS q ∧ sameO p q = false)) := by
    show _ ∨ _
    by_cases he : p = q
    · exact .inl ⟨by rw [he], sameO_iff.2 he⟩
    · refine .inr ⟨fun e => he ((layS_inj name_ok hr1 hr2).1 e), ?_⟩
      rw [Bool.eq_false_iff]
      exact fun e => he (sameO_iff.1 e)
  have HBP := Lib.hid (base8_any Any)
  have HBS := Lib.hid hbase
  have HLN := Lib.hid hln
  clear hp hq hr1 hr2 hbase hln h h' hBB
  obtain ⟨T, HTT⟩ : ∃ T, Hid (layS p = T) := ⟨_, rfl⟩
  obtain ⟨U, HUU⟩ : ∃ T, Hid (layS q = T) := ⟨_, rfl⟩
  obtain ⟨r, HRR⟩ : ∃ r, Hid (sameO p q = r) := ⟨_, rfl⟩
  rw [HTT.out] at L1 HSE
  rw [HUU.out] at L2 HSE
  rw [HRR.out] at HSE
  go_enter Tryz.func9, Tryz.ntmps9
  go_upto_region 6 with (first
    | (go_at_call 10; (with_reducible refine (A1.out _ B0.out).mono ?_); rintro e1 w1 ⟨rfl, hb1⟩; have B1 := Lib.hid (B0.out.trans (hb1.mono B0.out.size)); have X1 := Lib.hid (X0.out.below hb1); have Y1 := Lib.hid (Y0.out.below hb1); obtain ⟨x0, x1, x2, x3, x4, x5⟩ := six_of X1.out.blk)
    | (go_at_call 11; (with_reducible refine (F1.out _ _ _ _ _ _ X1.out).mono ?_); rintro e2 w2 ⟨a2, c2, d2, f2, rfl, hv2, hb2⟩; have B2 := Lib.hid ((B1.out.trans (hb2.mono B1.out.size)).alloc (Nat.le_trans B1.out.size hb2.size) (.cells #[.int .i64 p.h, .string ⟨p.v.toArray⟩, .int .i64 p.o, .int .i64 p.u, .slice a2 p.ns.length c2, .slice d2 p.es.length f2] 25)); have P2 := Lib.hid (BX8.new hv2); have Y2 := Lib.hid ((Y1.out.below hb2).box (.cells #[.int .i64 p.h, .string ⟨p.v.toArray⟩, .int .i64 p.o, .int .i64 p.u, .slice a2 p.ns.length c2, .slice d2 p.es.length f2] 25)); obtain ⟨y0, y1, y2, y3, y4, y5⟩ := six_of Y2.out.blk)
    | (go_at_call 11; (with_reducible refine (F2.out _ _ _ _ _ _ Y2.out).mono ?_); rintro e3 w3 ⟨a3, c3, d3, f3, rfl, hv3, hb3⟩; have B3 := Lib.hid ((B2.out.trans (hb3.mono B2.out.size)).alloc (Nat.le_trans B2.out.size hb3.size) (.cells #[.int .i64 q.h, .string ⟨q.v.toArray⟩, .int .i64 q.o, .int .i64 q.u, .slice a3 q.ns.length c3, .slice d3 q.es.length f3] 25)); have Q3 := Lib.hid (BX8.new hv3); have P3 := Lib.hid ((P2.out.below hb3).box (.cells #[.int .i64 q.h, .string ⟨q.v.toArray⟩, .int .i64 q.o, .int .i64 q.u, .slice a3 q.ns.length c3, .slice d3 q.es.length f3] 25)); obtain ⟨p0, p1, p2, p3, p4, p5⟩ := six_of P3.out.blk)
    | (go_at_call 12; (with_reducible refine (L1.out _ _ _ _ _ _ B3.out P3.out).mono ?_); rintro e4 w4 ⟨rfl, hb4⟩; have B4 := Lib.hid (B3.out.trans (hb4.mono B3.out.size)); have P4 := Lib.hid (P3.out.below hb4); have Q4 := Lib.hid (Q3.out.below hb4); obtain ⟨q0, q1, q2, q3, q4, q5⟩ := six_of Q4.out.blk)
    | (go_at_call 12; (with_reducible refine (L2.out _ _ _ _ _ _ B4.out Q4.out).mono ?_); rintro e5 w5 ⟨rfl, hb5⟩; have B5 := Lib.hid (B4.out.trans (hb5.mono B4.out.size)); have P5 := Lib.hid (P4.out.below hb5); have Q5 := Lib.hid (Q4.out.below hb5)))
  have C1 := Lib.hid (fun (dd : Nat) (os : Array Obj) => Calls.regrown_of (w := w5) (d := dd) (os := os) (same8_any Any Any _ _ p q _ (P5.out.oat.below (below_regrown w5 dd os) (Nat.le_refl _)) (Q5.out.oat.below (below_regrown w5 dd os) (Nat.le_refl _))))
  have C2 := Lib.hid (fun (dd : Nat) (os : Array Obj) => Calls.regrown_of (w := w5) (d := dd) (os := os) (rsame8_any Any Any _ _ p q _ (P5.out.oat.below (below_regrown w5 dd os) (Nat.le_refl _)) (Q5.out.oat.below (below_regrown w5 dd os) (Nat.le_refl _))))
  have C3 := Lib.hid (fun (dd : Nat) (os : Array Obj) => Calls.regrown_of (w := w5) (d := dd) (os := os) (base8_any Any _ p _ (P5.out.oat.below (below_regrown w5 dd os) (Nat.le_refl _))))
  have C4 := Lib.hid (fun (dd : Nat) (os : Array Obj) => quiet_of (w := w5) (d := dd) (os := os) (pick8_any one (p.ns.length : Int) _ b0 b1 (by have := HLN.out; omega) (by have := HLN.out; omega)))
  rw [HBS.out] at C3
  rw [HRR.out] at C1 C2
  have hgt := HLN.out
  obtain ⟨PK, HPK⟩ : ∃ k, Hid (Quo.pickS one (p.ns.length : Int) = k) := ⟨_, rfl⟩
  have hpk : 0 ≤ PK ∧ PK < 64 := by
    rw [← HPK.out]
    have h1 := Quo.pickS_nonneg (c := one) (n := (p.ns.length : Int)) (by omega)
    have h2 := Quo.pickS_lt (c := one) (n := (p.ns.length : Int)) (by omega)
    omega
  rw [HPK.out] at C3 C4
  obtain ⟨g0, g1, g2, g3, g4, g5⟩ := six_of P5.out.blk
  obtain ⟨k0, k1, k2, k3, k4, k5⟩ := six_of Q5.out.blk
  have g0' := cell_regrown g0
  have g1' := cell_regrown g1
  have g2' := cell_regrown g2
  have g3' := cell_regrown g3
  have g4' := cell_regrown g4
  have g5' := cell_regrown g5
  have k0' := cell_regrown k0
  have k1' := cell_regrown k1
  have k2' := cell_regrown k2
  have k3' := cell_regrown k3
  have k4' := cell_regrown k4
  have k5' := cell_regrown k5
  have hw1 : IntKind.i64.wrap (1 + PK) = 1 + PK := by rw [IntKind.wrap_i64]; omega
  have HW5 := Lib.hid B5.out
  clear x0 x1 x2 x3 x4 x5 y0 y1 y2 y3 y4 y5 p0 p1 p2 p3 p4 p5 q0 q1 q2 q3 q4 q5 g0 g1 g2 g3 g4 g5 k0 k1 k2 k3 k4 k5
  rcases HSE.out with ⟨hTU, hrr⟩ | ⟨hTU, hrr⟩
  · subst hTU hrr
    refine wp_region_quiet_below mixed8 (by kernel_rfl) ?_
    repeat (quiet_step (first | (with_reducible exact C1.out _ _) | (with_reducible exact C2.out _ _) | (with_reducible exact C3.out _ _) | (with_reducible exact C4.out _ _)))
    refine wpQuiet_nil ?_
    intro _ hw'
    obtain ⟨⟨dq, osq⟩, hw''⟩ := hw'
    subst hw''
    go_wp2_with fail
    go_ret
    exact ⟨rfl, HW5.out.trans ((below_regrown w5 dq osq).mono HW5.out.size)⟩
  · subst hrr
    have hs := Tp.str_ne hTU
    have hs2 : (T == U) = false := by simpa using hTU
    refine wp_region_quiet_below mixed8 (by kernel_rfl) ?_
    repeat (quiet_step (first | (with_reducible exact C1.out _ _) | (with_reducible exact C2.out _ _) | (with_reducible exact C3.out _ _) | (with_reducible exact C4.out _ _)))
    refine wpQuiet_nil ?_
    intro _ hw'
    obtain ⟨⟨dq, osq⟩, hw''⟩ := hw'
    subst hw''
    go_wp2_with fail
    go_ret
    exact ⟨rfl, HW5.out.trans ((below_regrown w5 dq osq).mono HW5.out.size)⟩
end Go.Proofs.YtgfkpfppdoeifaaGreatDoor.Od

/- The law OrderApart (unlike right orders have unlike texts, and Base is how many nodes are released) answers true for all pairs of raw orders, and of numbers; taken that Go's own tables (those of strconv, math/bits and unicode/utf8) hold what the program's text lays, which the card ties. -/
set_option linter.unusedSimpArgs false
set_option linter.unusedVariables false
namespace Go.Proofs.YtgfkpfppdoeifaaGreatDoor.orderApart
open Go.ChangeShapes Go.WideShapes Go.ChangeAt Go.RowKit Go.Proofs.YtgfkpfppdoeifaaGreatDoor.Od
open Go.Proofs.YtgfkpfppdoeifaaGreatDoor.Js (laid5 laid_met laidWorld tab_of_laid)

set_option maxRecDepth 100000 in
theorem contract (H : Type) (enc : TypeId × Value → H) (W : World) (base : Nat) (args : Array Value) (ds gs : List (DataW H)) (before : List MemPlace)
    (hval : ∀ (j : Nat) t v, Tryz.f9.params[j]? = some t → args[j]? = some v → Value.okWide Tryz.prog W .any base t v)
    (hW : DataW.Whole enc Tryz.prog Tryz.f9.params.toList Rows.orderApartSpec.vars false W args.toList ds gs before) (hz : (DataW.weightsEach Tryz.prog (Tryz.f9.params.toList ++ (OpenSpec.ofChange Rows.orderApartSpec).bare.plain.varTypes Tryz.prog) (ds ++ gs)).all (· ≤ reachBytes) = true) (hL : laidMetH Tryz.prog laid5 W) :
    Calls Tryz.prog 9 args W fun e W' => ∃ v, e = .returned v ∧ Rows.orderApartSpec.post enc Tryz.prog Tryz.f9 false true false false W args v W' := by
  have hT := tab_of_laid hL
  clear hL
  have hW' := hW
  have hlt := hW.lt
  obtain ⟨p, q, hA0, hV, rfl, hfz, hnd⟩ := hW
  have hA : DataW.TrodAll enc Tryz.prog W 0 (fun _ => true) true Tryz.f9.params.toList args.toList ds p := hA0
  rw [Tryz.params9] at hA hval
  obtain ⟨v0, vs0, d0, ds0, p0, q0, hargs, rfl, rfl, h0, r0⟩ := trodAll_cons hA
  obtain ⟨v1, vs1, d1, ds1, p1, q1, rfl, rfl, rfl, h1, r1⟩ := trodAll_cons r0
  obtain ⟨v2, vs2, d2, ds2, p2, q2, rfl, rfl, rfl, h2, r2⟩ := trodAll_cons r1
  obtain ⟨v3, vs3, d3, ds3, p3, q3, rfl, rfl, rfl, h3, r3⟩ := trodAll_cons r2
  obtain ⟨rfl, rfl, rfl⟩ := trodAll_nil r3
  obtain rfl : args = #[v0, v1, v2, v3] := Array.ext' hargs
  obtain ⟨rfl, rfl⟩ := trodVars_none hV
  have k0 := h0
  have k1 := h1
  have k2 := h2
  have k3 := h3
  have wt0 : Wt 25 d0 := wt_of hz (j := 0) (by rw [Tryz.params9]; rfl) rfl
  obtain ⟨z0, hz0⟩ := open_order (hval 0 25 v0 rfl rfl) h0 wt0
  have wt1 : Wt 25 d1 := wt_of hz (j := 1) (by rw [Tryz.params9]; rfl) rfl
  obtain ⟨z1, hz1⟩ := open_order (hval 1 25 v1 rfl rfl) h1 wt1
  obtain ⟨x2, rfl, rfl, rfl, wx2⟩ := open_int Tryz.underlying3 (hval 2 3 v2 rfl rfl) h2
  obtain ⟨b2, c2⟩ := bounds_i64 wx2
  obtain ⟨x3, rfl, rfl, rfl, wx3⟩ := open_int Tryz.underlying3 (hval 3 3 v3 rfl rfl) h3
  obtain ⟨b3, c3⟩ := bounds_i64 wx3
  clear hA0
  simp only [List.append_nil] at hW'
  refine (apart_walk v0 z0 v1 z1 x2 x3 W hT hz0 hz1 b2 c2 b3 c3).mono fun e W' ⟨he, hg⟩ => ?_
  subst he
  exact ⟨_, rfl, _, _, _, [], _, [], hW', trodAll_cons_mk (shut_bool Tryz.underlying4 _) trodAll_mk0,
    (trodAll_cons_mk (Below.trod laidOut (by kernel_rfl) (of_decide_eq_true (by kernel_rfl)) k0 hg (fun x hx => by first | (exact absurd hx (by simp)) | exact hlt x (by simp [hx]))) (trodAll_cons_mk (Below.trod laidOut (by kernel_rfl) (of_decide_eq_true (by kernel_rfl)) k1 hg (fun x hx => by first | (exact absurd hx (by simp)) | exact hlt x (by simp [hx]))) (trodAll_cons_mk (Below.trod laidOut (by kernel_rfl) (of_decide_eq_true (by kernel_rfl)) k2 hg (fun x hx => by first | (exact absurd hx (by simp)) | exact hlt x (by simp [hx]))) (trodAll_cons_mk (Below.trod laidOut (by kernel_rfl) (of_decide_eq_true (by kernel_rfl)) k3 hg (fun x hx => by first | (exact absurd hx (by simp)) | exact hlt x (by simp [hx]))) trodAll_mk0)))), rfl,
    hg.frame _, fun h => by cases h⟩

theorem reads (os : Os) {H : Type} (enc : TypeId × Value → H) : ∃ places, DataW.whole enc Tryz.prog ((laidWorld os).forCall (fun _ _ => 0) ⟨#[], #[.agg #[.int .i64 0, .string ⟨#[]⟩, .int .i64 0, .int .i64 0, .slice none 0 0, .slice none 0 0], .agg #[.int .i64 0, .string ⟨#[]⟩, .int .i64 0, .int .i64 0, .slice none 0 0, .slice none 0 0], .int .i64 0, .int .i64 0], []⟩).memory Tryz.f9.params.toList Rows.orderApartSpec.vars false (#[Value.agg #[.int .i64 0, .string ⟨#[]⟩, .int .i64 0, .int .i64 0, .slice none 0 0, .slice none 0 0], Value.agg #[.int .i64 0, .string ⟨#[]⟩, .int .i64 0, .int .i64 0, .slice none 0 0, .slice none 0 0], Value.int .i64 0, Value.int .i64 0] : Array Value).toList 8 = some ([.agg [.lit (.int .i64 0), .lit (.string []), .lit (.int .i64 0), .lit (.int .i64 0), .nil, .nil], .agg [.lit (.int .i64 0), .lit (.string []), .lit (.int .i64 0), .lit (.int .i64 0), .nil, .nil], .lit (.int .i64 0), .lit (.int .i64 0)], [], places) :=
  ⟨[], by kernel_rfl⟩

set_option maxRecDepth 100000 in
theorem lifted (os : Os) (started : os.Started) (H : Type) (enc : TypeId × Value → H) (F : Stop.Interp) :
    ReturnsInHanded {} Tryz.checked os 9 .any ((OpenSpec.ofChange Rows.orderApartSpec).preRow enc Tryz.prog Tryz.f9 Rows.orderApartRow.domain false Rows.orderApartRow.laid) (((OpenSpec.ofChange Rows.orderApartSpec).at F).post enc Tryz.prog Tryz.f9 false true false false) := by
  obtain ⟨places, hx⟩ := reads os enc
  refine returnsInHanded_of_row (C := Tryz.checked) (s := OpenSpec.ofChange Rows.orderApartSpec) own started (by kernel_rfl) Tryz.func9
    (witness_row_at (enc := enc) (C := Tryz.checked) false (laidWorld os) #[.agg #[.int .i64 0, .string ⟨#[]⟩, .int .i64 0, .int .i64 0, .slice none 0 0, .slice none 0 0], .agg #[.int .i64 0, .string ⟨#[]⟩, .int .i64 0, .int .i64 0, .slice none 0 0, .slice none 0 0], .int .i64 0, .int .i64 0] rfl (by kernel_rfl) (by kernel_rfl) (by kernel_rfl)
      (OpenSpec.preRow_of_cond 8 hx (by kernel_rfl) (fun k hk => by cases hk) (by kernel_rfl) (laid_met os _))) ?_
  intro W base args ds gs before hval hW _ _ hz hL _ _
  exact contract H enc W base args ds gs before hval hW hz hL

theorem said : Rows.OrderApartSaid :=
  OpenClaim.holds_of_cond 9 Tryz.f9 rfl rfl rfl rfl rfl rfl rfl ⟨rfl, rfl, rfl, rfl, rfl⟩ rfl rfl rfl rfl rfl (by kernel_rfl) Tryz.func9 (by kernel_rfl)
    (of_decide_eq_true (by kernel_rfl)) (by unfold Func.isWrapper; first | (rw [if_pos (by decide +kernel)]; kernel_rfl) | (rw [if_neg (by decide +kernel)]; exact ⟨rfl, rfl⟩))
    (fun os started H enc _ F => by rw [OpenClaim.pre_eq_preRow]; exact lifted os started H enc F)

theorem plain (f : FuncId) (fn : Func) (hf : Tryz.pinned.checked.prog.funcNamed Rows.orderApartRow.func = some f) (hfn : Tryz.pinned.checked.prog.funcs[f]? = some fn) :
    false = Tryz.pinned.checked.prog.looks [] ∧ ∀ (j : Nat) t, fn.params[j]? = some t → Tryz.pinned.checked.prog.wantsStandIn t = false := by
  obtain rfl : f = 9 := Option.some.inj ((show Tryz.prog.funcNamed Rows.orderApartRow.func = some 9 by kernel_rfl).symm.trans hf) |>.symm
  obtain rfl : fn = Tryz.f9 := (Option.some.inj (Tryz.func9.symm.trans hfn)).symm
  refine ⟨by kernel_rfl, fun j t ht => ?_⟩
  rw [Tryz.params9] at ht
  have hm := Array.mem_of_getElem? ht
  have hh : t = 25 ∨ t = 3 := by simp at hm; first | (rcases hm with h | h <;> simp [h]) | (rcases hm with h | h | h | h <;> simp [h])
  rcases hh with rfl | rfl
  · exact (show Tryz.prog.wantsStandIn 25 = false by kernel_rfl)
  · exact (show Tryz.prog.wantsStandIn 3 = false by kernel_rfl)

theorem card : Rows.OrderApartCardSaid :=
  Claim7.holds_tied_plain_at .later [] _ _ _ _ said (fun _ h => by cases h) (by kernel_rfl) (fun _ h => by cases h) orderApart_row_tie rfl ⟨rfl, rfl⟩ (by kernel_rfl) rfl plain (by kernel_rfl)
end Go.Proofs.YtgfkpfppdoeifaaGreatDoor.orderApart
