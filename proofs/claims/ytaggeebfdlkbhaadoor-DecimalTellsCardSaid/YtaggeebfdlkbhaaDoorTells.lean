/- The walk of the law DecimalTells: it answers true. -/
import Derived.Test.YtaggeebfdlkbhaaDoorSums
import Derived.Test.YtaggeebfdlkbhaaDoorSame
import Derived.Test.YtaggeebfdlkbhaaDoorRParse
import Derived.Test.YtaggeebfdlkbhaaDoorRCompare
import Derived.Test.YtaggeebfdlkbhaaDoorRPrint
import Derived.Test.YtaggeebfdlkbhaaDoorRAdd
import Derived.LoopTactic
import Derived.Deep.DeepCutAuto
import Derived.Deep.CutRange
set_option linter.unusedSimpArgs false
set_option linter.unusedVariables false
namespace Go.Proofs.YtaggeebfdlkbhaaDoor
open Go.RowKit Go.Sort

/-- A block of whole numbers. -/
structure RowAt (w : World) (b : Nat) (l : List Int) : Prop where
  c : ∀ j v, l[j]? = some v → w.cell? ⟨b, j, none⟩ = some (.int .i64 v)
  fz : ∀ o, w.frozen? ⟨b, o, none⟩ = false
  lt : b < w.heap.size
theorem RowAt.below {w w' : World} {b : Nat} {l : List Int} (h : RowAt w b l) (hb : Below w.heap.size w w') : RowAt w' b l :=
  ⟨fun j v hj => by rw [(bcell hb).1 _ _ h.lt]; exact h.c j v hj, fun o => by rw [(bcell hb).2 _ _ h.lt]; exact h.fz o, Nat.lt_of_lt_of_le h.lt hb.size⟩
theorem RowAt.alloc {w : World} {b : Nat} {l : List Int} (h : RowAt w b l) (o : Obj) : RowAt (w.alloc o) b l := h.below ((Below.refl _ _).alloc (Nat.le_refl _) o)
theorem RowAt.new (w : World) (l : List Int) (t : TypeId) : RowAt (w.alloc (.cells (l.map (Value.int .i64)).toArray t)) w.heap.size l :=
  ⟨fun j v hj => by simp [hj], fun o => by simp, by simp⟩
theorem rowAt_at {w : World} {b b' : Nat} {l : List Int} (h : RowAt w b l) (hb : b = b') : RowAt w b' l := hb ▸ h

theorem mk_bounds (m e : Int) : -1000000000000000 ≤ (mk m e).1 ∧ (mk m e).1 ≤ 1000000000000000 ∧ -9 ≤ (mk m e).2.1 ∧ (mk m e).2.1 ≤ 9 := by
  rcases h : (mk m e).2.2 with _ | _
  · rw [mk_not m e h]; decide
  · exact rightB_bounds (mk_is_right m e h)

set_option maxHeartbeats 4000000 in
set_option maxRecDepth 100000 in
theorem tells_walk (x0 x1 : Int) (s : ByteArray) (a0 a1 b0 b1 : Int) (w : World) (ht : Tab w) (hx0 : -9223372036854775808 ≤ x0) (hx1 : x0 ≤ 9223372036854775807) (hy0 : -9223372036854775808 ≤ x1) (hy1 : x1 ≤ 9223372036854775807) (hs : s.size ≤ maxLen)
    (ha0 : -9223372036854775808 ≤ a0) (ha1 : a0 ≤ 9223372036854775807) (ha2 : -9223372036854775808 ≤ a1) (ha3 : a1 ≤ 9223372036854775807)
    (hb0 : -9223372036854775808 ≤ b0) (hb1 : b0 ≤ 9223372036854775807) (hb2 : -9223372036854775808 ≤ b1) (hb3 : b1 ≤ 9223372036854775807) :
    Calls Tryd.prog 3 #[.int .i64 x0, .int .i64 x1, .string s, .agg #[.int .i64 a0, .int .i64 a1], .agg #[.int .i64 b0, .int .i64 b1]] w (Ret (.bool true) w) := by
  have f1 := Lib.hid (fun w => fit_of a0 a1 w ha0 ha1 ha2 ha3)
  have f2 := Lib.hid (fun w => fit_of b0 b1 w hb0 hb1 hb2 hb3)
  have r1 := fit_right a0 a1
  have r2 := fit_right b0 b1
  generalize fitM a0 = m1 at *
  generalize fitE a0 a1 = e1 at *
  generalize fitM b0 = m2 at *
  generalize fitE b0 b1 = e2 at *
  obtain ⟨p1, p2, p3, p4⟩ := rightB_bounds r1
  obtain ⟨q1, q2, q3, q4⟩ := rightB_bounds r2
  have M1 := Lib.hid (fun w => make_any x0 x1 w hx0 hx1 hy0)
  have M2 := Lib.hid (fun w => rmake_any x0 x1 w hx0 hx1 hy0 hy1)
  have L1 := Lib.hid (fun w => parse_ba s w (by unfold maxLen at hs; omega))
  have L2 := Lib.hid (fun w => rparse_any s w (by unfold maxLen at hs; omega))
  have hmb := mk_bounds x0 x1
  generalize mk x0 x1 = res at *
  obtain ⟨k1, k2, k3⟩ := res
  obtain ⟨g1, g2, g3, g4⟩ := hmb
  simp only at g1 g2 g3 g4
  generalize parseS s.data.toList = res2 at *
  obtain ⟨l1, l2, l3⟩ := res2
  unfold mkV at M1 M2 L1 L2
  have HT := Lib.hid ht
  clear ht r1 r2 ha0 ha1 ha2 ha3 hb0 hb1 hb2 hb3
  go_enter Tryd.func3, Tryd.ntmps3
  go_wp2_with fail
  (with_reducible refine (awake_any _ ((HT.out.alloc _).alloc _)).mono ?_)
  rintro e1' w1 ⟨rfl, hw1⟩
  have A1 := ((DecAt.new w a0 a1 22).alloc (.cells #[.int .i64 b0, .int .i64 b1] 22)).below hw1
  have A2 := decAt_at (b' := w.heap.size + 1) ((DecAt.new _ b0 b1 22).below hw1) (by simp)
  have hbb1 : Below w.heap.size w w1 := below_call (below_call hw1)
  clear hw1
  go_wp2_with fail
  (with_reducible refine (M1.out _).mono ?_)
  rintro e1' w2 ⟨rfl, hw2⟩
  have A1 := A1.below hw2
  have A2 := A2.below hw2
  have hbb2 : Below w.heap.size w w2 := hbb1.trans (hw2.mono hbb1.size)
  clear hw2 hbb1
  go_wp2_with fail
  (with_reducible refine (M2.out _).mono ?_)
  rintro e1' w3 ⟨rfl, hw3⟩
  have A1 := (A1.alloc _).below hw3
  have A2 := (A2.alloc _).below hw3
  have X := (DecAt.new w2 k1 k2 _).below hw3
  have hbb3 : Below w.heap.size w w3 := (hbb2.alloc hbb2.size _).trans (hw3.mono (by have := hbb2.size; simp; omega))
  generalize w2.heap.size = bx at *
  clear hw3 hbb2
  go_wp2_with fail
  (with_reducible refine (L1.out _).mono ?_)
  rintro e1' w4 ⟨rfl, hw4⟩
  have A1 := (A1.alloc _).below hw4
  have A2 := (A2.alloc _).below hw4
  have X := (X.alloc _).below hw4
  have Y := (DecAt.new w3 k1 k2 _).below hw4
  have hbb4 : Below w.heap.size w w4 := (hbb3.alloc hbb3.size _).trans (hw4.mono (by have := hbb3.size; simp; omega))
  generalize w3.heap.size = bY at *
  clear hw4 hbb3
  go_wp2_with fail
  (with_reducible refine (L2.out _).mono ?_)
  rintro e1' w5 ⟨rfl, hw5⟩
  have A1 := (A1.alloc _).below hw5
  have A2 := (A2.alloc _).below hw5
  have X := (X.alloc _).below hw5
  have Y := (Y.alloc _).below hw5
  have U := (DecAt.new w4 l1 l2 _).below hw5
  have hbb5 : Below w.heap.size w w5 := (hbb4.alloc hbb4.size _).trans (hw5.mono (by have := hbb4.size; simp; omega))
  generalize w4.heap.size = bu at *
  clear hw5 hbb4
  have Ac := A1
  have Xc := X
  obtain ⟨c0, c1, cf, cl⟩ := Ac
  obtain ⟨d0, d1, df, dl⟩ := Xc
  obtain ⟨i0, i1, jf, jl⟩ := Y
  obtain ⟨u0, u1, uf, ul⟩ := U
  go_wp2_with fail
  (with_reducible refine (f1.out _).mono ?_)
  rintro e1' w6 ⟨rfl, hw6⟩
  have A2 := (A2.alloc _).below hw6
  have X := (X.alloc _).below hw6
  have hbb6 : Below w.heap.size w w6 := (hbb5.alloc hbb5.size _).trans (hw6.mono (by have := hbb5.size; simp; omega))
  generalize w5.heap.size = bv at *
  clear hw6 hbb5 c0 c1 cf cl d0 d1 df dl i0 i1 jf jl u0 u1 uf ul A1
  have Ac := A2
  obtain ⟨c0, c1, cf, cl⟩ := Ac
  go_wp2_with fail
  (with_reducible refine (f2.out _).mono ?_)
  rintro e1' w7 ⟨rfl, hw7⟩
  have X := (X.alloc _).below hw7
  have D := (DecAt.new w6 m1 e1 _).below hw7
  have hbb7 : Below w.heap.size w w7 := (hbb6.alloc hbb6.size _).trans (hw7.mono (by have := hbb6.size; simp; omega))
  generalize w6.heap.size = bd at *
  clear hw7 hbb6 c0 c1 cf cl A2 f1 f2 M1 M2 L1 L2
  obtain ⟨c0, c1, cf, cl⟩ := X
  obtain ⟨d0, d1, df, dl⟩ := D
  go_wp2_with fail
  have S0 := rowAt_at (b' := w7.heap.size + 1 + 1) (RowAt.new ((w7.alloc (.cells #[.int .i64 m2, .int .i64 e2] 25)).alloc (.cells #[.int .i64 x0, .int .i64 x1] 25)) [m1, e1, m2, e2, x0, x1, m2, e2, m2, e2, x0, x1, k1, k2, m1, e1] 30) (by simp)
  have hbbS := ((hbb7.alloc hbb7.size (.cells #[.int .i64 m2, .int .i64 e2] 25)).alloc (by have := hbb7.size; simp; omega) (.cells #[.int .i64 x0, .int .i64 x1] 25)).alloc (by have := hbb7.size; simp; omega) (.cells ([m1, e1, m2, e2, x0, x1, m2, e2, m2, e2, x0, x1, k1, k2, m1, e1].map (Value.int .i64)).toArray 30)
  clear hbb7 c0 c1 cf cl d0 d1 df dl
  go_loopw [105] (fun c wr => ∃ k : Nat, k ≤ 4 ∧ c = .int .i64 k ∧ RowAt wr (w7.heap.size + 1 + 1) [m1, e1, m2, e2, x0, x1, m2, e2, m2, e2, x0, x1, k1, k2, m1, e1] ∧ Below w.heap.size w wr) (fun c _ => 4 - (intOf c).toNat)
  case atStart => exact ⟨0, by omega, rfl, S0, hbbS⟩
  case round =>
    obtain ⟨k, hk, rfl, S, hbb⟩ := hrel
    clear S0 hbbS
    by_cases hk4 : k < 4
    · go_upto_region 13 with fail
      go_cut [24] from 107 to 108 (fun p wx => ∃ z0 z1 z2 z3 : Int, (-9223372036854775808 ≤ z0 ∧ z0 ≤ 9223372036854775807) ∧ (-9223372036854775808 ≤ z1 ∧ z1 ≤ 9223372036854775807) ∧ (-9223372036854775808 ≤ z2 ∧ z2 ≤ 9223372036854775807) ∧ (-9223372036854775808 ≤ z3 ∧ z3 ≤ 9223372036854775807) ∧ p = .pointer (some ⟨wr.heap.size, 0, none⟩) ∧ wx = wr.alloc (.cells #[.int .i64 z0, .int .i64 z1, .int .i64 z2, .int .i64 z3] 30))
      case first =>
        have h4 : k = 0 ∨ k = 1 ∨ k = 2 ∨ k = 3 := by omega
        rcases h4 with rfl | rfl | rfl | rfl
        · have s0 := S.c 0 _ rfl
          have s1 := S.c 1 _ rfl
          have s2 := S.c 2 _ rfl
          have s3 := S.c 3 _ rfl
          go_wp2_with fail
          go_meet
          exact ⟨m1, e1, m2, e2, by omega, by omega, by omega, by omega, rfl, rfl⟩
        · have s0 := S.c 4 _ rfl
          have s1 := S.c 5 _ rfl
          have s2 := S.c 6 _ rfl
          have s3 := S.c 7 _ rfl
          go_wp2_with fail
          go_meet
          exact ⟨x0, x1, m2, e2, by omega, by omega, by omega, by omega, rfl, rfl⟩
        · have s0 := S.c 8 _ rfl
          have s1 := S.c 9 _ rfl
          have s2 := S.c 10 _ rfl
          have s3 := S.c 11 _ rfl
          go_wp2_with fail
          go_meet
          exact ⟨m2, e2, x0, x1, by omega, by omega, by omega, by omega, rfl, rfl⟩
        · have s0 := S.c 12 _ rfl
          have s1 := S.c 13 _ rfl
          have s2 := S.c 14 _ rfl
          have s3 := S.c 15 _ rfl
          go_wp2_with fail
          go_meet
          exact ⟨k1, k2, m1, e1, by omega, by omega, by omega, by omega, rfl, rfl⟩
      case rest =>
        obtain ⟨z0, z1, z2, z3, ⟨n0, n1⟩, ⟨n2, n3⟩, ⟨n4, n5⟩, ⟨n6, n7⟩, rfl, rfl⟩ := hcut
        have PA := Lib.hid (fun w => add_any z0 z1 z2 z3 w)
        have PB := Lib.hid (fun w => radd_any z0 z1 z2 z3 w n0 n1 n2 n3 n4 n5 n6 n7)
        have IA := Lib.hid (fun w => int_any z0 z1 w)
        have IB := Lib.hid (fun w => rint_any z0 z1 w n0 n1 n2 n3)
        have RA := Lib.hid (fun w => right_any z0 z1 w)
        have RB := Lib.hid (fun w => rright_any z0 z1 w n0 n1 n2 n3)
        have TA := Lib.hid (fun w h => print_any z0 z1 w h)
        have TB := Lib.hid (fun w => rprint_any z0 z1 w n0 n1 n2 n3)
        have CA := Lib.hid (fun w h => compare_any z0 z1 z2 z3 w h)
        have CB := Lib.hid (fun w => rcompare_any z0 z1 z2 z3 w n0 n1 n2 n3 n4 n5 n6 n7)
        generalize addS z0 z1 z2 z3 = ra at *
        generalize intS z0 z1 = ri at *
        generalize rightB z0 z1 = rb at *
        generalize (⟨(printS z0 z1).toArray⟩ : ByteArray) = rt at *
        generalize cmpD z0 z1 z2 z3 = rc at *
        obtain ⟨s1, s2, s3⟩ := ra
        obtain ⟨i1, i2⟩ := ri
        unfold mkV at PA PB
        unfold rsV at IA IB
        have Z := RowAt.new wr [z0, z1, z2, z3] 30
        have S := S.alloc (.cells ([z0, z1, z2, z3].map (Value.int .i64)).toArray 30)
        have hbb := hbb.alloc hbb.size (.cells ([z0, z1, z2, z3].map (Value.int .i64)).toArray 30)
        change RowAt (wr.alloc (.cells #[.int .i64 z0, .int .i64 z1, .int .i64 z2, .int .i64 z3] 30)) _ _ at Z
        change RowAt (wr.alloc (.cells #[.int .i64 z0, .int .i64 z1, .int .i64 z2, .int .i64 z3] 30)) _ _ at S
        change Below _ _ (wr.alloc (.cells #[.int .i64 z0, .int .i64 z1, .int .i64 z2, .int .i64 z3] 30)) at hbb
        generalize wr.alloc (.cells #[.int .i64 z0, .int .i64 z1, .int .i64 z2, .int .i64 z3] 30) = v0 at *
        generalize wr.heap.size = bz at *
        clear n0 n1 n2 n3 n4 n5 n6 n7
        have t0 := Z.c 0 _ rfl
        have t1 := Z.c 1 _ rfl
        have t2 := Z.c 2 _ rfl
        have t3 := Z.c 3 _ rfl
        go_wp2_with fail
        (with_reducible refine (PA.out _).mono ?_)
        rintro e1' v1 ⟨rfl, hv1⟩
        have Z := Z.below hv1
        have S := S.below hv1
        have hbb := hbb.trans (hv1.mono hbb.size)
        clear hv1 t0 t1 t2 t3
        have t0 := Z.c 0 _ rfl
        have t1 := Z.c 1 _ rfl
        have t2 := Z.c 2 _ rfl
        have t3 := Z.c 3 _ rfl
        have tl := Z.lt
        go_wp2_with fail
        (with_reducible refine (PB.out _).mono ?_)
        rintro e1' v2 ⟨rfl, hv2⟩
        have Z := (Z.alloc _).below hv2
        have S := (S.alloc _).below hv2
        have F := (DecAt.new v1 s1 s2 _).below hv2
        have hbb : Below w.heap.size w v2 := (hbb.alloc hbb.size _).trans (hv2.mono (by have := hbb.size; simp; omega))
        generalize v1.heap.size = bf at *
        clear hv2 t0 t1 t2 t3 tl
        have t0 := Z.c 0 _ rfl
        have t1 := Z.c 1 _ rfl
        have tl := Z.lt
        go_wp2_with fail
        (with_reducible refine (IA.out _).mono ?_)
        rintro e1' v3 ⟨rfl, hv3⟩
        have Z := (Z.alloc _).below hv3
        have S := (S.alloc _).below hv3
        have F := (F.alloc _).below hv3
        have H := (DecAt.new v2 s1 s2 _).below hv3
        have hbb : Below w.heap.size w v3 := (hbb.alloc hbb.size _).trans (hv3.mono (by have := hbb.size; simp; omega))
        generalize v2.heap.size = bh at *
        clear hv3 t0 t1 tl
        have t0 := Z.c 0 _ rfl
        have t1 := Z.c 1 _ rfl
        have tl := Z.lt
        go_wp2_with fail
        (with_reducible refine (IB.out _).mono ?_)
        rintro e1' v4 ⟨rfl, hv4⟩
        have Z := Z.below hv4
        have S := S.below hv4
        have F := F.below hv4
        have H := H.below hv4
        have hbb := hbb.trans (hv4.mono hbb.size)
        clear hv4 t0 t1 tl
        have HTv := Lib.hid (HT.out.below hbb)
        have t0 := Z.c 0 _ rfl
        have t1 := Z.c 1 _ rfl
        have t2 := Z.c 2 _ rfl
        have t3 := Z.c 3 _ rfl
        have tl := Z.lt
        obtain ⟨f0, f1, ff, fl⟩ := F
        obtain ⟨h0, h1, hf, hl⟩ := H
        go_wp2_with fail
        have k0 := cell_regrown t0
        have k1' := cell_regrown t1
        have k2' := cell_regrown t2
        have k3' := cell_regrown t3
        have l0 := cell_regrown f0
        have l1' := cell_regrown f1
        have o0 := cell_regrown h0
        have o1 := cell_regrown h1
        have cA : Hid (∀ d os, Calls Tryd.prog 20 #[.agg #[.int .i64 z0, .int .i64 z1]] (grow (redrawn v4 d) os) fun e w'' => e = .returned (.bool rb) ∧ ∃ p : Regrown, w'' = grow (redrawn v4 p.d) p.os) :=
          fun d os => Calls.regrown_of (RA.out _)
        have cB : Hid (∀ d os, Calls Tryd.prog 21 #[.agg #[.int .i64 z0, .int .i64 z1]] (grow (redrawn v4 d) os) fun e w'' => e = .returned (.bool rb) ∧ ∃ p : Regrown, w'' = grow (redrawn v4 p.d) p.os) :=
          fun d os => Calls.regrown_of (RB.out _)
        have cC : Hid (∀ d os, Calls Tryd.prog 22 #[.agg #[.int .i64 z0, .int .i64 z1]] (grow (redrawn v4 d) os) fun e w'' => e = .returned (.string rt) ∧ ∃ p : Regrown, w'' = grow (redrawn v4 p.d) p.os) :=
          fun d os => Calls.regrown_of (TA.out _ (HTv.out.below (below_regrown v4 d os)))
        have cD : Hid (∀ d os, Calls Tryd.prog 23 #[.agg #[.int .i64 z0, .int .i64 z1]] (grow (redrawn v4 d) os) fun e w'' => e = .returned (.string rt) ∧ ∃ p : Regrown, w'' = grow (redrawn v4 p.d) p.os) :=
          fun d os => Calls.regrown_of (TB.out _)
        have cE : Hid (∀ d os, Calls Tryd.prog 24 #[.agg #[.int .i64 z0, .int .i64 z1], .agg #[.int .i64 z2, .int .i64 z3]] (grow (redrawn v4 d) os) fun e w'' => e = .returned (.int .i64 rc) ∧ ∃ p : Regrown, w'' = grow (redrawn v4 p.d) p.os) :=
          fun d os => Calls.regrown_of (CA.out _ (HTv.out.below (below_regrown v4 d os)))
        have cF : Hid (∀ d os, Calls Tryd.prog 25 #[.agg #[.int .i64 z0, .int .i64 z1], .agg #[.int .i64 z2, .int .i64 z3]] (grow (redrawn v4 d) os) fun e w'' => e = .returned (.int .i64 rc) ∧ ∃ p : Regrown, w'' = grow (redrawn v4 p.d) p.os) :=
          fun d os => Calls.regrown_of (CB.out _)
        clear t0 t1 t2 t3 tl f0 f1 ff fl h0 h1 hf hl PA PB IA IB RA RB TA TB CA CB HTv
        refine wp_region_quiet_below mixed (by kernel_rfl) ?_
        repeat (quiet_step (first | with_reducible exact cA.out _ _ | with_reducible exact cB.out _ _ | with_reducible exact cC.out _ _ | with_reducible exact cD.out _ _ | with_reducible exact cE.out _ _ | with_reducible exact cF.out _ _))
        refine wpQuiet_nil ?_
        intro _ hw'
        obtain ⟨⟨dq, osq⟩, hw''⟩ := hw'
        subst hw''
        have hbR := below_regrown v4 dq osq
        have S := S.below hbR
        have hbb := hbb.trans (hbR.mono hbb.size)
        clear hbR k0 k1' k2' k3' l0 l1' o0 o1 cA cB cC cD cE cF
        generalize grow (redrawn v4 dq) osq = v5 at *
        go_wp2_with fail
        exact ⟨⟨k + 1, by omega, by simp, S, hbb⟩, by simp [intOf]; omega⟩
    · go_wp2_with fail
      go_ret
      exact ⟨ret_bool (by simp), hbb⟩
end Go.Proofs.YtaggeebfdlkbhaaDoor
