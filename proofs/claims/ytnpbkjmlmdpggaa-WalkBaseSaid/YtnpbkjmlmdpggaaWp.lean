import Derived.Test.YtnpbkjmlmdpggaaWo
import Derived.Test.YtnpbkjmlmdpggaaWm
import Derived.Test.YtnpbkjmlmdpggaaWk
import Derived.BigQuiet
/- mayCome. -/
set_option linter.unusedVariables false
set_option linter.unusedSimpArgs false
namespace Go.Proofs.Ytnpbkjmlmdpggaa.Wk
open Go.RowKit Go.Shelf Ly Od

/-- What the program asks of an order behind others. -/
noncomputable def mayS (nm : List UInt8 → Bool) (n : Int) (es : List Ed) (l : List O) (x : O) : Bool :=
  fitsS nm n es x && if l.length = 0 then decide (x.u = 0) else followsS nm (l.getD (l.length - 1) o0) x && (decide ((l.getD (l.length - 1) o0).o = x.o) || comesK nm l (l.getD (l.length - 1) o0).o (x.ns.getD 0 st0).id l.length)
/-- The two boxes and the row's last. -/
structure MB (w : World) (n : Int) (la : Option Addr) (ne lc : Nat) (x : O) (an ae : Option Addr) (cn ce : Nat) (W : World) : Prop where
  l0 : W.cell? ⟨w.heap.size, 0, none⟩ = some (.int .i64 n)
  l1 : W.cell? ⟨w.heap.size, 1, none⟩ = some (.slice la ne lc)
  o0 : W.cell? ⟨w.heap.size + 1, 0, none⟩ = some (.int .i64 x.h)
  o1 : W.cell? ⟨w.heap.size + 1, 1, none⟩ = some (.string ⟨x.v.toArray⟩)
  o2 : W.cell? ⟨w.heap.size + 1, 2, none⟩ = some (.int .i64 x.o)
  o3 : W.cell? ⟨w.heap.size + 1, 3, none⟩ = some (.int .i64 x.u)
  o4 : W.cell? ⟨w.heap.size + 1, 4, none⟩ = some (.slice an x.ns.length cn)
  o5 : W.cell? ⟨w.heap.size + 1, 5, none⟩ = some (.slice ae x.es.length ce)
  bel : Below w.heap.size w W
theorem MB.grow {w : World} {n : Int} {la : Option Addr} {ne lc : Nat} {x : O} {an ae : Option Addr} {cn ce : Nat} {W W' : World} (h : MB w n la ne lc x an ae cn ce W) (hb : Below W.heap.size W W') : MB w n la ne lc x an ae cn ce W' :=
  ⟨(hb.cell (cell_lt h.l0)).trans h.l0, (hb.cell (cell_lt h.l1)).trans h.l1, (hb.cell (cell_lt h.o0)).trans h.o0, (hb.cell (cell_lt h.o1)).trans h.o1, (hb.cell (cell_lt h.o2)).trans h.o2, (hb.cell (cell_lt h.o3)).trans h.o3, (hb.cell (cell_lt h.o4)).trans h.o4, (hb.cell (cell_lt h.o5)).trans h.o5, h.bel.trans (hb.mono h.bel.size)⟩
theorem MB.new (w : World) (n : Int) (la : Option Addr) (ne lc : Nat) (x : O) (an ae : Option Addr) (cn ce : Nat) :
    ∃ w2, (w.alloc (.cells #[.int .i64 n, .slice la ne lc] 32)).alloc (.cells #[.int .i64 x.h, .string ⟨x.v.toArray⟩, .int .i64 x.o, .int .i64 x.u, .slice an x.ns.length cn, .slice ae x.es.length ce] 25) = w2 ∧ MB w n la ne lc x an ae cn ce w2 := by
  obtain ⟨w2, hw2⟩ : ∃ w2, (w.alloc (.cells #[.int .i64 n, .slice la ne lc] 32)).alloc (.cells #[.int .i64 x.h, .string ⟨x.v.toArray⟩, .int .i64 x.o, .int .i64 x.u, .slice an x.ns.length cn, .slice ae x.es.length ce] 25) = w2 := ⟨_, rfl⟩
  obtain ⟨b2, hs2, k1, k2⟩ := two_cells w _ _ _ _ hw2
  exact ⟨w2, hw2, (k1 0 (.int .i64 n) rfl).1, (k1 1 (.slice la ne lc) rfl).1, (k2 0 (.int .i64 x.h) rfl).1, (k2 1 (.string ⟨x.v.toArray⟩) rfl).1, (k2 2 (.int .i64 x.o) rfl).1, (k2 3 (.int .i64 x.u) rfl).1, (k2 4 (.slice an x.ns.length cn) rfl).1, (k2 5 (.slice ae x.es.length ce) rfl).1, b2⟩
set_option maxHeartbeats 1000000 in
set_option maxRecDepth 100000 in
theorem mayCome_any {S S' : Nat → Prop} {n : Int} {es : List Ed} {l : List O} {x : O} {w : World} (lv v ov : Value) (hl : EdgesAt w lv es) (hp : OrdsAt S w v l) (ho : OAt S' w ov x) (hlen : l.length * 8 ≤ 140737488355328) :
    Calls Try.prog 43 #[.agg #[.int .i64 n, lv], v, ov] w (Ret (.bool (mayS Tp.nameB n es l x)) w) := by
  have mixed : Try.prog.follows .mixedOrders = true := by kernel_rfl
  obtain ⟨Q, HQ⟩ : ∃ Q, Hid (Ret (.bool (mayS Tp.nameB n es l x)) w = Q) := ⟨_, rfl⟩
  rw [HQ.out]
  have HO := Lib.hid ho.any
  have HE := Lib.hid hl
  have HP := Lib.hid hp.any
  obtain ⟨an, cn, ae, ce, rfl, -, -, -, -, hN, -⟩ := ho.open_
  obtain ⟨la, lc, rfl, hll, -⟩ := hl
  obtain ⟨ao, ac, rfl, hac, hl18, -⟩ := hp
  obtain ⟨w2, hw2, hM⟩ := MB.new w n la es.length lc x an ae cn ce
  have HM := Lib.hid hM
  have HW2 := Lib.hid hw2
  have HN := Lib.hid (hN.any.below hM.bel (Nat.le_refl _))
  have CF := Lib.hid (fits_any (n := n) (es := es) (x := x) (w := w2) _ _ (HE.out.below hM.bel (Nat.le_refl _)) (HO.out.below hM.bel (Nat.le_refl _)))
  unfold mayS at HQ
  have x0 := hM.l0; have x1 := hM.l1; have x2 := hM.o0; have x3 := hM.o1; have x4 := hM.o2; have x5 := hM.o3; have x6 := hM.o4; have x7 := hM.o5
  clear ho hN hM hw2
  cases hf : fitsS Tp.nameB n es x with
  | false =>
    rw [hf] at CF HQ
    go_enter Try.func43, Try.ntmps43
    go_upto_region 1 with fail
    rw [HW2.out]
    go_wp2_with (go_at_call 22; (with_reducible refine (CF.out).mono ?_); rintro e1 w3 ⟨rfl, hb1⟩; have HM3 := Lib.hid (HM.out.grow hb1); clear hb1)
    rw [← HQ.out]
    exact ⟨rfl, HM3.out.bel⟩
  | true =>
    rw [hf] at CF HQ
    have hx := (fits_iff.1 hf).2.1
    obtain ⟨g1, -, -, -⟩ := right_lens hx
    clear hf
    obtain ⟨N, HNl⟩ : ∃ N, Hid (l.length = N) := ⟨_, rfl⟩
    have hac' := hac
    have hlen' := hlen
    rw [HNl.out] at HQ hac' hlen' hl18
    rw [HNl.out]
    clear hac hlen
    cases N with
    | zero =>
      go_enter Try.func43, Try.ntmps43
      go_upto_region 1 with fail
      rw [HW2.out]
      go_wp2_with (go_at_call 22; (with_reducible refine (CF.out).mono ?_); rintro e1 w3 ⟨rfl, hb1⟩; have HM3 := Lib.hid (HM.out.grow hb1); clear x0 x1 x2 x3 x4 x5 x6 x7; have x5 := HM3.out.o3; clear hb1)
      rw [← HQ.out]
      exact ⟨rfl, HM3.out.bel⟩
    | succ N =>
      rw [if_neg (Nat.succ_ne_zero N), Bool.true_and, Nat.add_sub_cancel] at HQ
      obtain ⟨ao', ac', e, -, -, hrow⟩ := HP.out
      cases e
      obtain ⟨rb, rf, rfl, hrb, hrow⟩ := hrow (by rw [HNl.out]; omega)
      obtain ⟨zv, hlie, hLA⟩ := hrow N (by rw [HNl.out]; omega)
      have HLA := Lib.hid hLA
      obtain ⟨bn, kn, be, ke, rfl, c0, c1, c2, c3, c4, c5⟩ := six_at hlie hLA
      clear hrow hlie hLA
      obtain ⟨b0, f0, e0, -, hb0, -, n0, -, -⟩ := HN.out.at_ (k := 0) (by omega)
      cases e0
      rw [Nat.zero_mul, Nat.add_zero] at n0
      have HCO := Lib.hid (fun w' (hb : Below w.heap.size w w') => comesTo_any (S := Js.Any) (l := l) (w := w') _ (HP.out.below hb (Nat.le_refl _)) (l.getD N o0).o (x.ns.getD 0 st0).id (by rw [HNl.out]; exact hlen'))
      rw [HNl.out] at HCO
      have HFO := Lib.hid (fun w' (hb : Below w.heap.size w w') => follows_any (S := Js.Any) (S' := Js.Any) (a := l.getD N o0) (b := x) (w := w') _ _ (HLA.out.below hb (Nat.le_refl _)) (HO.out.below hb (Nat.le_refl _)))
      obtain ⟨y, HY⟩ : ∃ y, Hid (l.getD N o0 = y) := ⟨_, rfl⟩
      rw [HY.out] at HQ c0 c1 c2 c3 c4 c5 HCO HFO HLA
      obtain ⟨i0, HI0⟩ : ∃ i0, Hid ((x.ns.getD 0 st0).id = i0) := ⟨_, rfl⟩
      rw [HI0.out] at HQ HCO n0
      have hn1 : (N : Int) < ((N + 1 : Nat) : Int) := by omega
      have hn0 : (0 : Int) < (x.ns.length : Int) := by omega
      have hw1 : IntKind.i64.wrap (((N + 1 : Nat) : Int) - 1) = (N : Int) := by rw [show (((N + 1 : Nat) : Int) - 1) = (N : Int) by omega]; exact IntWalk.i64_in _ (by omega)
      have hnz : ((N + 1 : Nat) : Int) ≠ 0 := by omega
      go_enter Try.func43, Try.ntmps43
      go_upto_region 1 with fail
      rw [HW2.out]
      go_upto_region 6 with (go_at_call 22; (with_reducible refine (CF.out).mono ?_); rintro e1 w3 ⟨rfl, hb1⟩; have HM3 := Lib.hid (HM.out.grow hb1); have HB3 := Lib.hid hb1; clear x0 x1 x2 x3 x4 x5 x6 x7; replace c0 := (HM3.out.bel.cell (p := ⟨rb, _, none⟩) hrb).trans c0; replace c1 := (HM3.out.bel.cell (p := ⟨rb, _, none⟩) hrb).trans c1; replace c2 := (HM3.out.bel.cell (p := ⟨rb, _, none⟩) hrb).trans c2; replace c3 := (HM3.out.bel.cell (p := ⟨rb, _, none⟩) hrb).trans c3; replace c4 := (HM3.out.bel.cell (p := ⟨rb, _, none⟩) hrb).trans c4; replace c5 := (HM3.out.bel.cell (p := ⟨rb, _, none⟩) hrb).trans c5; clear hb1)
      have HW := Lib.hid HM3.out.bel
      have hyo : ∃ e : Bool, Hid (decide (y.o = x.o) = e) := ⟨_, rfl⟩
      obtain ⟨e, HEQ⟩ := hyo
      obtain ⟨ff, HFF⟩ : ∃ ff : Bool, Hid (followsS Tp.nameB y x = ff) := ⟨_, rfl⟩
      obtain ⟨cc, HCC⟩ : ∃ cc : Bool, Hid (comesK Tp.nameB l y.o i0 (N + 1) = cc) := ⟨_, rfl⟩
      rw [HFF.out] at HFO HQ
      rw [HCC.out] at HCO HQ
      rw [HEQ.out] at HQ
      obtain ⟨w5, HW5⟩ : ∃ w5, Hid (w3.alloc (.cells #[.int .i64 y.h, .string ⟨y.v.toArray⟩, .int .i64 y.o, .int .i64 y.u, .slice bn y.ns.length kn, .slice be y.es.length ke] 25) = w5) := ⟨_, rfl⟩
      rw [HW5.out]
      have z : ∀ i v, #[Value.int .i64 y.h, .string ⟨y.v.toArray⟩, .int .i64 y.o, .int .i64 y.u, .slice bn y.ns.length kn, .slice be y.es.length ke][i]? = some v → w5.cell? ⟨w3.heap.size, i, none⟩ = some v := fun i v h => by
        rw [← HW5.out]
        exact (HoldsA.new w3 _ 25 i v h).1
      have hb5 : Below w3.heap.size w3 w5 := by rw [← HW5.out]; exact (Below.refl _ _).alloc (Nat.le_refl _) _
      have HM5 := Lib.hid (HM3.out.grow hb5)
      have v0 := cell_regrown (z 0 _ rfl)
      have v1 := cell_regrown (z 1 _ rfl)
      have v2 := cell_regrown (z 2 _ rfl)
      have v3 := cell_regrown (z 3 _ rfl)
      have v4 := cell_regrown (z 4 _ rfl)
      have v5 := cell_regrown (z 5 _ rfl)
      have u0 := cell_regrown HM5.out.o0
      have u1 := cell_regrown HM5.out.o1
      have u2 := cell_regrown HM5.out.o2
      have u3 := cell_regrown HM5.out.o3
      have u4 := cell_regrown HM5.out.o4
      have u5 := cell_regrown HM5.out.o5
      have t0 := cell_regrown ((HB3.out.trans (hb5.mono HB3.out.size)).cell (p := ⟨b0, _, none⟩) hb0 |>.trans n0)
      have C1 := Lib.hid (fun (dd : Nat) (os : Array Obj) => Calls.regrown_of (w := w5) (d := dd) (os := os) (HFO.out _ (HM5.out.bel.trans ((below_regrown w5 dd os).mono HM5.out.bel.size))))
      have C2 := Lib.hid (fun (dd : Nat) (os : Array Obj) => Calls.regrown_of (w := w5) (d := dd) (os := os) (HCO.out _ (HM5.out.bel.trans ((below_regrown w5 dd os).mono HM5.out.bel.size))))
      clear z hb5 c0 c1 c2 c3 c4 c5 n0 HFO HCO HLA HO HP HN CF HE HM HM3 HB3 hrow HW2
      cases ff with
      | false =>
        rw [Bool.false_and] at HQ
        refine wp_region_quiet_below mixed (by kernel_rfl) ?_
        repeat (go_big_quiet_step (with_reducible exact C1.out _ _))
        refine wpQuiet_nil ?_
        intro _ hw'
        obtain ⟨⟨dq, osq⟩, hw''⟩ := hw'
        subst hw''
        have HBN := Lib.hid (HM5.out.bel.trans ((below_regrown w5 dq osq).mono HM5.out.bel.size))
        go_wp2_with fail
        rw [← HQ.out]
        exact ⟨rfl, HBN.out⟩
      | true =>
        rw [Bool.true_and] at HQ
        cases e with
        | true =>
          have hh : (y.o == x.o) = true := by have := of_decide_eq_true HEQ.out; simpa using this
          rw [Bool.true_or] at HQ
          refine wp_region_quiet_below mixed (by kernel_rfl) ?_
          repeat (go_big_quiet_step (with_reducible exact C1.out _ _))
          refine wpQuiet_nil ?_
          intro _ hw'
          obtain ⟨⟨dq, osq⟩, hw''⟩ := hw'
          subst hw''
          have HBN := Lib.hid (HM5.out.bel.trans ((below_regrown w5 dq osq).mono HM5.out.bel.size))
          go_wp2_with fail
          rw [← HQ.out]
          exact ⟨rfl, HBN.out⟩
        | false =>
          have hh : (y.o == x.o) = false := by have := of_decide_eq_false HEQ.out; simpa using this
          rw [Bool.false_or] at HQ
          refine wp_region_quiet_below mixed (by kernel_rfl) ?_
          repeat (go_big_quiet_step (with_reducible first | exact C1.out _ _ | exact C2.out _ _))
          refine wpQuiet_nil ?_
          intro _ hw'
          obtain ⟨⟨dq, osq⟩, hw''⟩ := hw'
          subst hw''
          have HBN := Lib.hid (HM5.out.bel.trans ((below_regrown w5 dq osq).mono HM5.out.bel.size))
          go_wp2_with fail
          rw [← HQ.out]
          exact ⟨rfl, HBN.out⟩
end Go.Proofs.Ytnpbkjmlmdpggaa.Wk
