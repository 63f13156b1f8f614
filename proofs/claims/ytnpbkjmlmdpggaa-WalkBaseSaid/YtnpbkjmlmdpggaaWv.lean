import Derived.Test.YtnpbkjmlmdpggaaWu
import Derived.Test.YtnpbkjmlmdpggaaWq
import Derived.Test.YtnpbkjmlmdpggaaYk
/- Chapter 13's example. -/
set_option linter.unusedVariables false
set_option linter.unusedSimpArgs false
namespace Go.Proofs.Ytnpbkjmlmdpggaa.Wk
open Go.RowKit Go.Shelf Ly Od

/-- The example's order. -/
def oX : O := ⟨1, [118], 2, 0, [⟨0, 6, true⟩, ⟨4, 8, false⟩], [⟨3, 7, false⟩]⟩
theorem order_x : orderS Tp.nameB 1 [118] 2 0 [0, 1003, 4] 6 1 = (oX, true) := by
  unfold orderS
  rw [if_pos (by decide)]
  rfl
theorem base_x : baseS Tp.nameB oX = [0] := by decide
theorem stops_x : stopsL [0, 1003, 4] = [0, 4] := by decide
theorem check_x : checkS Tp.nameB 1 [] [] = -1 := rfl
theorem ints_lit3 {w : World} {b : Nat} {x y z : Int} (h : w.heap[b]? = some (.cells #[.int .i64 x, .int .i64 y, .int .i64 z] 3 (0, 0))) : IntsAt w (.slice (some ⟨b, 0, none⟩) 3 3) [x, y, z] := by
  refine ⟨_, 3, rfl, by simp, fun _ => ⟨b, 0, rfl, (Array.getElem?_eq_some_iff.1 h).1, fun j hj => ?_⟩⟩
  have hj' : j < 3 := hj
  have : j = 0 ∨ j = 1 ∨ j = 2 := by omega
  rcases this with rfl | rfl | rfl <;> rw [cell_of_row _ _ _ _ _ _ h] <;> rfl
theorem sts_lit {w : World} {b : Nat} {T : TypeId} {l : List St} (h : w.heap[b]? = some (.cells (cellsS l).toArray T (0, 0))) (h0 : l.length ≤ 100) (hg : ∀ x ∈ l, goodS x) : StsAt (fun _ => True) w (.slice (some ⟨b, 0, none⟩) l.length l.length) l :=
  (sts_own (base := 0) (T := T) ⟨by rw [cellsS_len], .inr ⟨b, l.length, (cellsS l).toArray, rfl, Nat.zero_le _, h, Nat.le_refl _, by unfold maxLen; omega, by simp [cellsS_len], by rw [← cellsS_len]; simp⟩⟩ (by omega) hg).any
/-- An order's box, and the order. -/
structure BX (x : O) (b : Nat) (an ae : Option Addr) (cn ce : Nat) (W : World) : Prop where
  c : ∀ (j : Nat) (v : Value), (#[.int .i64 x.h, .string ⟨x.v.toArray⟩, .int .i64 x.o, .int .i64 x.u, .slice an x.ns.length cn, .slice ae x.es.length ce] : Array Value)[j]? = some v → W.cell? ⟨b, j, none⟩ = some v
  o : OAt Js.Any W (.agg #[.int .i64 x.h, .string ⟨x.v.toArray⟩, .int .i64 x.o, .int .i64 x.u, .slice an x.ns.length cn, .slice ae x.es.length ce]) x
theorem BX.grow {x : O} {b : Nat} {an ae : Option Addr} {cn ce : Nat} {W W' : World} (h : BX x b an ae cn ce W) (hb : Below W.heap.size W W') : BX x b an ae cn ce W' :=
  ⟨fun j v e => (hb.cell (cell_lt (h.c j v e))).trans (h.c j v e), h.o.below hb (Nat.le_refl _)⟩
theorem BX.new {x : O} {an ae : Option Addr} {cn ce : Nat} {W : World} (h : OAt Js.Any W (.agg #[.int .i64 x.h, .string ⟨x.v.toArray⟩, .int .i64 x.o, .int .i64 x.u, .slice an x.ns.length cn, .slice ae x.es.length ce]) x) :
    BX x W.heap.size an ae cn ce (W.alloc (.cells #[.int .i64 x.h, .string ⟨x.v.toArray⟩, .int .i64 x.o, .int .i64 x.u, .slice an x.ns.length cn, .slice ae x.es.length ce] 25)) :=
  ⟨fun j v e => (HoldsA.new W _ 25 j v e).1, h.below ((Below.refl _ _).alloc (Nat.le_refl _) _) (Nat.le_refl _)⟩
set_option maxHeartbeats 16000000 in
set_option maxRecDepth 100000 in
theorem awake13_any (w : World) : Calls Try.prog 9 #[] w (Ret (.bool true) w) := by
  obtain ⟨Q, HQ⟩ : ∃ Q, Hid (Ret (.bool true) w = Q) := ⟨_, rfl⟩
  rw [HQ.out]
  have hw1 := heap_alloc_new w (.cells #[.int .i64 0, .int .i64 1003, .int .i64 4] 3)
  have HB1 : Hid (Below w.heap.size w (w.alloc (.cells #[.int .i64 0, .int .i64 1003, .int .i64 4] 3))) := (Below.refl _ _).alloc (Nat.le_refl _) _
  obtain ⟨w1, HW1⟩ : ∃ w1, Hid (w.alloc (.cells #[.int .i64 0, .int .i64 1003, .int .i64 4] 3) = w1) := ⟨_, rfl⟩
  rw [HW1.out] at hw1 HB1
  have HI1 := Lib.hid (ints_lit3 hw1)
  have CO := Lib.hid (order_any (S := fun _ => True) (y := ⟨1, [118], 2, 0, [], []⟩) (p := [0, 1003, 4]) (w := w1) (.agg #[.int .i64 1, .string ⟨#[118]⟩, .int .i64 2, .int .i64 0, .slice none 0 0, .slice none 0 0]) (.slice (some ⟨w.heap.size, 0, none⟩) 3 3) ⟨_, _, rfl, ⟨by decide, by decide⟩, by simp, ⟨by decide, by decide⟩, ⟨by decide, by decide⟩, sts_nil, sts_nil⟩ HI1.out ⟨_, _, _, rfl, Nat.le_refl _⟩ (by simp [pI]) 6 1 ⟨by decide, by decide⟩ ⟨by decide, by decide⟩)
  simp only at CO
  rw [order_x] at CO
  clear hw1
  go_enter Try.func9, Try.ntmps9
  go_upto_region 2 with (go_at_call 12; rw [HW1.out]; (with_reducible refine (CO.out).mono ?_); rintro e w2 ⟨ov, rfl, hov, hb⟩; have HB2 := Lib.hid hb; obtain ⟨an, cn, ae, ce, rfl, -⟩ := hov.open_; have HOV := Lib.hid hov.any; clear hb hov)
  have HX2 := Lib.hid (BX.new HOV.out)
  have HS2 : Hid (Below w2.heap.size w2 (w2.alloc (.cells #[.int .i64 oX.h, .string ⟨oX.v.toArray⟩, .int .i64 oX.o, .int .i64 oX.u, .slice an oX.ns.length cn, .slice ae oX.es.length ce] 25))) := (Below.refl _ _).alloc (Nat.le_refl _) _
  generalize w2.alloc (.cells #[.int .i64 oX.h, .string ⟨oX.v.toArray⟩, .int .i64 oX.o, .int .i64 oX.u, .slice an oX.ns.length cn, .slice ae oX.es.length ce] 25) = w3 at *
  go_upto_region 3 with fail
  have k1 := heap_alloc2_old w3 (.cells #[.int .i64 0, .int .i64 6, .bool true, .int .i64 4, .int .i64 8, .bool false] 52) (.cells #[.int .i64 3, .int .i64 7, .bool false] 60)
  have k2 := heap_alloc2_new w3 (.cells #[.int .i64 0, .int .i64 6, .bool true, .int .i64 4, .int .i64 8, .bool false] 52) (.cells #[.int .i64 3, .int .i64 7, .bool false] 60)
  obtain ⟨w4, hw4⟩ : ∃ w4, (w3.alloc (.cells #[.int .i64 0, .int .i64 6, .bool true, .int .i64 4, .int .i64 8, .bool false] 52)).alloc (.cells #[.int .i64 3, .int .i64 7, .bool false] 60) = w4 := ⟨_, rfl⟩
  obtain ⟨b4, s4, -, -⟩ := two_cells w3 _ _ _ _ hw4
  rw [hw4] at k1 k2
  rw [hw4]
  have HO4 : Hid (OAt Js.Any w4 (.agg #[.int .i64 1, .string ⟨#[118]⟩, .int .i64 2, .int .i64 0, .slice (some ⟨w3.heap.size, 0, none⟩) 2 2, .slice (some ⟨w3.heap.size + 1, 0, none⟩) 1 1]) oX) :=
    ⟨_, _, rfl, ⟨by decide, by decide⟩, by simp [oX], ⟨by decide, by decide⟩, ⟨by decide, by decide⟩, sts_lit (l := oX.ns) k1 (by decide) (by simp [oX, goodS, Js.i64B]), sts_lit (l := oX.es) k2 (by decide) (by simp [oX, goodS, Js.i64B])⟩
  have b5 : Below w4.heap.size w4 (w4.alloc (.cells #[.int .i64 1, .string ⟨#[118]⟩, .int .i64 2, .int .i64 0, .slice (some ⟨w3.heap.size, 0, none⟩) 2 2, .slice (some ⟨w3.heap.size + 1, 0, none⟩) 1 1] 25)) := (Below.refl _ _).alloc (Nat.le_refl _) _
  have h5 := heap_alloc_new w4 (.cells #[.int .i64 1, .string ⟨#[118]⟩, .int .i64 2, .int .i64 0, .slice (some ⟨w3.heap.size, 0, none⟩) 2 2, .slice (some ⟨w3.heap.size + 1, 0, none⟩) 1 1] 25)
  generalize w4.alloc (.cells #[.int .i64 1, .string ⟨#[118]⟩, .int .i64 2, .int .i64 0, .slice (some ⟨w3.heap.size, 0, none⟩) 2 2, .slice (some ⟨w3.heap.size + 1, 0, none⟩) 1 1] 25) = w5 at *
  have HO5 := Lib.hid (HO4.out.below b5 (Nat.le_refl _))
  have B35 := Lib.hid (b4.trans (b5.mono b4.size))
  have HX5 := Lib.hid (HX2.out.grow B35.out)
  have HBW : Hid (Below w.heap.size w w5) := ((HB1.out.trans (HB2.out.mono HB1.out.size)).trans (HS2.out.mono (Nat.le_trans HB1.out.size HB2.out.size))).trans (B35.out.mono (Nat.le_trans (Nat.le_trans HB1.out.size HB2.out.size) HS2.out.size))
  rw [s4] at h5
  obtain ⟨z0, z1, z2, z3, z4, z5⟩ := six_of h5
  have y0 := HX5.out.c 0 (.int .i64 oX.h) rfl
  have y1 := HX5.out.c 1 (.string ⟨oX.v.toArray⟩) rfl
  have y2 := HX5.out.c 2 (.int .i64 oX.o) rfl
  have y3 := HX5.out.c 3 (.int .i64 oX.u) rfl
  have y4 := HX5.out.c 4 (.slice an oX.ns.length cn) rfl
  have y5 := HX5.out.c 5 (.slice ae oX.es.length ce) rfl
  clear k1 k2 hw4 b4 b5 s4 h5 HO4 HX2 HS2 HI1 CO HB1 HB2 HOV
  have C6 := Lib.hid (fun w' va vb (ha : IntsAt w' va [0]) (hb : IntsAt w' vb [0]) => ints_any [0] [0] va vb w' ha hb true (by simp))
  have C7 := Lib.hid (fun w' va vb (ha : IntsAt w' va [0, 4]) (hb : IntsAt w' vb [0, 4]) => ints_any [0, 4] [0, 4] va vb w' ha hb true (by simp))
  have CB := Lib.hid (fun w' v (hv : OAt Js.Any w' v oX) => by have := base_any (S := Js.Any) (x := oX) (w := w') v hv; rw [base_x] at this; exact this)
  have CT := Lib.hid (fun w' v (hv : IntsAt w' v [0, 1003, 4]) => by have := stops_any (p := [0, 1003, 4]) (w := w') v hv (by decide); rw [stops_x] at this; exact this)
  have CC := Lib.hid (fun w' => check_any (S := Js.Any) (n := 1) (es := []) (l := []) (w := w') (.slice none 0 0) (.slice none 0 0) (EdgesAt.nil _ _) (OrdsAt.nil _ _) (by decide))
  rw [check_x] at CC
  go_wp2_with (first
    | (go_at_call 14; (with_reducible refine (rsame8_any Js.Any Js.Any _ _ oX oX w5 HX5.out.o HO5.out).mono ?_); rintro e w6 ⟨rfl, hb⟩; have HX6 := Lib.hid (HX5.out.grow hb); have B6 := Lib.hid (HBW.out.trans (hb.mono HBW.out.size)); clear y0 y1 y2 y3 y4 y5 hb; have y0 := HX6.out.c 0 (.int .i64 oX.h) rfl; have y1 := HX6.out.c 1 (.string ⟨oX.v.toArray⟩) rfl; have y2 := HX6.out.c 2 (.int .i64 oX.o) rfl; have y3 := HX6.out.c 3 (.int .i64 oX.u) rfl; have y4 := HX6.out.c 4 (.slice an oX.ns.length cn) rfl; have y5 := HX6.out.c 5 (.slice ae oX.es.length ce) rfl)
    | (go_at_call 20; (with_reducible refine (CB.out _ _ HX6.out.o).mono ?_); rintro e w7 ⟨v7, rfl, hv7, hb⟩; have B7 := Lib.hid (B6.out.trans (hb.mono B6.out.size)); have HV7 := Lib.hid hv7; clear hb hv7)
    | (go_at_call 15; (with_reducible refine (C6.out _ _ _ (HV7.out.below ((Below.refl _ w7).alloc (Nat.le_refl _) _) (Nat.le_refl _)) (ints_lit1 (heap_alloc_new w7 _))).mono ?_); rintro e w8 ⟨rfl, hb⟩; have B8 := Lib.hid (((B7.out.alloc B7.out.size (.cells #[.int .i64 0] 3))).trans (hb.mono ((B7.out.alloc B7.out.size (.cells #[.int .i64 0] 3))).size)); clear hb)
    | (go_at_call 16; (with_reducible refine (CT.out _ _ (ints_lit3 (heap_alloc_new w8 _))).mono ?_); rintro e w9 ⟨v9, rfl, hv9, hb⟩; have B9 := Lib.hid (((B8.out.alloc B8.out.size (.cells #[.int .i64 0, .int .i64 1003, .int .i64 4] 3))).trans (hb.mono ((B8.out.alloc B8.out.size (.cells #[.int .i64 0, .int .i64 1003, .int .i64 4] 3))).size)); have HV9 := Lib.hid hv9; clear hb hv9)
    | (go_at_call 15; (with_reducible refine (C7.out _ _ _ (HV9.out.below ((Below.refl _ w9).alloc (Nat.le_refl _) _) (Nat.le_refl _)) (ints_lit2 (heap_alloc_new w9 _))).mono ?_); rintro e wa ⟨rfl, hb⟩; have BA := Lib.hid (((B9.out.alloc B9.out.size (.cells #[.int .i64 0, .int .i64 4] 3))).trans (hb.mono ((B9.out.alloc B9.out.size (.cells #[.int .i64 0, .int .i64 4] 3))).size)); clear hb)
    | (go_at_call 26; (with_reducible refine (CC.out _).mono ?_); rintro e wc ⟨rfl, hb⟩; have BC := Lib.hid (BA.out.trans (hb.mono BA.out.size)); clear hb))
  rw [← HQ.out]
  exact ⟨rfl, BC.out⟩
end Go.Proofs.Ytnpbkjmlmdpggaa.Wk
