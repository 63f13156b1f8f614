import Derived.Test.YtnpbkjmlmdpggaaWt
import Derived.Test.YtnpbkjmlmdpggaaKc
import Derived.Sort.CutIn
/- An order of a raw one. -/
set_option linter.unusedVariables false
set_option linter.unusedSimpArgs false
namespace Go.Proofs.Ytnpbkjmlmdpggaa.Wk
open Go.RowKit Go.Shelf Ly Od

/-- A raw order. -/
structure RawR where
  h : Int
  o : Int
  u : Int
  q : Int
  f : Int
  r : Int
  ts : List Int
/-- A value that reads as a raw order. -/
structure RawAt (w : World) (v : Value) (x : RawR) : Prop where
  val : ∃ tv, v = .agg #[.int .i64 x.h, .int .i64 x.o, .int .i64 x.u, .int .i64 x.q, .int .i64 x.f, .int .i64 x.r, tv] ∧ IntsAt w tv x.ts
  bh : Js.i64B x.h
  bo : Js.i64B x.o
  bu : Js.i64B x.u
  bq : Js.i64B x.q
  bf : Js.i64B x.f
  br : Js.i64B x.r
  bt : ∀ t ∈ x.ts, Js.i64B t
/-- The order that is made over a path. -/
def madeO (x : RawR) (p : List Int) : O := overO (pickS x.h 50) [118] (pickS x.o 3) (pickS x.u 4) p (2 * pickS x.q 20) (1 + pickS x.r (((p.length + 1) / 2 : Nat) : Int))
/-- What is made: an order, and its path. -/
def RetMake (n : Int) (es : List Ed) (x : RawR) (w : World) (e : Ending) (w' : World) : Prop :=
  ∃ (p : List Int) (ov : Value) (ao : Option Addr) (c : Nat), e = .returned (.tuple #[ov, .slice ao p.length c]) ∧ LP n es p ∧ p.length ≤ 41 ∧ p.length ≤ c ∧ IntsAt w' (.slice ao p.length c) p ∧ OAt (fun b => w.heap.size ≤ b ∧ NotO w' b) w' ov (madeO x p) ∧ Below w.heap.size w w'
theorem made_right {n : Int} {es : List Ed} {x : RawR} {p : List Int} (hp : LP n es p) (hr : RightL n es) : rightO Tp.nameB (madeO x p) = true := by
  have h1 := pickS_nonneg (c := x.h) (n := 50) (by omega)
  have h2 := pickS_lt (c := x.h) (n := 50) (by omega)
  have h3 := pickS_nonneg (c := x.o) (n := 3) (by omega)
  have h4 := pickS_lt (c := x.o) (n := 3) (by omega)
  have h5 := pickS_nonneg (c := x.u) (n := 4) (by omega)
  have h6 := pickS_lt (c := x.u) (n := 4) (by omega)
  have h7 := pickS_nonneg (c := x.q) (n := 20) (by omega)
  have h8 := pickS_lt (c := x.q) (n := 20) (by omega)
  have ho := hp.odd
  have h9 := pickS_nonneg (c := x.r) (n := (((p.length + 1) / 2 : Nat) : Int)) (by omega)
  exact hp.right hr (by decide) (by simp [numB]; omega) (by simp [numB]; omega) (by simp [numB]; omega) (by omega) (by omega) (by omega) (by omega)
theorem LP.pI {n : Int} {es : List Ed} {p : List Int} (hp : LP n es p) (hr : RightL n es) : pI p := fun x hx => by
  obtain ⟨i, hi, rfl⟩ := List.mem_iff_getElem.1 hx
  have e : p[i] = pi p i := by simp [pi, List.getD_eq_getElem?_getD, List.getElem?_eq_getElem hi]
  rw [e]
  by_cases c : i % 2 = 0
  · obtain ⟨j, rfl⟩ : ∃ j, i = 2 * j := ⟨i / 2, by omega⟩
    have := (hp.node hr j hi).2
    have := hr.2.1
    omega
  · obtain ⟨j, rfl⟩ : ∃ j, i = 2 * j + 1 := ⟨i / 2, by omega⟩
    have := (hp.edge hr hi).2
    omega
theorem made_order {n : Int} {es : List Ed} {x : RawR} {p : List Int} (hp : LP n es p) (hr : RightL n es) : orderS Tp.nameB (pickS x.h 50) [118] (pickS x.o 3) (pickS x.u 4) p (2 * pickS x.q 20) (1 + pickS x.r (((p.length + 1) / 2 : Nat) : Int)) = (madeO x p, true) := by
  unfold orderS
  rw [hp.path hr, Bool.true_and]
  exact if_pos (made_right hp hr)
theorem stable_po (B : Nat) (X : O) : Stable (fun z wv => OAt (fun b => B ≤ b ∧ NotO wv b) wv z X) := fun z w w' h hb => h.keep (fun b hS hl => ⟨hS.1, hS.2.keep (hb.block b hl)⟩) (fun b _ hl => hb.block b hl) hb.size
theorem stable_pt (B : Nat) (X : O) : Stable (fun z wv => ∃ ov, z = .tuple #[ov, .bool true] ∧ OAt (fun b => B ≤ b ∧ NotO wv b) wv ov X) := fun z w w' ⟨ov, e, h⟩ hb => ⟨ov, e, stable_po B X ov w w' h hb⟩
/-- A box that holds the order. -/
def BoxP (B B2 : Nat) (X : O) (z : Value) (wv : World) : Prop := ∃ b row, z = .pointer (some ⟨b, 0, none⟩) ∧ B2 ≤ b ∧ wv.heap[b]? = some (.cells row 25 (0, 0)) ∧ OAt (fun k => B ≤ k ∧ NotO wv k) wv (.agg row) X
theorem stable_box (B B2 : Nat) (X : O) : Stable (BoxP B B2 X) := fun z w w' ⟨b, row, e, h0, h1, h2⟩ hb => ⟨b, row, e, h0, (hb.block b (Array.getElem?_eq_some_iff.1 h1).1).trans h1, stable_po B X _ w w' h2 hb⟩
theorem ints_keep {w w' : World} {v : Value} {l : List Int} (h : IntsAt w v l) (hk : ∀ ao n c b o, v = .slice ao n c → ao = some ⟨b, o, none⟩ → b < w.heap.size → w'.heap[b]? = w.heap[b]?) (hs : w.heap.size ≤ w'.heap.size) : IntsAt w' v l := by
  obtain ⟨q1, q2, e, h1, h2⟩ := h
  refine ⟨q1, q2, e, h1, fun h => ?_⟩
  obtain ⟨b, o, e1, e2, e3⟩ := h2 h
  have hb := hk q1 _ _ b o e e1 e2
  refine ⟨b, o, e1, Nat.lt_of_lt_of_le e2 hs, fun j hj => ?_⟩
  rw [World.cell?_of_block (a := ⟨b, o + j, none⟩) hb]
  exact e3 j hj
/-- The boxes of Make. -/
structure MK (w : World) (n : Int) (la : Option Addr) (ne lc : Nat) (x : RawR) (ta : Option Addr) (nt tc : Nat) (W : World) : Prop where
  l : ∀ (j : Nat) (v : Value), (#[.int .i64 n, .slice la ne lc] : Array Value)[j]? = some v → HoldsA W w.heap.size j v
  r : ∀ (j : Nat) (v : Value), (#[.int .i64 x.h, .int .i64 x.o, .int .i64 x.u, .int .i64 x.q, .int .i64 x.f, .int .i64 x.r, .slice ta nt tc] : Array Value)[j]? = some v → HoldsA W (w.heap.size + 1) j v
  res : ∀ (j : Nat) (v : Value), (#[.int .i64 0, .string ⟨#[]⟩, .int .i64 0, .int .i64 0, .slice none 0 0, .slice none 0 0] : Array Value)[j]? = some v → HoldsA W (w.heap.size + 1 + 1) j v
  bel : Below w.heap.size w W
theorem MK.grow {w : World} {n : Int} {la : Option Addr} {ne lc : Nat} {x : RawR} {ta : Option Addr} {nt tc : Nat} {W W' : World} (h : MK w n la ne lc x ta nt tc W) (hb : Below W.heap.size W W') : MK w n la ne lc x ta nt tc W' :=
  ⟨fun j v e => (h.l j v e).grow hb, fun j v e => (h.r j v e).grow hb, fun j v e => (h.res j v e).grow hb, h.bel.trans (hb.mono h.bel.size)⟩
theorem MK.new (w : World) (n : Int) (la : Option Addr) (ne lc : Nat) (x : RawR) (ta : Option Addr) (nt tc : Nat) :
    ∃ w0, ((w.alloc (.cells #[.int .i64 n, .slice la ne lc] 32)).alloc (.cells #[.int .i64 x.h, .int .i64 x.o, .int .i64 x.u, .int .i64 x.q, .int .i64 x.f, .int .i64 x.r, .slice ta nt tc] 44)).alloc (.cells #[.int .i64 0, .string ⟨#[]⟩, .int .i64 0, .int .i64 0, .slice none 0 0, .slice none 0 0] 25) = w0 ∧ MK w n la ne lc x ta nt tc w0 ∧ w0.heap.size = w.heap.size + 3 := by
  obtain ⟨w2, hw2⟩ : ∃ w2, (w.alloc (.cells #[.int .i64 n, .slice la ne lc] 32)).alloc (.cells #[.int .i64 x.h, .int .i64 x.o, .int .i64 x.u, .int .i64 x.q, .int .i64 x.f, .int .i64 x.r, .slice ta nt tc] 44) = w2 := ⟨_, rfl⟩
  obtain ⟨b2, s2, k1, k2⟩ := two_cells w _ _ _ _ hw2
  have b3 : Below w2.heap.size w2 (w2.alloc (.cells #[.int .i64 0, .string ⟨#[]⟩, .int .i64 0, .int .i64 0, .slice none 0 0, .slice none 0 0] 25)) := (Below.refl _ _).alloc (Nat.le_refl _) _
  refine ⟨_, rfl, ?_, ?_⟩
  · rw [hw2]
    refine ⟨fun j v e => (k1 j v e).grow b3, fun j v e => (k2 j v e).grow b3, fun j v e => ?_, b2.trans (b3.mono b2.size)⟩
    have := HoldsA.new w2 _ 25 j v e
    rwa [show w2.heap.size = w.heap.size + 1 + 1 by omega] at this
  · rw [hw2]; simp; omega
set_option maxHeartbeats 4000000 in
set_option maxRecDepth 100000 in
theorem make13_any {n : Int} {es : List Ed} {x : RawR} {w : World} (lv rv : Value) (hl : EdgesAt w lv es) (hr : RightL n es) (hx : RawAt w rv x) :
    Calls Try.prog 18 #[.agg #[.int .i64 n, lv], rv] w (RetMake n es x w) := by
  have mixed : Try.prog.follows .mixedOrders = true := by kernel_rfl
  obtain ⟨Q, HQ⟩ : ∃ Q, Hid (RetMake n es x w = Q) := ⟨_, rfl⟩
  rw [HQ.out]
  have HE := Lib.hid hl
  have HR := Lib.hid hr
  obtain ⟨la, lc, rfl, -, -⟩ := hl
  obtain ⟨⟨tv, rfl, ht⟩, b1, b2, b3, b4, b5, b6, b7⟩ := hx
  have HT := Lib.hid ht
  obtain ⟨ta, tc, rfl, -, -⟩ := ht
  obtain ⟨xh, xo, xu, xq, xf, xr, ts⟩ := x
  simp only at *
  obtain ⟨w0, hw0, hm, hs0⟩ := MK.new w n la es.length lc ⟨xh, xo, xu, xq, xf, xr, ts⟩ ta ts.length tc
  have HW0 := Lib.hid hw0
  have HM := Lib.hid hm
  have HS0 := Lib.hid hs0
  have y0 := (hm.l 0 _ rfl).1
  have y1 := (hm.l 1 _ rfl).1
  have y2 := (hm.r 4 _ rfl).1
  have y3 := (hm.r 6 _ rfl).1
  have CP := Lib.hid (path13_any (n := n) (es := es) (w := w0) _ (HE.out.below hm.bel (Nat.le_refl _)) hr xf b5 _ ts (HT.out.below hm.bel (Nat.le_refl _)) b7)
  clear hw0 hm hs0
  go_enter Try.func18, Try.ntmps18
  go_upto_region 1 with fail
  have HWX := HW0.out
  simp only at HWX
  rw [HWX]
  clear HWX
  go_upto_region 2 with (go_at_call 36; (with_reducible refine (CP.out).mono ?_); rintro e1 w4 ⟨p, ao, ac, rfl, hlp, hp41, hpc, hpi, hpn, hb1⟩; have HPN : Hid (∀ b o, ao = some ⟨b, o, none⟩ → b ≠ w.heap.size + 1 + 1) := fun b o e => (by have := hpn b o e; have := HS0.out; omega); have HM4 := Lib.hid (HM.out.grow hb1); have HPI := Lib.hid hpi; have HLP := Lib.hid hlp; have HPC := Lib.hid hpc; have HB4 := Lib.hid hb1; clear hpi hlp hpc hpn hb1 y0 y1 y2 y3)
  have hodd := HLP.out.odd
  obtain ⟨N, HN⟩ : ∃ N, Hid (p.length = N) := ⟨_, rfl⟩
  rw [HN.out] at hp41 hodd HPI HPC
  rw [HN.out]
  have hw1 : IntKind.i64.wrap ((N : Int) + 1) = (N : Int) + 1 := IntWalk.i64_in _ (by omega)
  obtain ⟨m, hm⟩ : ∃ m : Nat, (N + 1) / 2 = m := ⟨_, rfl⟩
  have hdiv : Int.tdiv ((N : Int) + 1) 2 = (m : Int) := by rw [show (N : Int) + 1 = ((N + 1 : Nat) : Int) by omega, td2, hm]
  have hwm : IntKind.i64.wrap (m : Int) = (m : Int) := IntWalk.i64_in _ (by omega)
  have HMM := Lib.hid hm
  clear hm
  go_upto_region 3 with fail
  rename_i KK AA
  obtain ⟨a0, HA0⟩ : ∃ a0, Hid (pickS xh 50 = a0) := ⟨_, rfl⟩
  obtain ⟨a2, HA2⟩ : ∃ a2, Hid (pickS xo 3 = a2) := ⟨_, rfl⟩
  obtain ⟨a3, HA3⟩ : ∃ a3, Hid (pickS xu 4 = a3) := ⟨_, rfl⟩
  obtain ⟨sq0, HSQ⟩ : ∃ sq0, Hid (pickS xq 20 = sq0) := ⟨_, rfl⟩
  obtain ⟨rr, HRR⟩ : ∃ rr, Hid (pickS xr (m : Int) = rr) := ⟨_, rfl⟩
  have hm1 : 1 ≤ m := by have := HMM.out; omega
  have hm2 : m ≤ 21 := by have := HMM.out; omega
  have P0 := Lib.hid (fun w' => pick13_any xh 50 w' b1.1 b1.2 (by omega) (by omega))
  have P2 := Lib.hid (fun w' => pick13_any xo 3 w' b2.1 b2.2 (by omega) (by omega))
  have P3 := Lib.hid (fun w' => pick13_any xu 4 w' b3.1 b3.2 (by omega) (by omega))
  have PQ := Lib.hid (fun w' => pick13_any xq 20 w' b4.1 b4.2 (by omega) (by omega))
  have PR := Lib.hid (fun w' => pick13_any xr (m : Int) w' b6.1 b6.2 (by omega) (by omega))
  have k1 := pickS_nonneg (c := xh) (n := 50) (by omega)
  have k2 := pickS_lt (c := xh) (n := 50) (by omega)
  have k3 := pickS_nonneg (c := xo) (n := 3) (by omega)
  have k4 := pickS_lt (c := xo) (n := 3) (by omega)
  have k5 := pickS_nonneg (c := xu) (n := 4) (by omega)
  have k6 := pickS_lt (c := xu) (n := 4) (by omega)
  have k7 := pickS_nonneg (c := xq) (n := 20) (by omega)
  have k8 := pickS_lt (c := xq) (n := 20) (by omega)
  have k9 := pickS_nonneg (c := xr) (n := (m : Int)) (by omega)
  have k10 := pickS_lt (c := xr) (n := (m : Int)) (by omega)
  have HMO := Lib.hid (made_order (x := ⟨xh, xo, xu, xq, xf, xr, ts⟩) HLP.out HR.out)
  simp only at HMO
  rw [HN.out, HMM.out, HA0.out, HA2.out, HA3.out, HSQ.out, HRR.out] at HMO
  rw [HA0.out] at P0 k1 k2
  rw [HA2.out] at P2 k3 k4
  rw [HA3.out] at P3 k5 k6
  rw [HSQ.out] at PQ k7 k8
  rw [HRR.out] at PR k9 k10
  obtain ⟨X, HX⟩ : ∃ X, Hid (madeO ⟨xh, xo, xu, xq, xf, xr, ts⟩ p = X) := ⟨_, rfl⟩
  rw [HX.out] at HMO
  obtain ⟨qq, hqq⟩ : ∃ qq, 2 * sq0 = qq := ⟨_, rfl⟩
  obtain ⟨r1, hr1⟩ : ∃ r1, 1 + rr = r1 := ⟨_, rfl⟩
  have hwq : IntKind.i64.wrap (2 * sq0) = qq := by rw [← hqq]; exact IntWalk.i64_in _ (by omega)
  have hwr : IntKind.i64.wrap (1 + rr) = r1 := by rw [← hr1]; exact IntWalk.i64_in _ (by omega)
  rw [hqq, hr1] at HMO
  have CD := Lib.hid (fun w' (hb : Below w4.heap.size w4 w') => dorder_any (S := NotO w') (y := ⟨a0, [118], a2, a3, [], []⟩) (p := p) (w := w') (.agg #[.int .i64 a0, .string ⟨#[118]⟩, .int .i64 a2, .int .i64 a3, .slice none 0 0, .slice none 0 0]) (.slice ao N ac) ⟨_, _, rfl, ⟨by simp only; omega, by simp only; omega⟩, by simp, ⟨by simp only; omega, by simp only; omega⟩, ⟨by simp only; omega, by simp only; omega⟩, sts_nil, sts_nil⟩ (HPI.out.below hb (Nat.le_refl _)) (HLP.out.pI HR.out) qq r1 ⟨by omega, by omega⟩ ⟨by omega, by omega⟩)
  simp only at CD
  rw [HMO.out] at CD
  clear k1 k2 k3 k4 k5 k6 k7 k8 k9 k10 hqq hr1 b1 b2 b3 b4 b5 b6 b7 hodd hdiv hwm hw1 HE HT CP
  refine wp_region_store mixed (fun zs => { tmps := List.toArray (Value.agg #[Value.int .i64 n, Value.slice la es.length lc] :: Value.agg #[Value.int .i64 xh, Value.int .i64 xo, Value.int .i64 xu, Value.int .i64 xq, Value.int .i64 xf, Value.int .i64 xr, Value.slice ta ts.length tc] :: Value.pointer (some ⟨w.heap.size, 0, none⟩) :: Value.pointer (some ⟨w.heap.size + 1, 0, none⟩) :: Value.pointer (some ⟨w.heap.size + 1 + 1, 0, none⟩) :: Value.slice none 0 0 :: Value.slice ao N ac :: Value.int .i64 ((m : Int)) :: zs.getD 24 undef :: undef :: Value.agg #[Value.int .i64 n, Value.slice la es.length lc] :: Value.pointer (some ⟨w.heap.size + 1, 4, none⟩) :: Value.int .i64 (xf) :: Value.pointer (some ⟨w.heap.size + 1, 6, none⟩) :: Value.slice ta ts.length tc :: Value.slice ao N ac :: Value.slice ao N ac :: Value.int .i64 ((N : Int)) :: Value.int .i64 ((N : Int) + 1) :: Value.int .i64 ((m : Int)) :: zs.getD 21 undef :: zs.getD 0 undef :: zs.getD 1 undef :: zs.getD 2 undef :: zs.getD 3 undef :: zs.getD 4 undef :: zs.getD 5 undef :: zs.getD 6 undef :: zs.getD 7 undef :: zs.getD 8 undef :: zs.getD 9 undef :: zs.getD 10 undef :: zs.getD 11 undef :: zs.getD 12 undef :: zs.getD 13 undef :: zs.getD 14 undef :: zs.getD 15 undef :: zs.getD 16 undef :: zs.getD 17 undef :: zs.getD 18 undef :: zs.getD 19 undef :: zs.getD 20 undef :: zs.getD 22 undef :: zs.getD 23 undef :: undef :: undef :: []), defers := [] }) [(fun z _ => z = Value.pointer (some ⟨w.heap.size + 1, 0, none⟩)), (fun z _ => z = Value.int .i64 (xh)), (fun z _ => z = Value.int .i64 (a0)), (fun z _ => z = Value.pointer (some ⟨w.heap.size + 1, 1, none⟩)), (fun z _ => z = Value.int .i64 (xo)), (fun z _ => z = Value.int .i64 (a2)), (fun z _ => z = Value.pointer (some ⟨w.heap.size + 1, 2, none⟩)), (fun z _ => z = Value.int .i64 (xu)), (fun z _ => z = Value.int .i64 (a3)), (fun z _ => z = Value.agg #[Value.int .i64 a0, Value.string ⟨#[118]⟩, Value.int .i64 a2, Value.int .i64 a3, Value.slice none 0 0, Value.slice none 0 0]), (fun z _ => z = Value.slice ao N ac), (fun z _ => z = Value.pointer (some ⟨w.heap.size + 1, 3, none⟩)), (fun z _ => z = Value.int .i64 (xq)), (fun z _ => z = Value.int .i64 (sq0)), (fun z _ => z = Value.int .i64 (qq)), (fun z _ => z = Value.pointer (some ⟨w.heap.size + 1, 5, none⟩)), (fun z _ => z = Value.int .i64 (xr)), (fun z _ => z = Value.int .i64 ((m : Int))), (fun z _ => z = Value.int .i64 (rr)), (fun z _ => z = Value.int .i64 (r1)), (fun z wv => ∃ ov, z = .tuple #[ov, .bool true] ∧ OAt (fun b => w4.heap.size ≤ b ∧ NotO wv b) wv ov X), (fun z wv => ∃ ov, z = .tuple #[ov, .bool true] ∧ OAt (fun b => w4.heap.size ≤ b ∧ NotO wv b) wv ov X), (fun z wv => OAt (fun b => w4.heap.size ≤ b ∧ NotO wv b) wv z X), (fun z _ => z = Value.bool true), (NewB w4.heap.size 25 #[Value.int .i64 0, Value.string ⟨#[]⟩, Value.int .i64 0, Value.int .i64 0, Value.slice none 0 0, Value.slice none 0 0]), (fun _ _ => True)] [(fun z _ => z = Value.pointer (some ⟨w.heap.size + 1, 0, none⟩)), (fun z _ => z = Value.int .i64 (xh)), (fun z _ => z = Value.int .i64 (a0)), (fun z _ => z = Value.pointer (some ⟨w.heap.size + 1, 1, none⟩)), (fun z _ => z = Value.int .i64 (xo)), (fun z _ => z = Value.int .i64 (a2)), (fun z _ => z = Value.pointer (some ⟨w.heap.size + 1, 2, none⟩)), (fun z _ => z = Value.int .i64 (xu)), (fun z _ => z = Value.int .i64 (a3)), (fun z _ => z = Value.agg #[Value.int .i64 a0, Value.string ⟨#[118]⟩, Value.int .i64 a2, Value.int .i64 a3, Value.slice none 0 0, Value.slice none 0 0]), (fun z _ => z = Value.slice ao N ac), (fun z _ => z = Value.pointer (some ⟨w.heap.size + 1, 3, none⟩)), (fun z _ => z = Value.int .i64 (xq)), (fun z _ => z = Value.int .i64 (sq0)), (fun z _ => z = Value.int .i64 (qq)), (fun z _ => z = Value.pointer (some ⟨w.heap.size + 1, 5, none⟩)), (fun z _ => z = Value.int .i64 (xr)), (fun z _ => z = Value.int .i64 ((m : Int))), (fun z _ => z = Value.int .i64 (rr)), (fun z _ => z = Value.int .i64 (r1)), (fun z wv => ∃ ov, z = .tuple #[ov, .bool true] ∧ OAt (fun b => w4.heap.size ≤ b ∧ NotO wv b) wv ov X), (fun z wv => ∃ ov, z = .tuple #[ov, .bool true] ∧ OAt (fun b => w4.heap.size ≤ b ∧ NotO wv b) wv ov X), (fun z wv => OAt (fun b => w4.heap.size ≤ b ∧ NotO wv b) wv z X), (fun z _ => z = Value.bool true), (BoxP w4.heap.size w4.heap.size X), (fun _ _ => True)] [undef, undef, undef, undef, undef, undef, undef, undef, undef, undef, undef, undef, undef, undef, undef, undef, undef, undef, undef, undef, undef, undef, undef, undef, undef, undef] 25 [23] [24] rfl rfl rfl rfl (fun zs v => by simp [List.getD_eq_getElem?_getD, List.getElem?_set]) ?_ ?_ (fun p h z w => by cases (show some (fun _ _ => True) = some p from h); trivial) (by kernel_rfl) (show 25 < 26 by decide) ?_ ?_ (by kernel_rfl) (by kernel_rfl) ?_ ?_ ?_ ?_
  · intro p hp
    simp only [List.mem_cons, List.not_mem_nil, or_false] at hp
    rcases hp with rfl | rfl | rfl | rfl | rfl | rfl | rfl | rfl | rfl | rfl | rfl | rfl | rfl | rfl | rfl | rfl | rfl | rfl | rfl | rfl | rfl | rfl | rfl | rfl | rfl | rfl
    all_goals first | exact stable_eq _ | exact stable_true | exact NewB.stable _ _ _ | exact stable_po _ _ | exact stable_pt _ _ | exact stable_box _ _ _
  · intro p hp
    simp only [List.mem_cons, List.not_mem_nil, or_false] at hp
    rcases hp with rfl | rfl | rfl | rfl | rfl | rfl | rfl | rfl | rfl | rfl | rfl | rfl | rfl | rfl | rfl | rfl | rfl | rfl | rfl | rfl | rfl | rfl | rfl | rfl | rfl | rfl
    all_goals first | exact stable_eq _ | exact stable_true | exact NewB.stable _ _ _ | exact stable_po _ _ | exact stable_pt _ _ | exact stable_box _ _ _
  · intro i hi
    simp only [List.mem_cons, List.not_mem_nil, or_false] at hi
    rcases hi with rfl
    all_goals exact ⟨by show _ < 26; omega, by decide, by decide⟩
  · intro i hi p hp z wz hz
    simp only [List.mem_cons, List.not_mem_nil, or_false] at hi
    rcases hi with rfl
    · cases (show some (NewB w4.heap.size 25 #[Value.int .i64 0, Value.string ⟨#[]⟩, Value.int .i64 0, Value.int .i64 0, Value.slice none 0 0, Value.slice none 0 0]) = some p from hp); exact NewB.lt hz
  · intro i hi hiS zs l wz o hz hF ho hpre
    have hi' : i < 26 ∧ i ≠ 25 := ⟨hi, hiS⟩
    clear hi hiS
    clear AA
    have HBZ := Lib.hid hF.bel
    have HZ := Lib.hid (HM4.out.grow hF.bel)
    have HWZ : Hid (w4.heap.size ≤ wz.heap.size) := HBZ.out.size
    have x0 := (HZ.out.r 0 _ rfl).1
    have x1 := (HZ.out.r 1 _ rfl).1
    have x2 := (HZ.out.r 2 _ rfl).1
    have x3 := (HZ.out.r 3 _ rfl).1
    have x5 := (HZ.out.r 5 _ rfl).1
    match zs, (show zs.length = 26 from hz) with
    | z0 :: z1 :: z2 :: z3 :: z4 :: z5 :: z6 :: z7 :: z8 :: z9 :: z10 :: z11 :: z12 :: z13 :: z14 :: z15 :: z16 :: z17 :: z18 :: z19 :: z20 :: z21 :: z22 :: z23 :: z24 :: z25 :: [], _ =>
      clear hz
      change wpOp _ _ _ _ _ { tmps := List.toArray (Value.agg #[Value.int .i64 n, Value.slice la es.length lc] :: Value.agg #[Value.int .i64 xh, Value.int .i64 xo, Value.int .i64 xu, Value.int .i64 xq, Value.int .i64 xf, Value.int .i64 xr, Value.slice ta ts.length tc] :: Value.pointer (some ⟨w.heap.size, 0, none⟩) :: Value.pointer (some ⟨w.heap.size + 1, 0, none⟩) :: Value.pointer (some ⟨w.heap.size + 1 + 1, 0, none⟩) :: Value.slice none 0 0 :: Value.slice ao N ac :: Value.int .i64 ((m : Int)) :: z24 :: undef :: Value.agg #[Value.int .i64 n, Value.slice la es.length lc] :: Value.pointer (some ⟨w.heap.size + 1, 4, none⟩) :: Value.int .i64 (xf) :: Value.pointer (some ⟨w.heap.size + 1, 6, none⟩) :: Value.slice ta ts.length tc :: Value.slice ao N ac :: Value.slice ao N ac :: Value.int .i64 ((N : Int)) :: Value.int .i64 ((N : Int) + 1) :: Value.int .i64 ((m : Int)) :: z21 :: z0 :: z1 :: z2 :: z3 :: z4 :: z5 :: z6 :: z7 :: z8 :: z9 :: z10 :: z11 :: z12 :: z13 :: z14 :: z15 :: z16 :: z17 :: z18 :: z19 :: z20 :: z22 :: z23 :: undef :: undef :: []), defers := [] } _
      have hc : i = 0 ∨ i = 1 ∨ i = 2 ∨ i = 3 ∨ i = 4 ∨ i = 5 ∨ i = 6 ∨ i = 7 ∨ i = 8 ∨ i = 9 ∨ i = 10 ∨ i = 11 ∨ i = 12 ∨ i = 13 ∨ i = 14 ∨ i = 15 ∨ i = 16 ∨ i = 17 ∨ i = 18 ∨ i = 19 ∨ i = 20 ∨ i = 21 ∨ i = 22 ∨ i = 23 ∨ i = 24 := by omega
      clear hi'
      rcases hc with rfl | rfl | rfl | rfl | rfl | rfl | rfl | rfl | rfl | rfl | rfl | rfl | rfl | rfl | rfl | rfl | rfl | rfl | rfl | rfl | rfl | rfl | rfl | rfl | rfl
      · clear ho hpre
        refine wpOp_here rfl (fun K' hK => ?_)
        go_simp
        exact hK _ _ ⟨_, rfl, Below.refl _ _, fun p hp => by cases (show some (fun z _ => z = Value.pointer (some ⟨w.heap.size + 1, 0, none⟩)) = some p from hp); exact rfl, fun h => absurd h (by decide)⟩
      · have p0 := hF.fact 0 _ _ rfl rfl (hpre ⟨0, .data⟩ (by cases ho; simp) rfl)
        subst p0
        clear ho hpre
        refine wpOp_here rfl (fun K' hK => ?_)
        go_simp
        exact hK _ _ ⟨_, rfl, Below.refl _ _, fun p hp => by cases (show some (fun z _ => z = Value.int .i64 (xh)) = some p from hp); exact rfl, fun h => absurd h (by decide)⟩
      · have p1 := hF.fact 1 _ _ rfl rfl (hpre ⟨1, .data⟩ (by cases ho; simp) rfl)
        subst p1
        clear ho hpre
        refine wpOp_here rfl (fun K' hK => ?_)
        go_simp
        refine (P0.out _).mono ?_
        rintro e7 w7 ⟨rfl, rfl⟩
        exact hK _ _ ⟨_, rfl, Below.refl _ _, fun p hp => by cases (show some (fun z _ => z = Value.int .i64 (a0)) = some p from hp); exact rfl, fun h => absurd h (by decide)⟩
      · clear ho hpre
        refine wpOp_here rfl (fun K' hK => ?_)
        go_simp
        exact hK _ _ ⟨_, rfl, Below.refl _ _, fun p hp => by cases (show some (fun z _ => z = Value.pointer (some ⟨w.heap.size + 1, 1, none⟩)) = some p from hp); exact rfl, fun h => absurd h (by decide)⟩
      · have p3 := hF.fact 3 _ _ rfl rfl (hpre ⟨3, .data⟩ (by cases ho; simp) rfl)
        subst p3
        clear ho hpre
        refine wpOp_here rfl (fun K' hK => ?_)
        go_simp
        exact hK _ _ ⟨_, rfl, Below.refl _ _, fun p hp => by cases (show some (fun z _ => z = Value.int .i64 (xo)) = some p from hp); exact rfl, fun h => absurd h (by decide)⟩
      · have p4 := hF.fact 4 _ _ rfl rfl (hpre ⟨4, .data⟩ (by cases ho; simp) rfl)
        subst p4
        clear ho hpre
        refine wpOp_here rfl (fun K' hK => ?_)
        go_simp
        refine (P2.out _).mono ?_
        rintro e7 w7 ⟨rfl, rfl⟩
        exact hK _ _ ⟨_, rfl, Below.refl _ _, fun p hp => by cases (show some (fun z _ => z = Value.int .i64 (a2)) = some p from hp); exact rfl, fun h => absurd h (by decide)⟩
      · clear ho hpre
        refine wpOp_here rfl (fun K' hK => ?_)
        go_simp
        exact hK _ _ ⟨_, rfl, Below.refl _ _, fun p hp => by cases (show some (fun z _ => z = Value.pointer (some ⟨w.heap.size + 1, 2, none⟩)) = some p from hp); exact rfl, fun h => absurd h (by decide)⟩
      · have p6 := hF.fact 6 _ _ rfl rfl (hpre ⟨6, .data⟩ (by cases ho; simp) rfl)
        subst p6
        clear ho hpre
        refine wpOp_here rfl (fun K' hK => ?_)
        go_simp
        exact hK _ _ ⟨_, rfl, Below.refl _ _, fun p hp => by cases (show some (fun z _ => z = Value.int .i64 (xu)) = some p from hp); exact rfl, fun h => absurd h (by decide)⟩
      · have p7 := hF.fact 7 _ _ rfl rfl (hpre ⟨7, .data⟩ (by cases ho; simp) rfl)
        subst p7
        clear ho hpre
        refine wpOp_here rfl (fun K' hK => ?_)
        go_simp
        refine (P3.out _).mono ?_
        rintro e7 w7 ⟨rfl, rfl⟩
        exact hK _ _ ⟨_, rfl, Below.refl _ _, fun p hp => by cases (show some (fun z _ => z = Value.int .i64 (a3)) = some p from hp); exact rfl, fun h => absurd h (by decide)⟩
      · have p2 := hF.fact 2 _ _ rfl rfl (hpre ⟨2, .data⟩ (by cases ho; simp) rfl)
        subst p2
        have p5 := hF.fact 5 _ _ rfl rfl (hpre ⟨5, .data⟩ (by cases ho; simp) rfl)
        subst p5
        have p8 := hF.fact 8 _ _ rfl rfl (hpre ⟨8, .data⟩ (by cases ho; simp) rfl)
        subst p8
        clear ho hpre
        refine wpOp_here rfl (fun K' hK => ?_)
        go_simp
        exact hK _ _ ⟨_, rfl, Below.refl _ _, fun p hp => by cases (show some (fun z _ => z = Value.agg #[Value.int .i64 a0, Value.string ⟨#[118]⟩, Value.int .i64 a2, Value.int .i64 a3, Value.slice none 0 0, Value.slice none 0 0]) = some p from hp); exact rfl, fun h => absurd h (by decide)⟩
      · clear ho hpre
        refine wpOp_here rfl (fun K' hK => ?_)
        go_simp
        exact hK _ _ ⟨_, rfl, Below.refl _ _, fun p hp => by cases (show some (fun z _ => z = Value.slice ao N ac) = some p from hp); exact rfl, fun h => absurd h (by decide)⟩
      · clear ho hpre
        refine wpOp_here rfl (fun K' hK => ?_)
        go_simp
        exact hK _ _ ⟨_, rfl, Below.refl _ _, fun p hp => by cases (show some (fun z _ => z = Value.pointer (some ⟨w.heap.size + 1, 3, none⟩)) = some p from hp); exact rfl, fun h => absurd h (by decide)⟩
      · have p11 := hF.fact 11 _ _ rfl rfl (hpre ⟨11, .data⟩ (by cases ho; simp) rfl)
        subst p11
        clear ho hpre
        refine wpOp_here rfl (fun K' hK => ?_)
        go_simp
        exact hK _ _ ⟨_, rfl, Below.refl _ _, fun p hp => by cases (show some (fun z _ => z = Value.int .i64 (xq)) = some p from hp); exact rfl, fun h => absurd h (by decide)⟩
      · have p12 := hF.fact 12 _ _ rfl rfl (hpre ⟨12, .data⟩ (by cases ho; simp) rfl)
        subst p12
        clear ho hpre
        refine wpOp_here rfl (fun K' hK => ?_)
        go_simp
        refine (PQ.out _).mono ?_
        rintro e7 w7 ⟨rfl, rfl⟩
        exact hK _ _ ⟨_, rfl, Below.refl _ _, fun p hp => by cases (show some (fun z _ => z = Value.int .i64 (sq0)) = some p from hp); exact rfl, fun h => absurd h (by decide)⟩
      · have p13 := hF.fact 13 _ _ rfl rfl (hpre ⟨13, .data⟩ (by cases ho; simp) rfl)
        subst p13
        clear ho hpre
        refine wpOp_here rfl (fun K' hK => ?_)
        go_simp
        exact hK _ _ ⟨_, rfl, Below.refl _ _, fun p hp => by cases (show some (fun z _ => z = Value.int .i64 (qq)) = some p from hp); exact rfl, fun h => absurd h (by decide)⟩
      · clear ho hpre
        refine wpOp_here rfl (fun K' hK => ?_)
        go_simp
        exact hK _ _ ⟨_, rfl, Below.refl _ _, fun p hp => by cases (show some (fun z _ => z = Value.pointer (some ⟨w.heap.size + 1, 5, none⟩)) = some p from hp); exact rfl, fun h => absurd h (by decide)⟩
      · have p15 := hF.fact 15 _ _ rfl rfl (hpre ⟨15, .data⟩ (by cases ho; simp) rfl)
        subst p15
        clear ho hpre
        refine wpOp_here rfl (fun K' hK => ?_)
        go_simp
        exact hK _ _ ⟨_, rfl, Below.refl _ _, fun p hp => by cases (show some (fun z _ => z = Value.int .i64 (xr)) = some p from hp); exact rfl, fun h => absurd h (by decide)⟩
      · clear ho hpre
        refine wpOp_here rfl (fun K' hK => ?_)
        go_simp
        exact hK _ _ ⟨_, rfl, Below.refl _ _, fun p hp => by cases (show some (fun z _ => z = Value.int .i64 ((m : Int))) = some p from hp); exact rfl, fun h => absurd h (by decide)⟩
      · have p16 := hF.fact 16 _ _ rfl rfl (hpre ⟨16, .data⟩ (by cases ho; simp) rfl)
        subst p16
        have p17 := hF.fact 17 _ _ rfl rfl (hpre ⟨17, .data⟩ (by cases ho; simp) rfl)
        subst p17
        clear ho hpre
        refine wpOp_here rfl (fun K' hK => ?_)
        go_simp
        refine (PR.out _).mono ?_
        rintro e7 w7 ⟨rfl, rfl⟩
        exact hK _ _ ⟨_, rfl, Below.refl _ _, fun p hp => by cases (show some (fun z _ => z = Value.int .i64 (rr)) = some p from hp); exact rfl, fun h => absurd h (by decide)⟩
      · have p18 := hF.fact 18 _ _ rfl rfl (hpre ⟨18, .data⟩ (by cases ho; simp) rfl)
        subst p18
        clear ho hpre
        refine wpOp_here rfl (fun K' hK => ?_)
        go_simp
        exact hK _ _ ⟨_, rfl, Below.refl _ _, fun p hp => by cases (show some (fun z _ => z = Value.int .i64 (r1)) = some p from hp); exact rfl, fun h => absurd h (by decide)⟩
      · have p9 := hF.fact 9 _ _ rfl rfl (hpre ⟨9, .data⟩ (by cases ho; simp) rfl)
        subst p9
        have p10 := hF.fact 10 _ _ rfl rfl (hpre ⟨10, .data⟩ (by cases ho; simp) rfl)
        subst p10
        have p14 := hF.fact 14 _ _ rfl rfl (hpre ⟨14, .data⟩ (by cases ho; simp) rfl)
        subst p14
        have p19 := hF.fact 19 _ _ rfl rfl (hpre ⟨19, .data⟩ (by cases ho; simp) rfl)
        subst p19
        clear ho hpre
        refine wpOp_here rfl (fun K' hK => ?_)
        go_simp
        refine (CD.out _ HBZ.out).mono ?_
        rintro e7 w7 ⟨ov, rfl, hov, hb7⟩
        exact hK _ _ ⟨_, rfl, hb7, fun p hp => by cases (show some (fun z wv => ∃ ov, z = .tuple #[ov, .bool true] ∧ OAt (fun b => w4.heap.size ≤ b ∧ NotO wv b) wv ov X) = some p from hp); exact ⟨ov, rfl, hov.keep (fun b hS hl => ⟨Nat.le_trans HWZ.out hS.1, hS.2⟩) (fun _ _ _ => rfl) (Nat.le_refl _)⟩, fun h => absurd h (by decide)⟩
      · have p20 := hF.fact 20 _ _ rfl rfl (hpre ⟨20, .data⟩ (by cases ho; simp) rfl)
        obtain ⟨ov, rfl, hov⟩ := p20
        clear ho hpre
        refine wpOp_here rfl (fun K' hK => ?_)
        go_simp
        exact hK _ _ ⟨_, rfl, Below.refl _ _, fun p hp => by cases (show some (fun z wv => ∃ ov, z = .tuple #[ov, .bool true] ∧ OAt (fun b => w4.heap.size ≤ b ∧ NotO wv b) wv ov X) = some p from hp); exact ⟨ov, rfl, hov⟩, fun h => absurd h (by decide)⟩
      · have p21 := hF.fact 21 _ _ rfl rfl (hpre ⟨21, .data⟩ (by cases ho; simp) rfl)
        obtain ⟨ov, rfl, hov⟩ := p21
        clear ho hpre
        refine wpOp_here rfl (fun K' hK => ?_)
        go_simp
        exact hK _ _ ⟨_, rfl, Below.refl _ _, fun p hp => by cases (show some (fun z wv => OAt (fun b => w4.heap.size ≤ b ∧ NotO wv b) wv z X) = some p from hp); exact hov, fun h => absurd h (by decide)⟩
      · have p21 := hF.fact 21 _ _ rfl rfl (hpre ⟨21, .data⟩ (by cases ho; simp) rfl)
        obtain ⟨ov, rfl, hov⟩ := p21
        clear ho hpre
        refine wpOp_here rfl (fun K' hK => ?_)
        go_simp
        exact hK _ _ ⟨_, rfl, Below.refl _ _, fun p hp => by cases (show some (fun z _ => z = Value.bool true) = some p from hp); exact rfl, fun h => absurd h (by decide)⟩
      · clear ho hpre
        refine wpOp_here rfl (fun K' hK => ?_)
        go_simp
        exact hK _ _ ⟨_, rfl, (Below.refl _ _).alloc (Nat.le_refl _) _, fun p hp => by cases (show some (NewB w4.heap.size 25 #[Value.int .i64 0, Value.string ⟨#[]⟩, Value.int .i64 0, Value.int .i64 0, Value.slice none 0 0, Value.slice none 0 0]) = some p from hp); exact ⟨_, rfl, HBZ.out.size, heap_alloc_new wz _⟩, fun h => ⟨_, rfl, Nat.le_refl _⟩⟩
  · intro i hi hiN zs l wz o hz hF ho hpre
    have hi' : i = 23 := by simpa using hi
    clear hi hiN
    clear AA
    have HBZ := Lib.hid hF.bel
    have HZ := Lib.hid (HM4.out.grow hF.bel)
    have HWZ : Hid (w4.heap.size ≤ wz.heap.size) := HBZ.out.size
    have x0 := (HZ.out.r 0 _ rfl).1
    have x1 := (HZ.out.r 1 _ rfl).1
    have x2 := (HZ.out.r 2 _ rfl).1
    have x3 := (HZ.out.r 3 _ rfl).1
    have x5 := (HZ.out.r 5 _ rfl).1
    match zs, (show zs.length = 26 from hz) with
    | z0 :: z1 :: z2 :: z3 :: z4 :: z5 :: z6 :: z7 :: z8 :: z9 :: z10 :: z11 :: z12 :: z13 :: z14 :: z15 :: z16 :: z17 :: z18 :: z19 :: z20 :: z21 :: z22 :: z23 :: z24 :: z25 :: [], _ =>
      clear hz
      change wpOp _ _ _ _ _ { tmps := List.toArray (Value.agg #[Value.int .i64 n, Value.slice la es.length lc] :: Value.agg #[Value.int .i64 xh, Value.int .i64 xo, Value.int .i64 xu, Value.int .i64 xq, Value.int .i64 xf, Value.int .i64 xr, Value.slice ta ts.length tc] :: Value.pointer (some ⟨w.heap.size, 0, none⟩) :: Value.pointer (some ⟨w.heap.size + 1, 0, none⟩) :: Value.pointer (some ⟨w.heap.size + 1 + 1, 0, none⟩) :: Value.slice none 0 0 :: Value.slice ao N ac :: Value.int .i64 ((m : Int)) :: z24 :: undef :: Value.agg #[Value.int .i64 n, Value.slice la es.length lc] :: Value.pointer (some ⟨w.heap.size + 1, 4, none⟩) :: Value.int .i64 (xf) :: Value.pointer (some ⟨w.heap.size + 1, 6, none⟩) :: Value.slice ta ts.length tc :: Value.slice ao N ac :: Value.slice ao N ac :: Value.int .i64 ((N : Int)) :: Value.int .i64 ((N : Int) + 1) :: Value.int .i64 ((m : Int)) :: z21 :: z0 :: z1 :: z2 :: z3 :: z4 :: z5 :: z6 :: z7 :: z8 :: z9 :: z10 :: z11 :: z12 :: z13 :: z14 :: z15 :: z16 :: z17 :: z18 :: z19 :: z20 :: z22 :: z23 :: undef :: undef :: []), defers := [] } _
      have hc : i = 23 := by omega
      clear hi'
      rcases hc with rfl
      · have p21 := hF.fact 21 _ _ rfl rfl (hpre ⟨21, .data⟩ (by cases ho; simp) rfl)
        obtain ⟨ov, rfl, hov⟩ := p21
        clear ho hpre
        refine wpOp_here rfl (fun K' hK => ?_)
        go_simp
        exact hK _ _ ⟨_, rfl, Below.refl _ _, fun p hp => by cases (show some (fun z _ => z = Value.bool true) = some p from hp); exact rfl⟩
  · intro zs wz hz hbel hev hun
    match zs, (show zs.length = 26 from hz) with
    | z0 :: z1 :: z2 :: z3 :: z4 :: z5 :: z6 :: z7 :: z8 :: z9 :: z10 :: z11 :: z12 :: z13 :: z14 :: z15 :: z16 :: z17 :: z18 :: z19 :: z20 :: z21 :: z22 :: z23 :: z24 :: z25 :: [], _ =>
      have p0 := hev 0 _ _ (by decide) (by decide) rfl rfl
      have p1 := hev 1 _ _ (by decide) (by decide) rfl rfl
      have p2 := hev 2 _ _ (by decide) (by decide) rfl rfl
      have p3 := hev 3 _ _ (by decide) (by decide) rfl rfl
      have p4 := hev 4 _ _ (by decide) (by decide) rfl rfl
      have p5 := hev 5 _ _ (by decide) (by decide) rfl rfl
      have p6 := hev 6 _ _ (by decide) (by decide) rfl rfl
      have p7 := hev 7 _ _ (by decide) (by decide) rfl rfl
      have p8 := hev 8 _ _ (by decide) (by decide) rfl rfl
      have p9 := hev 9 _ _ (by decide) (by decide) rfl rfl
      have p10 := hev 10 _ _ (by decide) (by decide) rfl rfl
      have p11 := hev 11 _ _ (by decide) (by decide) rfl rfl
      have p12 := hev 12 _ _ (by decide) (by decide) rfl rfl
      have p13 := hev 13 _ _ (by decide) (by decide) rfl rfl
      have p14 := hev 14 _ _ (by decide) (by decide) rfl rfl
      have p15 := hev 15 _ _ (by decide) (by decide) rfl rfl
      have p16 := hev 16 _ _ (by decide) (by decide) rfl rfl
      have p17 := hev 17 _ _ (by decide) (by decide) rfl rfl
      have p18 := hev 18 _ _ (by decide) (by decide) rfl rfl
      have p19 := hev 19 _ _ (by decide) (by decide) rfl rfl
      have p20 := hev 20 _ _ (by decide) (by decide) rfl rfl
      have p21 := hev 21 _ _ (by decide) (by decide) rfl rfl
      have p22 := hev 22 _ _ (by decide) (by decide) rfl rfl
      have p24 := hev 24 _ _ (by decide) (by decide) rfl rfl
      subst p0 p1 p2 p3 p4 p5 p6 p7 p8 p9 p10 p11 p12 p13 p14 p15 p16 p17 p18 p19
      clear hz hev
      obtain ⟨b1, rfl, q1, q2⟩ := p24
      have hov := Lib.hid p22
      obtain ⟨an, cn, ae, ce, rfl, -⟩ := p22.open_
      refine wpOp_here rfl (fun K' hK => ?_)
      rw [if_pos (by rfl)]
      refine wp_store_row 25 _ _ rfl b1 (#[Value.int .i64 X.h, Value.string ⟨X.v.toArray⟩, Value.int .i64 X.o, Value.int .i64 X.u, Value.slice an X.ns.length cn, Value.slice ae X.es.length ce]) rfl rfl 25 _ q2 (by kernel_rfl) (by simp) (by simp [Value.oneCell']) ?_
      have hkp : ∀ b, NotO wz b → (wz.setRow b1 (#[Value.int .i64 X.h, Value.string ⟨X.v.toArray⟩, Value.int .i64 X.o, Value.int .i64 X.u, Value.slice an X.ns.length cn, Value.slice ae X.es.length ce])).heap[b]? = wz.heap[b]? := fun b hn => setRow_other wz b1 b _ (fun e => by subst e; exact hn _ _ q2)
      have hsz : wz.heap.size ≤ (wz.setRow b1 (#[Value.int .i64 X.h, Value.string ⟨X.v.toArray⟩, Value.int .i64 X.o, Value.int .i64 X.u, Value.slice an X.ns.length cn, Value.slice ae X.es.length ce])).heap.size := (Below.setRow (Below.refl 0 wz) (Nat.zero_le b1) _).size
      have hso : ∀ v, OAt (fun b => w4.heap.size ≤ b ∧ NotO wz b) wz v X → OAt (fun b => w4.heap.size ≤ b ∧ NotO (wz.setRow b1 (#[Value.int .i64 X.h, Value.string ⟨X.v.toArray⟩, Value.int .i64 X.o, Value.int .i64 X.u, Value.slice an X.ns.length cn, Value.slice ae X.es.length ce])) b) (wz.setRow b1 (#[Value.int .i64 X.h, Value.string ⟨X.v.toArray⟩, Value.int .i64 X.o, Value.int .i64 X.u, Value.slice an X.ns.length cn, Value.slice ae X.es.length ce])) v X := fun v h => h.keep (fun b hS _ => ⟨hS.1, hS.2.keep (hkp b hS.2)⟩) (fun b hS _ => hkp b hS.2) hsz
      refine hK _ _ ⟨rfl, Below.setRow hbel q1 _, ?_⟩
      intro j p p2 z hj hp hp2 hz hpz
      have hjl : j < 26 := (List.getElem?_eq_some_iff.1 hp).1
      have hc : j = 0 ∨ j = 1 ∨ j = 2 ∨ j = 3 ∨ j = 4 ∨ j = 5 ∨ j = 6 ∨ j = 7 ∨ j = 8 ∨ j = 9 ∨ j = 10 ∨ j = 11 ∨ j = 12 ∨ j = 13 ∨ j = 14 ∨ j = 15 ∨ j = 16 ∨ j = 17 ∨ j = 18 ∨ j = 19 ∨ j = 20 ∨ j = 21 ∨ j = 22 ∨ j = 23 ∨ j = 24 ∨ j = 25 := by omega
      rcases hc with rfl | rfl | rfl | rfl | rfl | rfl | rfl | rfl | rfl | rfl | rfl | rfl | rfl | rfl | rfl | rfl | rfl | rfl | rfl | rfl | rfl | rfl | rfl | rfl | rfl | rfl
      · cases hp; cases hp2; cases hz; exact hpz
      · cases hp; cases hp2; cases hz; exact hpz
      · cases hp; cases hp2; cases hz; exact hpz
      · cases hp; cases hp2; cases hz; exact hpz
      · cases hp; cases hp2; cases hz; exact hpz
      · cases hp; cases hp2; cases hz; exact hpz
      · cases hp; cases hp2; cases hz; exact hpz
      · cases hp; cases hp2; cases hz; exact hpz
      · cases hp; cases hp2; cases hz; exact hpz
      · cases hp; cases hp2; cases hz; exact hpz
      · cases hp; cases hp2; cases hz; exact hpz
      · cases hp; cases hp2; cases hz; exact hpz
      · cases hp; cases hp2; cases hz; exact hpz
      · cases hp; cases hp2; cases hz; exact hpz
      · cases hp; cases hp2; cases hz; exact hpz
      · cases hp; cases hp2; cases hz; exact hpz
      · cases hp; cases hp2; cases hz; exact hpz
      · cases hp; cases hp2; cases hz; exact hpz
      · cases hp; cases hp2; cases hz; exact hpz
      · cases hp; cases hp2; cases hz; exact hpz
      · cases hp; cases hp2; cases hz; obtain ⟨ov, e, h⟩ := hpz; exact ⟨ov, e, hso _ h⟩
      · cases hp; cases hp2; cases hz; obtain ⟨ov, e, h⟩ := hpz; exact ⟨ov, e, hso _ h⟩
      · cases hp; cases hp2; cases hz; exact hso _ hpz
      · cases hp; cases hp2; cases hz; exact hpz
      · cases hp; cases hp2; cases hz; exact ⟨b1, _, rfl, q1, setRow_heap wz b1 _ _ _ _ q2, hso _ hov.out⟩
      · exact absurd rfl hj
  · intro zs wz hz hbel hev
    match zs, (show zs.length = 26 from hz) with
    | z0 :: z1 :: z2 :: z3 :: z4 :: z5 :: z6 :: z7 :: z8 :: z9 :: z10 :: z11 :: z12 :: z13 :: z14 :: z15 :: z16 :: z17 :: z18 :: z19 :: z20 :: z21 :: z22 :: z23 :: z24 :: z25 :: [], _ =>
      have p0 := hev 0 _ _ (by decide) rfl rfl
      have p1 := hev 1 _ _ (by decide) rfl rfl
      have p2 := hev 2 _ _ (by decide) rfl rfl
      have p3 := hev 3 _ _ (by decide) rfl rfl
      have p4 := hev 4 _ _ (by decide) rfl rfl
      have p5 := hev 5 _ _ (by decide) rfl rfl
      have p6 := hev 6 _ _ (by decide) rfl rfl
      have p7 := hev 7 _ _ (by decide) rfl rfl
      have p8 := hev 8 _ _ (by decide) rfl rfl
      have p9 := hev 9 _ _ (by decide) rfl rfl
      have p10 := hev 10 _ _ (by decide) rfl rfl
      have p11 := hev 11 _ _ (by decide) rfl rfl
      have p12 := hev 12 _ _ (by decide) rfl rfl
      have p13 := hev 13 _ _ (by decide) rfl rfl
      have p14 := hev 14 _ _ (by decide) rfl rfl
      have p15 := hev 15 _ _ (by decide) rfl rfl
      have p16 := hev 16 _ _ (by decide) rfl rfl
      have p17 := hev 17 _ _ (by decide) rfl rfl
      have p18 := hev 18 _ _ (by decide) rfl rfl
      have p19 := hev 19 _ _ (by decide) rfl rfl
      have p20 := hev 20 _ _ (by decide) rfl rfl
      have p21 := hev 21 _ _ (by decide) rfl rfl
      have p22 := hev 22 _ _ (by decide) rfl rfl
      have p23 := hev 23 _ _ (by decide) rfl rfl
      have p24 := hev 24 _ _ (by decide) rfl rfl
      subst p0 p1 p2 p3 p4 p5 p6 p7 p8 p9 p10 p11 p12 p13 p14 p15 p16 p17 p18 p19 p23
      clear hz hev
      obtain ⟨b1, row, rfl, q1, q2, q3⟩ := p24
      have HZ := Lib.hid (HM4.out.grow hbel)
      refine wpOp_here rfl (fun K' hK => ?_)
      go_simp
      refine hK _ _ ?_
      clear hK
      refine AA _ _ ?_
      clear AA
      have HOX := Lib.hid q3
      obtain ⟨an, cn, ae, ce, er, -⟩ := q3.open_
      cases er
      obtain ⟨c0, c1, c2, c3, c4, c5⟩ := six_of q2
      obtain ⟨x0, g0⟩ := HZ.out.res 0 _ rfl
      obtain ⟨x1, g1⟩ := HZ.out.res 1 _ rfl
      obtain ⟨x2, g2⟩ := HZ.out.res 2 _ rfl
      obtain ⟨x3, g3⟩ := HZ.out.res 3 _ rfl
      obtain ⟨x4, g4⟩ := HZ.out.res 4 _ rfl
      obtain ⟨x5, g5⟩ := HZ.out.res 5 _ rfl
      clear q2 q3
      go_wp2_with fail
      obtain ⟨z0, z1, z2, z3, z4, z5⟩ := zero_six HZ.out.res (.int .i64 X.h) (.string ⟨X.v.toArray⟩) (.int .i64 X.o) (.int .i64 X.u) (.slice an X.ns.length cn) (.slice ae X.es.length ce)
      have hlx : w.heap.size + 1 + 1 < w4.heap.size := by have := HS0.out; have := HB4.out.size; omega
      have hbl : Below w.heap.size w (set6 wz (w.heap.size + 1 + 1) (.int .i64 X.h) (.string ⟨X.v.toArray⟩) (.int .i64 X.o) (.int .i64 X.u) (.slice an X.ns.length cn) (.slice ae X.es.length ce)) := set6_below HZ.out.bel (by omega) _ _ _ _ _ _
      have hko : ∀ k, w4.heap.size ≤ k → (set6 wz (w.heap.size + 1 + 1) (.int .i64 X.h) (.string ⟨X.v.toArray⟩) (.int .i64 X.o) (.int .i64 X.u) (.slice an X.ns.length cn) (.slice ae X.es.length ce)).heap[k]? = wz.heap[k]? := fun k h1 => set6_block _ (by omega) _ _ _ _ _ _
      have hsz6 := (set6_below (n := 0) (Below.refl 0 wz) (Nat.zero_le (w.heap.size + 1 + 1)) (.int .i64 X.h) (.string ⟨X.v.toArray⟩) (.int .i64 X.o) (.int .i64 X.u) (.slice an X.ns.length cn) (.slice ae X.es.length ce)).size
      have hpi := HPI.out.below hbel (Nat.le_refl _)
      have hpw : IntsAt (set6 wz (w.heap.size + 1 + 1) (.int .i64 X.h) (.string ⟨X.v.toArray⟩) (.int .i64 X.o) (.int .i64 X.u) (.slice an X.ns.length cn) (.slice ae X.es.length ce)) (.slice ao N ac) p := by
        refine ints_keep HPI.out (fun ao' n' c' b o e1 e2 hlt => ?_) (Nat.le_trans hbel.size hsz6)
        have hne : b ≠ w.heap.size + 1 + 1 := HPN.out b o (by cases e1; exact e2)
        exact (set6_block _ hne _ _ _ _ _ _).trans (hbel.block b hlt)
      unfold set6 at z0 z1 z2 z3 z4 z5 hbl hko hsz6 hpw
      generalize (((((wz.setCell ⟨w.heap.size + 1 + 1, 0, none⟩ (.int .i64 X.h)).setCell ⟨w.heap.size + 1 + 1, 1, none⟩ (.string ⟨X.v.toArray⟩)).setCell ⟨w.heap.size + 1 + 1, 2, none⟩ (.int .i64 X.o)).setCell ⟨w.heap.size + 1 + 1, 3, none⟩ (.int .i64 X.u)).setCell ⟨w.heap.size + 1 + 1, 4, none⟩ (.slice an X.ns.length cn)).setCell ⟨w.heap.size + 1 + 1, 5, none⟩ (.slice ae X.es.length ce) = w6 at *
      refine bodyPost_ret (v := .tuple #[.agg #[.int .i64 X.h, .string ⟨X.v.toArray⟩, .int .i64 X.o, .int .i64 X.u, .slice an X.ns.length cn, .slice ae X.es.length ce], .slice ao N ac]) (by simp [results, Try.f18, go_sem, z0, z1, z2, z3, z4, z5]) rfl ?_
      rw [← HQ.out]
      refine ⟨p, _, ao, ac, by rw [HN.out], HLP.out, by rw [HN.out]; exact hp41, by rw [HN.out]; exact HPC.out, by rw [HN.out]; exact hpw, ?_, hbl⟩
      rw [HX.out]
      exact HOX.out.keep (fun b hS hl => ⟨by have := hS.1; omega, hS.2.keep (hko b hS.1)⟩) (fun b hS _ => hko b hS.1) hsz6
end Go.Proofs.Ytnpbkjmlmdpggaa.Wk
