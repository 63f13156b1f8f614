import Derived.Test.YtnpbkjmlmdpggaaWw
/- The law WalkBase. -/
set_option linter.unusedVariables false
set_option linter.unusedSimpArgs false
namespace Go.Proofs.Ytnpbkjmlmdpggaa.Wk
open Go.RowKit Go.Shelf Ly Od

set_option maxHeartbeats 8000000 in
set_option maxRecDepth 100000 in
theorem lbase_walk {w : World} (a : Int) (ha : Ly.i64B a) (rv : Value) (L : List Ed) (hL : EdgesAt w rv L) (hB : RawB L) (xv : Value) (x : RawR) (hx : RawAt w xv x) :
    Calls Try.prog 4 #[.int .i64 a, rv, xv] w (Ret (.bool true) w) := by
  have mixed : Try.prog.follows .mixedOrders = true := by kernel_rfl
  obtain ⟨Q, HQ⟩ : ∃ Q, Hid (Ret (.bool true) w = Q) := ⟨_, rfl⟩
  rw [HQ.out]
  obtain ⟨⟨tv, rfl, ht⟩, b1, b2, b3, b4, b5, b6, b7⟩ := hx
  obtain ⟨ta, tc, rfl⟩ := IntsAt.form ht
  obtain ⟨xh, xo, xu, xq, xf, xr, ts⟩ := x
  simp only at *
  have CF := Lib.hid (fun w' (h : EdgesAt w' rv L) => fit_ex a ha rv L h hB)
  have HL := Lib.hid hL
  have HTS := Lib.hid ht
  have hw1 := fun j v (h : (#[.int .i64 xh, .int .i64 xo, .int .i64 xu, .int .i64 xq, .int .i64 xf, .int .i64 xr, .slice ta ts.length tc] : Array Value)[j]? = some v) => (HoldsA.new w _ 44 j v h).1
  have HB1 : Hid (Below w.heap.size w (w.alloc (.cells #[.int .i64 xh, .int .i64 xo, .int .i64 xu, .int .i64 xq, .int .i64 xf, .int .i64 xr, .slice ta ts.length tc] 44))) := (Below.refl _ _).alloc (Nat.le_refl _) _
  obtain ⟨w1, HW1⟩ : ∃ w1, Hid (w.alloc (.cells #[.int .i64 xh, .int .i64 xo, .int .i64 xu, .int .i64 xq, .int .i64 xf, .int .i64 xr, .slice ta ts.length tc] 44) = w1) := ⟨_, rfl⟩
  rw [HW1.out] at hw1 HB1
  have HR1 := Lib.hid hw1
  clear hw1 ha hL hB ht
  go_enter Try.func4, Try.ntmps4
  go_upto_region 1 with fail
  rw [HW1.out]
  go_upto_region 3 with (first
    | (go_at_call 9; (with_reducible refine (awake13_any _).mono ?_); rintro e1 w2 ⟨rfl, hb⟩; have HB2 := Lib.hid (HB1.out.trans (hb.mono HB1.out.size)); have HR2 := Lib.hid (fun j v h => (hb.cell (cell_lt (HR1.out j v h))).trans (HR1.out j v h)); clear hb)
    | (go_at_call 10; (with_reducible refine (CF.out _ (HL.out.below HB2.out (Nat.le_refl _))).mono ?_); rintro e2 w3 ⟨n, v, es, rfl, hn1, hn8, hr, hes, hed, hb⟩; have HB3 := Lib.hid (HB2.out.trans (hb.mono HB2.out.size)); have HR3 := Lib.hid (fun j v h => (hb.cell (cell_lt (HR2.out j v h))).trans (HR2.out j v h)); obtain ⟨la, lc, rfl⟩ := EdgesAt.form hed; have HE3 := Lib.hid hed; have HRL := Lib.hid hr; clear hb hed hr))
  have hb4 : Below w3.heap.size w3 (w3.alloc (.cells #[.int .i64 n, .slice la es.length lc] 32)) := (Below.refl _ _).alloc (Nat.le_refl _) _
  have hl4 := fun j v (h : (#[.int .i64 n, .slice la es.length lc] : Array Value)[j]? = some v) => (HoldsA.new w3 _ 32 j v h).1
  generalize w3.alloc (.cells #[.int .i64 n, .slice la es.length lc] 32) = w4 at *
  have HB4 := Lib.hid (HB3.out.trans (hb4.mono HB3.out.size))
  have HR4 := Lib.hid (fun j v h => (hb4.cell (cell_lt (HR3.out j v h))).trans (HR3.out j v h))
  have HE4 := Lib.hid (HE3.out.below hb4 (Nat.le_refl _))
  have HL4 := Lib.hid hl4
  obtain ⟨lb, hlb⟩ : ∃ lb, w3.heap.size = lb := ⟨_, rfl⟩
  rw [hlb] at HL4
  rw [hlb]
  have CM := Lib.hid (make13_any (n := n) (es := es) (x := ⟨xh, xo, xu, xq, xf, xr, ts⟩) (w := w4) _ _ HE4.out HRL.out ⟨⟨_, rfl, HTS.out.below HB4.out (Nat.le_refl _)⟩, b1, b2, b3, b4, b5, b6, b7⟩)
  have y0 := HR4.out 0 (.int .i64 xh) rfl
  have y1 := HR4.out 1 (.int .i64 xo) rfl
  have y2 := HR4.out 2 (.int .i64 xu) rfl
  have y3 := HR4.out 3 (.int .i64 xq) rfl
  have y4 := HR4.out 4 (.int .i64 xf) rfl
  have y5 := HR4.out 5 (.int .i64 xr) rfl
  have y6 := HR4.out 6 (.slice ta ts.length tc) rfl
  have l0 := HL4.out 0 (.int .i64 n) rfl
  have l1 := HL4.out 1 (.slice la es.length lc) rfl
  clear hb4 hl4 hlb
  go_upto_region 4 with (go_at_call 18; (with_reducible refine (CM.out).mono ?_); rintro e3 w5 ⟨p, ov, ao, pc, rfl, hlp, hp41, hpc, hpi, hov, hb⟩; obtain ⟨an, cn, ae, ce, rfl, -⟩ := hov.open_; have HX5 := Lib.hid (hov.keep (S' := NotO w5) (fun b h _ => h.2) (fun _ _ _ => rfl) (Nat.le_refl _)); have HP5 := Lib.hid hpi; have HLP := Lib.hid hlp; have HPC := Lib.hid hpc; have HB5 := Lib.hid hb; have HP41 := Lib.hid hp41; clear hb hlp hpc hpi hov hp41 y0 y1 y2 y3 y4 y5 y6 l0 l1)
  obtain ⟨X, HX⟩ : ∃ X, Hid (madeO ⟨xh, xo, xu, xq, xf, xr, ts⟩ p = X) := ⟨_, rfl⟩
  rw [HX.out] at HX5
  rw [HX.out]
  have hb6 : Below w5.heap.size w5 (w5.alloc (.cells #[.int .i64 X.h, .string ⟨X.v.toArray⟩, .int .i64 X.o, .int .i64 X.u, .slice an X.ns.length cn, .slice ae X.es.length ce] 25)) := (Below.refl _ _).alloc (Nat.le_refl _) _
  have hl6 := fun j v (h : (#[.int .i64 X.h, .string ⟨X.v.toArray⟩, .int .i64 X.o, .int .i64 X.u, .slice an X.ns.length cn, .slice ae X.es.length ce] : Array Value)[j]? = some v) => (HoldsA.new w5 _ 25 j v h).1
  generalize w5.alloc (.cells #[.int .i64 X.h, .string ⟨X.v.toArray⟩, .int .i64 X.o, .int .i64 X.u, .slice an X.ns.length cn, .slice ae X.es.length ce] 25) = w6 at *
  have hb56 := (HB5.out.trans (hb6.mono HB5.out.size))
  have HH : Hid (H3 w ⟨xh, xo, xu, xq, xf, xr, ts⟩ ta tc lb n la lc es w5.heap.size X an ae cn ce ao pc p w6) :=
    ⟨fun j v h => (hb56.cell (cell_lt (HR4.out j v h))).trans (HR4.out j v h), fun j v h => (hb56.cell (cell_lt (HL4.out j v h))).trans (HL4.out j v h), HE4.out.below hb56 (Nat.le_refl _), hl6, OAt.grown HX5.out hb6, HP5.out.below hb6 (Nat.le_refl _), HB4.out.trans (hb56.mono HB4.out.size)⟩
  clear hb6 hl6 hb56 HX5 HP5 HB5 CM HR4 HL4 HE4 HB4 HR3 HE3 HB3 HR2 HB2 HR1 HB1 HW1 HTS HL CF
  generalize w5.heap.size = ob at *
  obtain ⟨N, HN⟩ : ∃ N, Hid (p.length = N) := ⟨_, rfl⟩
  rw [HN.out] at HP41 HPC
  rw [HN.out]
  have hodd := HLP.out.odd
  rw [HN.out] at hodd
  have hw1 : IntKind.i64.wrap ((N : Int) + 1) = (N : Int) + 1 := IntWalk.i64_in _ (by have := HP41.out; omega)
  obtain ⟨m, hm⟩ : ∃ m : Nat, (N + 1) / 2 = m := ⟨_, rfl⟩
  have hdiv : Int.tdiv ((N : Int) + 1) 2 = (m : Int) := by rw [show (N : Int) + 1 = ((N + 1 : Nat) : Int) by omega, td2, hm]
  have hm1 : 1 ≤ m := by omega
  have hm2 : m ≤ 21 := by have := HP41.out; omega
  have HMM : Hid ((N + 1) / 2 = m) := hm
  have hwm : IntKind.i64.wrap (m : Int) = (m : Int) := IntWalk.i64_in _ (by omega)
  obtain ⟨hk0, hk1, hk2⟩ := relN_in (x := ⟨xh, xo, xu, xq, xf, xr, ts⟩) (p := p) (by rw [HN.out]; omega)
  obtain ⟨kk, HKK⟩ : ∃ kk, Hid (relN ⟨xh, xo, xu, xq, xf, xr, ts⟩ p = kk) := ⟨_, rfl⟩
  rw [HKK.out] at hk0 hk1 hk2
  rw [HN.out, hm] at hk0 hk2
  simp only at hk0
  obtain ⟨rr, hrr⟩ : ∃ rr, pickS xr (m : Int) = rr := ⟨_, rfl⟩
  have PR := Lib.hid (fun w' => pick13_any xr (m : Int) w' b6.1 b6.2 (by omega) (by omega))
  rw [hrr] at hk0 PR
  clear hrr
  have y5 := HH.out.raw 5 (.int .i64 xr) rfl
  clear hm
  go_upto_region 6 with (go_at_call 19; (with_reducible refine (PR.out _).mono ?_); rintro e1 w9 ⟨rfl, rfl⟩)
  rename_i KK AA
  rw [← hk0]
  obtain ⟨sq0, HSQ⟩ : ∃ sq0, Hid (pickS xq 20 = sq0) := ⟨_, rfl⟩
  have k7 := pickS_nonneg (c := xq) (n := 20) (by omega)
  have k8 := pickS_lt (c := xq) (n := 20) (by omega)
  have PQ := Lib.hid (fun w' => pick13_any xq 20 w' b4.1 b4.2 (by omega) (by omega))
  rw [HSQ.out] at PQ k7 k8
  have hqq : IntKind.i64.wrap (2 * sq0) = 2 * sq0 := IntWalk.i64_in _ (by omega)
  have HMO := Lib.hid (made_order (x := ⟨xh, xo, xu, xq, xf, xr, ts⟩) HLP.out HRL.out)
  have HXH : Hid (X.h = pickS xh 50 ∧ X.v = [118] ∧ X.o = pickS xo 3 ∧ X.u = pickS xu 4) := by show _ ∧ _; rw [← HX.out]; exact ⟨rfl, rfl, rfl, rfl⟩
  have hk0' := (relN_in (x := ⟨xh, xo, xu, xq, xf, xr, ts⟩) (p := p) (by rw [HN.out]; omega)).1
  rw [← hk0', HKK.out] at HMO
  simp only at HMO
  rw [HX.out, HSQ.out, ← HXH.out.1, ← HXH.out.2.1, ← HXH.out.2.2.1, ← HXH.out.2.2.2] at HMO
  have CO := Lib.hid (fun w' (hb : Below w6.heap.size w6 w') => order_any (S := NotO w6) (y := X) (p := p) (w := w') _ _ ((HH.out.ord).below hb (Nat.le_refl _)) (HH.out.pth.below hb (Nat.le_refl _)) ⟨_, _, _, rfl, by rw [HN.out]; exact HPC.out⟩ (HLP.out.pI HRL.out) (2 * sq0) (kk : Int) ⟨by omega, by omega⟩ ⟨by omega, by omega⟩)
  rw [HMO.out, HN.out] at CO
  have HFT := Lib.hid (made_fits (x := ⟨xh, xo, xu, xq, xf, xr, ts⟩) HLP.out HRL.out)
  have HBS := Lib.hid (made_base (x := ⟨xh, xo, xu, xq, xf, xr, ts⟩) HLP.out HRL.out (by rw [HN.out]; exact HP41.out)).1
  rw [HX.out] at HFT HBS
  rw [HKK.out] at HBS
  clear hk0 hk0' k7 k8 b1 b2 b3 b4 b5 b6 b7 HMO PR hdiv hw1 hwm y5
  refine wp_region_store mixed (fun zs => { tmps := List.toArray (Value.int .i64 (a) :: rv :: Value.agg #[Value.int .i64 xh, Value.int .i64 xo, Value.int .i64 xu, Value.int .i64 xq, Value.int .i64 xf, Value.int .i64 xr, Value.slice ta ts.length tc] :: undef :: undef :: Value.pointer (some ⟨w.heap.size, 0, none⟩) :: Value.bool false :: Value.bool true :: Value.pointer (some ⟨lb, 0, none⟩) :: Value.pointer (some ⟨ob, 0, none⟩) :: Value.slice ao N pc :: Value.int .i64 ((m : Int)) :: Value.int .i64 ((kk : Int)) :: zs.getD 11 undef :: undef :: Value.bool true :: Value.int .i64 (a) :: rv :: Value.agg #[Value.int .i64 n, Value.slice la es.length lc] :: Value.tuple #[Value.agg #[Value.int .i64 X.h, Value.string ⟨X.v.toArray⟩, Value.int .i64 X.o, Value.int .i64 X.u, Value.slice an X.ns.length cn, Value.slice ae X.es.length ce], Value.slice ao N pc] :: Value.agg #[Value.int .i64 n, Value.slice la es.length lc] :: Value.agg #[Value.int .i64 xh, Value.int .i64 xo, Value.int .i64 xu, Value.int .i64 xq, Value.int .i64 xf, Value.int .i64 xr, Value.slice ta ts.length tc] :: Value.tuple #[Value.agg #[Value.int .i64 X.h, Value.string ⟨X.v.toArray⟩, Value.int .i64 X.o, Value.int .i64 X.u, Value.slice an X.ns.length cn, Value.slice ae X.es.length ce], Value.slice ao N pc] :: Value.agg #[Value.int .i64 X.h, Value.string ⟨X.v.toArray⟩, Value.int .i64 X.o, Value.int .i64 X.u, Value.slice an X.ns.length cn, Value.slice ae X.es.length ce] :: Value.slice ao N pc :: Value.slice ao N pc :: Value.int .i64 ((N : Int)) :: Value.int .i64 ((N : Int) + 1) :: Value.int .i64 ((m : Int)) :: Value.pointer (some ⟨w.heap.size, 5, none⟩) :: Value.int .i64 (xr) :: Value.int .i64 ((m : Int)) :: Value.int .i64 (rr) :: Value.int .i64 ((kk : Int)) :: zs.getD 8 undef :: zs.getD 0 undef :: zs.getD 1 undef :: zs.getD 2 undef :: zs.getD 3 undef :: zs.getD 4 undef :: zs.getD 5 undef :: zs.getD 6 undef :: zs.getD 7 undef :: zs.getD 9 undef :: zs.getD 10 undef :: undef :: undef :: undef :: undef :: undef :: undef :: undef :: undef :: undef :: undef :: undef :: undef :: undef :: undef :: undef :: undef :: undef :: undef :: undef :: undef :: undef :: undef :: undef :: undef :: undef :: undef :: []), defers := [] }) [(fun z _ => z = Value.agg #[Value.int .i64 X.h, Value.string ⟨X.v.toArray⟩, Value.int .i64 X.o, Value.int .i64 X.u, Value.slice an X.ns.length cn, Value.slice ae X.es.length ce]), (fun z _ => z = Value.slice ao N pc), (fun z _ => z = Value.pointer (some ⟨w.heap.size, 3, none⟩)), (fun z _ => z = Value.int .i64 (xq)), (fun z _ => z = Value.int .i64 (sq0)), (fun z _ => z = Value.int .i64 (2 * sq0)), (fun z _ => z = Value.int .i64 ((kk : Int))), (fun z wv => ∃ ov, z = .tuple #[ov, .bool true] ∧ OAt (NotO wv) wv ov X), (fun z wv => ∃ ov, z = .tuple #[ov, .bool true] ∧ OAt (NotO wv) wv ov X), (fun z wv => OAt (NotO wv) wv z X), (fun z _ => z = Value.bool true), (NewB w6.heap.size 25 #[Value.int .i64 0, Value.string ⟨#[]⟩, Value.int .i64 0, Value.int .i64 0, Value.slice none 0 0, Value.slice none 0 0]), (fun _ _ => True)] [(fun z _ => z = Value.agg #[Value.int .i64 X.h, Value.string ⟨X.v.toArray⟩, Value.int .i64 X.o, Value.int .i64 X.u, Value.slice an X.ns.length cn, Value.slice ae X.es.length ce]), (fun z _ => z = Value.slice ao N pc), (fun z _ => z = Value.pointer (some ⟨w.heap.size, 3, none⟩)), (fun z _ => z = Value.int .i64 (xq)), (fun z _ => z = Value.int .i64 (sq0)), (fun z _ => z = Value.int .i64 (2 * sq0)), (fun z _ => z = Value.int .i64 ((kk : Int))), (fun z wv => ∃ ov, z = .tuple #[ov, .bool true] ∧ OAt (NotO wv) wv ov X), (fun z wv => ∃ ov, z = .tuple #[ov, .bool true] ∧ OAt (NotO wv) wv ov X), (fun z wv => OAt (NotO wv) wv z X), (fun z _ => z = Value.bool true), (BoxN w6.heap.size X), (fun _ _ => True)] [undef, undef, undef, undef, undef, undef, undef, undef, undef, undef, undef, undef, undef] 12 [10] [11] rfl rfl rfl rfl (fun zs v => by simp [List.getD_eq_getElem?_getD, List.getElem?_set]) ?_ ?_ (fun p h z w => by cases (show some (fun _ _ => True) = some p from h); trivial) (by kernel_rfl) (show 12 < 13 by decide) ?_ ?_ (by kernel_rfl) (by kernel_rfl) ?_ ?_ ?_ ?_
  · intro p hp
    simp only [List.mem_cons, List.not_mem_nil, or_false] at hp
    rcases hp with rfl | rfl | rfl | rfl | rfl | rfl | rfl | rfl | rfl | rfl | rfl | rfl | rfl
    all_goals first | exact stable_eq _ | exact stable_true | exact NewB.stable _ _ _ | exact stable_bn _ _ | exact stable_on _ | exact stable_tn _ _
  · intro p hp
    simp only [List.mem_cons, List.not_mem_nil, or_false] at hp
    rcases hp with rfl | rfl | rfl | rfl | rfl | rfl | rfl | rfl | rfl | rfl | rfl | rfl | rfl
    all_goals first | exact stable_eq _ | exact stable_true | exact NewB.stable _ _ _ | exact stable_bn _ _ | exact stable_on _ | exact stable_tn _ _
  · intro i hi
    simp only [List.mem_cons, List.not_mem_nil, or_false] at hi
    rcases hi with rfl
    all_goals exact ⟨by show _ < 13; omega, by decide, by decide⟩
  · intro i hi p hp z wz hz
    simp only [List.mem_cons, List.not_mem_nil, or_false] at hi
    rcases hi with rfl
    · cases (show some (NewB w6.heap.size 25 #[Value.int .i64 0, Value.string ⟨#[]⟩, Value.int .i64 0, Value.int .i64 0, Value.slice none 0 0, Value.slice none 0 0]) = some p from hp); exact NewB.lt hz
  · intro i hi hiS zs l wz o hz hF ho hpre
    have hi' : i < 13 ∧ i ≠ 12 := ⟨hi, hiS⟩
    clear hi hiS
    clear AA
    have HBZ := Lib.hid hF.bel
    have HZ := Lib.hid (HH.out.grow hF.bel)
    have x0 := HZ.out.box 0 (.int .i64 X.h) rfl
    have x1 := HZ.out.box 1 (.string ⟨X.v.toArray⟩) rfl
    have x2 := HZ.out.box 2 (.int .i64 X.o) rfl
    have x3 := HZ.out.box 3 (.int .i64 X.u) rfl
    have x4 := HZ.out.box 4 (.slice an X.ns.length cn) rfl
    have x5 := HZ.out.box 5 (.slice ae X.es.length ce) rfl
    have x7 := HZ.out.raw 3 (.int .i64 xq) rfl
    match zs, (show zs.length = 13 from hz) with
    | z0 :: z1 :: z2 :: z3 :: z4 :: z5 :: z6 :: z7 :: z8 :: z9 :: z10 :: z11 :: z12 :: [], _ =>
      clear hz
      change wpOp _ _ _ _ _ { tmps := List.toArray (Value.int .i64 (a) :: rv :: Value.agg #[Value.int .i64 xh, Value.int .i64 xo, Value.int .i64 xu, Value.int .i64 xq, Value.int .i64 xf, Value.int .i64 xr, Value.slice ta ts.length tc] :: undef :: undef :: Value.pointer (some ⟨w.heap.size, 0, none⟩) :: Value.bool false :: Value.bool true :: Value.pointer (some ⟨lb, 0, none⟩) :: Value.pointer (some ⟨ob, 0, none⟩) :: Value.slice ao N pc :: Value.int .i64 ((m : Int)) :: Value.int .i64 ((kk : Int)) :: z11 :: undef :: Value.bool true :: Value.int .i64 (a) :: rv :: Value.agg #[Value.int .i64 n, Value.slice la es.length lc] :: Value.tuple #[Value.agg #[Value.int .i64 X.h, Value.string ⟨X.v.toArray⟩, Value.int .i64 X.o, Value.int .i64 X.u, Value.slice an X.ns.length cn, Value.slice ae X.es.length ce], Value.slice ao N pc] :: Value.agg #[Value.int .i64 n, Value.slice la es.length lc] :: Value.agg #[Value.int .i64 xh, Value.int .i64 xo, Value.int .i64 xu, Value.int .i64 xq, Value.int .i64 xf, Value.int .i64 xr, Value.slice ta ts.length tc] :: Value.tuple #[Value.agg #[Value.int .i64 X.h, Value.string ⟨X.v.toArray⟩, Value.int .i64 X.o, Value.int .i64 X.u, Value.slice an X.ns.length cn, Value.slice ae X.es.length ce], Value.slice ao N pc] :: Value.agg #[Value.int .i64 X.h, Value.string ⟨X.v.toArray⟩, Value.int .i64 X.o, Value.int .i64 X.u, Value.slice an X.ns.length cn, Value.slice ae X.es.length ce] :: Value.slice ao N pc :: Value.slice ao N pc :: Value.int .i64 ((N : Int)) :: Value.int .i64 ((N : Int) + 1) :: Value.int .i64 ((m : Int)) :: Value.pointer (some ⟨w.heap.size, 5, none⟩) :: Value.int .i64 (xr) :: Value.int .i64 ((m : Int)) :: Value.int .i64 (rr) :: Value.int .i64 ((kk : Int)) :: z8 :: z0 :: z1 :: z2 :: z3 :: z4 :: z5 :: z6 :: z7 :: z9 :: z10 :: undef :: undef :: undef :: undef :: undef :: undef :: undef :: undef :: undef :: undef :: undef :: undef :: undef :: undef :: undef :: undef :: undef :: undef :: undef :: undef :: undef :: undef :: undef :: undef :: undef :: undef :: []), defers := [] } _
      have hc : i = 0 ∨ i = 1 ∨ i = 2 ∨ i = 3 ∨ i = 4 ∨ i = 5 ∨ i = 6 ∨ i = 7 ∨ i = 8 ∨ i = 9 ∨ i = 10 ∨ i = 11 := by omega
      clear hi'
      rcases hc with rfl | rfl | rfl | rfl | rfl | rfl | rfl | rfl | rfl | rfl | rfl | rfl
      · clear ho hpre
        refine wpOp_here rfl (fun K' hK => ?_)
        go_simp
        exact hK _ _ ⟨_, rfl, Below.refl _ _, fun p hp => by cases (show some (fun z _ => z = Value.agg #[Value.int .i64 X.h, Value.string ⟨X.v.toArray⟩, Value.int .i64 X.o, Value.int .i64 X.u, Value.slice an X.ns.length cn, Value.slice ae X.es.length ce]) = some p from hp); exact rfl, fun h => absurd h (by decide)⟩
      · clear ho hpre
        refine wpOp_here rfl (fun K' hK => ?_)
        go_simp
        exact hK _ _ ⟨_, rfl, Below.refl _ _, fun p hp => by cases (show some (fun z _ => z = Value.slice ao N pc) = some p from hp); exact rfl, fun h => absurd h (by decide)⟩
      · clear ho hpre
        refine wpOp_here rfl (fun K' hK => ?_)
        go_simp
        exact hK _ _ ⟨_, rfl, Below.refl _ _, fun p hp => by cases (show some (fun z _ => z = Value.pointer (some ⟨w.heap.size, 3, none⟩)) = some p from hp); exact rfl, fun h => absurd h (by decide)⟩
      · have p2 := hF.fact 2 _ _ rfl rfl (hpre ⟨2, .data⟩ (by cases ho; simp) rfl)
        subst p2
        clear ho hpre
        refine wpOp_here rfl (fun K' hK => ?_)
        go_simp
        exact hK _ _ ⟨_, rfl, Below.refl _ _, fun p hp => by cases (show some (fun z _ => z = Value.int .i64 (xq)) = some p from hp); exact rfl, fun h => absurd h (by decide)⟩
      · have p3 := hF.fact 3 _ _ rfl rfl (hpre ⟨3, .data⟩ (by cases ho; simp) rfl)
        subst p3
        clear ho hpre
        refine wpOp_here rfl (fun K' hK => ?_)
        go_simp
        refine (PQ.out _).mono ?_
        rintro e7 w7 ⟨rfl, rfl⟩
        exact hK _ _ ⟨_, rfl, Below.refl _ _, fun p hp => by cases (show some (fun z _ => z = Value.int .i64 (sq0)) = some p from hp); exact rfl, fun h => absurd h (by decide)⟩
      · have p4 := hF.fact 4 _ _ rfl rfl (hpre ⟨4, .data⟩ (by cases ho; simp) rfl)
        subst p4
        clear ho hpre
        refine wpOp_here rfl (fun K' hK => ?_)
        go_simp
        exact hK _ _ ⟨_, rfl, Below.refl _ _, fun p hp => by cases (show some (fun z _ => z = Value.int .i64 (2 * sq0)) = some p from hp); exact rfl, fun h => absurd h (by decide)⟩
      · clear ho hpre
        refine wpOp_here rfl (fun K' hK => ?_)
        go_simp
        exact hK _ _ ⟨_, rfl, Below.refl _ _, fun p hp => by cases (show some (fun z _ => z = Value.int .i64 ((kk : Int))) = some p from hp); exact rfl, fun h => absurd h (by decide)⟩
      · have p0 := hF.fact 0 _ _ rfl rfl (hpre ⟨0, .data⟩ (by cases ho; simp) rfl)
        subst p0
        have p1 := hF.fact 1 _ _ rfl rfl (hpre ⟨1, .data⟩ (by cases ho; simp) rfl)
        subst p1
        have p5 := hF.fact 5 _ _ rfl rfl (hpre ⟨5, .data⟩ (by cases ho; simp) rfl)
        subst p5
        have p6 := hF.fact 6 _ _ rfl rfl (hpre ⟨6, .data⟩ (by cases ho; simp) rfl)
        subst p6
        clear ho hpre
        refine wpOp_here rfl (fun K' hK => ?_)
        go_simp
        refine (CO.out _ HBZ.out).mono ?_
        rintro e7 w7 ⟨ov, rfl, hov, hb7⟩
        exact hK _ _ ⟨_, rfl, hb7, fun p hp => by cases (show some (fun z wv => ∃ ov, z = .tuple #[ov, .bool true] ∧ OAt (NotO wv) wv ov X) = some p from hp); exact ⟨ov, rfl, OAt.keepN hov (fun b hS => hS.2) (fun _ _ _ => rfl) (Nat.le_refl _)⟩, fun h => absurd h (by decide)⟩
      · have p7 := hF.fact 7 _ _ rfl rfl (hpre ⟨7, .data⟩ (by cases ho; simp) rfl)
        obtain ⟨ov, rfl, hov⟩ := p7
        clear ho hpre
        refine wpOp_here rfl (fun K' hK => ?_)
        go_simp
        exact hK _ _ ⟨_, rfl, Below.refl _ _, fun p hp => by cases (show some (fun z wv => ∃ ov, z = .tuple #[ov, .bool true] ∧ OAt (NotO wv) wv ov X) = some p from hp); exact ⟨ov, rfl, hov⟩, fun h => absurd h (by decide)⟩
      · have p8 := hF.fact 8 _ _ rfl rfl (hpre ⟨8, .data⟩ (by cases ho; simp) rfl)
        obtain ⟨ov, rfl, hov⟩ := p8
        clear ho hpre
        refine wpOp_here rfl (fun K' hK => ?_)
        go_simp
        exact hK _ _ ⟨_, rfl, Below.refl _ _, fun p hp => by cases (show some (fun z wv => OAt (NotO wv) wv z X) = some p from hp); exact hov, fun h => absurd h (by decide)⟩
      · have p8 := hF.fact 8 _ _ rfl rfl (hpre ⟨8, .data⟩ (by cases ho; simp) rfl)
        obtain ⟨ov, rfl, hov⟩ := p8
        clear ho hpre
        refine wpOp_here rfl (fun K' hK => ?_)
        go_simp
        exact hK _ _ ⟨_, rfl, Below.refl _ _, fun p hp => by cases (show some (fun z _ => z = Value.bool true) = some p from hp); exact rfl, fun h => absurd h (by decide)⟩
      · clear ho hpre
        refine wpOp_here rfl (fun K' hK => ?_)
        go_simp
        exact hK _ _ ⟨_, rfl, (Below.refl _ _).alloc (Nat.le_refl _) _, fun p hp => by cases (show some (NewB w6.heap.size 25 #[Value.int .i64 0, Value.string ⟨#[]⟩, Value.int .i64 0, Value.int .i64 0, Value.slice none 0 0, Value.slice none 0 0]) = some p from hp); exact ⟨_, rfl, HBZ.out.size, heap_alloc_new wz _⟩, fun h => ⟨_, rfl, Nat.le_refl _⟩⟩
  · intro i hi hiN zs l wz o hz hF ho hpre
    have hi' : i = 10 := by simpa using hi
    clear hi hiN
    clear AA
    have HBZ := Lib.hid hF.bel
    have HZ := Lib.hid (HH.out.grow hF.bel)
    have x0 := HZ.out.box 0 (.int .i64 X.h) rfl
    have x1 := HZ.out.box 1 (.string ⟨X.v.toArray⟩) rfl
    have x2 := HZ.out.box 2 (.int .i64 X.o) rfl
    have x3 := HZ.out.box 3 (.int .i64 X.u) rfl
    have x4 := HZ.out.box 4 (.slice an X.ns.length cn) rfl
    have x5 := HZ.out.box 5 (.slice ae X.es.length ce) rfl
    have x7 := HZ.out.raw 3 (.int .i64 xq) rfl
    match zs, (show zs.length = 13 from hz) with
    | z0 :: z1 :: z2 :: z3 :: z4 :: z5 :: z6 :: z7 :: z8 :: z9 :: z10 :: z11 :: z12 :: [], _ =>
      clear hz
      change wpOp _ _ _ _ _ { tmps := List.toArray (Value.int .i64 (a) :: rv :: Value.agg #[Value.int .i64 xh, Value.int .i64 xo, Value.int .i64 xu, Value.int .i64 xq, Value.int .i64 xf, Value.int .i64 xr, Value.slice ta ts.length tc] :: undef :: undef :: Value.pointer (some ⟨w.heap.size, 0, none⟩) :: Value.bool false :: Value.bool true :: Value.pointer (some ⟨lb, 0, none⟩) :: Value.pointer (some ⟨ob, 0, none⟩) :: Value.slice ao N pc :: Value.int .i64 ((m : Int)) :: Value.int .i64 ((kk : Int)) :: z11 :: undef :: Value.bool true :: Value.int .i64 (a) :: rv :: Value.agg #[Value.int .i64 n, Value.slice la es.length lc] :: Value.tuple #[Value.agg #[Value.int .i64 X.h, Value.string ⟨X.v.toArray⟩, Value.int .i64 X.o, Value.int .i64 X.u, Value.slice an X.ns.length cn, Value.slice ae X.es.length ce], Value.slice ao N pc] :: Value.agg #[Value.int .i64 n, Value.slice la es.length lc] :: Value.agg #[Value.int .i64 xh, Value.int .i64 xo, Value.int .i64 xu, Value.int .i64 xq, Value.int .i64 xf, Value.int .i64 xr, Value.slice ta ts.length tc] :: Value.tuple #[Value.agg #[Value.int .i64 X.h, Value.string ⟨X.v.toArray⟩, Value.int .i64 X.o, Value.int .i64 X.u, Value.slice an X.ns.length cn, Value.slice ae X.es.length ce], Value.slice ao N pc] :: Value.agg #[Value.int .i64 X.h, Value.string ⟨X.v.toArray⟩, Value.int .i64 X.o, Value.int .i64 X.u, Value.slice an X.ns.length cn, Value.slice ae X.es.length ce] :: Value.slice ao N pc :: Value.slice ao N pc :: Value.int .i64 ((N : Int)) :: Value.int .i64 ((N : Int) + 1) :: Value.int .i64 ((m : Int)) :: Value.pointer (some ⟨w.heap.size, 5, none⟩) :: Value.int .i64 (xr) :: Value.int .i64 ((m : Int)) :: Value.int .i64 (rr) :: Value.int .i64 ((kk : Int)) :: z8 :: z0 :: z1 :: z2 :: z3 :: z4 :: z5 :: z6 :: z7 :: z9 :: z10 :: undef :: undef :: undef :: undef :: undef :: undef :: undef :: undef :: undef :: undef :: undef :: undef :: undef :: undef :: undef :: undef :: undef :: undef :: undef :: undef :: undef :: undef :: undef :: undef :: undef :: undef :: []), defers := [] } _
      have hc : i = 10 := by omega
      clear hi'
      rcases hc with rfl
      · have p8 := hF.fact 8 _ _ rfl rfl (hpre ⟨8, .data⟩ (by cases ho; simp) rfl)
        obtain ⟨ov, rfl, hov⟩ := p8
        clear ho hpre
        refine wpOp_here rfl (fun K' hK => ?_)
        go_simp
        exact hK _ _ ⟨_, rfl, Below.refl _ _, fun p hp => by cases (show some (fun z _ => z = Value.bool true) = some p from hp); exact rfl⟩
  · intro zs wz hz hbel hev hun
    match zs, (show zs.length = 13 from hz) with
    | z0 :: z1 :: z2 :: z3 :: z4 :: z5 :: z6 :: z7 :: z8 :: z9 :: z10 :: z11 :: z12 :: [], _ =>
      have p0 := hev 0 _ _ (by decide) (by decide) rfl rfl
      have p1 := hev 1 _ _ (by decide) (by decide) rfl rfl
      have p2 := hev 2 _ _ (by decide) (by decide) rfl rfl
      have p3 := hev 3 _ _ (by decide) (by decide) rfl rfl
      have p4 := hev 4 _ _ (by decide) (by decide) rfl rfl
      have p5 := hev 5 _ _ (by decide) (by decide) rfl rfl
      have p6 := hev 6 _ _ (by decide) (by decide) rfl rfl
      have p7 := hev 7 _ _ (by decide) (by decide) rfl rfl
      have p8 := hev 8 _ _ (by decide) (by decide) rfl rfl
      have p9 := hev 9 _ _ (by decide) (by decide) rfl rfl
      have p11 := hev 11 _ _ (by decide) (by decide) rfl rfl
      subst p0 p1 p2 p3 p4 p5 p6
      clear hz hev
      obtain ⟨b1, rfl, q1, q2⟩ := p11
      have hov := Lib.hid p9
      obtain ⟨an1, cn1, ae1, ce1, rfl, -⟩ := p9.open_
      refine wpOp_here rfl (fun K' hK => ?_)
      rw [if_pos (by rfl)]
      refine wp_store_row 25 _ _ rfl b1 (#[Value.int .i64 X.h, Value.string ⟨X.v.toArray⟩, Value.int .i64 X.o, Value.int .i64 X.u, Value.slice an1 X.ns.length cn1, Value.slice ae1 X.es.length ce1]) rfl rfl 25 _ q2 (by kernel_rfl) (by simp) (by simp [Value.oneCell']) ?_
      refine hK _ _ ⟨rfl, Below.setRow hbel q1 _, ?_⟩
      intro j p p2 z hj hp hp2 hz hpz
      have hjl : j < 13 := (List.getElem?_eq_some_iff.1 hp).1
      have hc : j = 0 ∨ j = 1 ∨ j = 2 ∨ j = 3 ∨ j = 4 ∨ j = 5 ∨ j = 6 ∨ j = 7 ∨ j = 8 ∨ j = 9 ∨ j = 10 ∨ j = 11 ∨ j = 12 := by omega
      rcases hc with rfl | rfl | rfl | rfl | rfl | rfl | rfl | rfl | rfl | rfl | rfl | rfl | rfl
      · cases hp; cases hp2; cases hz; exact hpz
      · cases hp; cases hp2; cases hz; exact hpz
      · cases hp; cases hp2; cases hz; exact hpz
      · cases hp; cases hp2; cases hz; exact hpz
      · cases hp; cases hp2; cases hz; exact hpz
      · cases hp; cases hp2; cases hz; exact hpz
      · cases hp; cases hp2; cases hz; exact hpz
      · cases hp; cases hp2; cases hz; obtain ⟨ov, e, h⟩ := hpz; exact ⟨ov, e, oat_row q2 h⟩
      · cases hp; cases hp2; cases hz; obtain ⟨ov, e, h⟩ := hpz; exact ⟨ov, e, oat_row q2 h⟩
      · cases hp; cases hp2; cases hz; exact oat_row q2 hpz
      · cases hp; cases hp2; cases hz; exact hpz
      · cases hp; cases hp2; cases hz; exact ⟨b1, _, rfl, q1, setRow_heap wz b1 _ _ _ _ q2, oat_row q2 hov.out⟩
      · exact absurd rfl hj
  · intro zs wz hz hbel hev
    match zs, (show zs.length = 13 from hz) with
    | z0 :: z1 :: z2 :: z3 :: z4 :: z5 :: z6 :: z7 :: z8 :: z9 :: z10 :: z11 :: z12 :: [], _ =>
      have p0 := hev 0 _ _ (by decide) rfl rfl
      have p1 := hev 1 _ _ (by decide) rfl rfl
      have p2 := hev 2 _ _ (by decide) rfl rfl
      have p3 := hev 3 _ _ (by decide) rfl rfl
      have p4 := hev 4 _ _ (by decide) rfl rfl
      have p5 := hev 5 _ _ (by decide) rfl rfl
      have p6 := hev 6 _ _ (by decide) rfl rfl
      have p7 := hev 7 _ _ (by decide) rfl rfl
      have p8 := hev 8 _ _ (by decide) rfl rfl
      have p9 := hev 9 _ _ (by decide) rfl rfl
      have p10 := hev 10 _ _ (by decide) rfl rfl
      have p11 := hev 11 _ _ (by decide) rfl rfl
      subst p0 p1 p2 p3 p4 p5 p6 p10
      clear hz hev
      obtain ⟨b1, row, rfl, q1, q2, q3⟩ := p11
      refine wpOp_here rfl (fun K' hK => ?_)
      go_simp
      refine hK _ _ ?_
      clear hK
      refine AA _ _ ?_
      clear AA
      have HZ := Lib.hid (HH.out.grow hbel)
      have HO7 := Lib.hid q3
      obtain ⟨an1, cn1, ae1, ce1, er, -⟩ := q3.open_
      cases er
      obtain ⟨c0, c1, c2, c3, c4, c5⟩ := six_of q2
      clear q2 q3 q1
      obtain ⟨w8, rfl⟩ : ∃ w8, w8 = wz := ⟨_, rfl⟩
      obtain ⟨u7, rfl⟩ : ∃ u7, u7 = z7 := ⟨_, rfl⟩
      obtain ⟨u8, rfl⟩ : ∃ u8, u8 = z8 := ⟨_, rfl⟩
      obtain ⟨u9, rfl⟩ : ∃ u9, u9 = z9 := ⟨_, rfl⟩
      obtain ⟨kb, HKB⟩ : ∃ kb : Nat, Hid (2 * kk - 1 = kb) := ⟨_, Lib.hid rfl⟩
      have hkb : 2 * (kk : Int) - 1 = (kb : Int) := by have := HKB.out; omega
      have hkN : kb ≤ N := by have := HKB.out; have := HMM.out; omega
      have hkp : kb ≤ pc := by have := HPC.out; omega
      have hkpi : (kb : Int) ≤ (pc : Int) := by omega
      have hkNi : (kb : Int) ≤ (N : Int) := by omega
      have hkb0 : (0 : Int) ≤ (kb : Int) := by omega
      rw [HKB.out] at HBS
      obtain ⟨PK, HPK⟩ : ∃ PK, Hid (p.take kb = PK) := ⟨_, rfl⟩
      rw [HPK.out] at HBS
      obtain ⟨SP, HSP⟩ : ∃ SP, Hid (stopsL p = SP) := ⟨_, rfl⟩
      have h2k : IntKind.i64.wrap (2 * (kk : Int)) = 2 * (kk : Int) := IntWalk.i64_in _ (by omega)
      have hwb : IntKind.i64.wrap (kb : Int) = (kb : Int) := IntWalk.i64_in _ (by have := HP41.out; omega)
      have HST : Hid ((stopsL p).length = m) := by show _ = _; rw [stopsL_len, HN.out]; exact HMM.out
      rw [HSP.out] at HST
      have C7 := Lib.hid (fun w' (hb : Below w8.heap.size w8 w') => by have := fits_any (S := NotO w8) (n := n) (es := es) (x := X) (w := w') _ _ (HZ.out.ed.below hb (Nat.le_refl _)) (HO7.out.below hb (Nat.le_refl _)); rw [HFT.out] at this; exact this)
      have C8 := Lib.hid (fun w' (hb : Below w8.heap.size w8 w') => by have := base_any (S := NotO w8) (x := X) (w := w') _ (HO7.out.below hb (Nat.le_refl _)); rw [HBS.out] at this; exact this)
      have HPZ := Lib.hid HZ.out.pth
      have HTK : Hid (IntsAt w8 (.slice ao kb pc) PK) := by
        show IntsAt _ _ _
        rw [← HPK.out]
        have := ints_take (c' := pc) HZ.out.pth (k := kb) (by rw [HN.out]; exact hkN)
        exact this
      have C9 := Lib.hid (fun w' v (hv : IntsAt w' v PK) (hb : Below w8.heap.size w8 w') => ints_any PK PK v _ w' hv (HTK.out.below hb (Nat.le_refl _)) true (by simp))
      have C10 := Lib.hid (fun w' (hb : Below w8.heap.size w8 w') => stops_any (p := p) (w := w') _ (HPZ.out.below hb (Nat.le_refl _)) (by rw [HN.out]; have := HP41.out; omega))
      rw [HN.out, HSP.out] at C10
      have y0 := HZ.out.lay 0 (.int .i64 n) rfl
      have y1 := HZ.out.lay 1 (.slice la es.length lc) rfl
      clear hbel
      go_upto_region 7 with fail
      rename_i KK2 AA
      refine wp_region_grow_all mixed (fun zs => { tmps := List.toArray (Value.int .i64 (a) :: rv :: Value.agg #[Value.int .i64 xh, Value.int .i64 xo, Value.int .i64 xu, Value.int .i64 xq, Value.int .i64 xf, Value.int .i64 xr, Value.slice ta ts.length tc] :: undef :: undef :: Value.pointer (some ⟨w.heap.size, 0, none⟩) :: zs.getD 26 undef :: Value.bool true :: Value.pointer (some ⟨lb, 0, none⟩) :: Value.pointer (some ⟨ob, 0, none⟩) :: Value.slice ao N pc :: Value.int .i64 ((m : Int)) :: Value.int .i64 ((kk : Int)) :: Value.pointer (some ⟨b1, 0, none⟩) :: Value.bool true :: Value.bool true :: Value.int .i64 (a) :: rv :: Value.agg #[Value.int .i64 n, Value.slice la es.length lc] :: Value.tuple #[Value.agg #[Value.int .i64 X.h, Value.string ⟨X.v.toArray⟩, Value.int .i64 X.o, Value.int .i64 X.u, Value.slice an X.ns.length cn, Value.slice ae X.es.length ce], Value.slice ao N pc] :: Value.agg #[Value.int .i64 n, Value.slice la es.length lc] :: Value.agg #[Value.int .i64 xh, Value.int .i64 xo, Value.int .i64 xu, Value.int .i64 xq, Value.int .i64 xf, Value.int .i64 xr, Value.slice ta ts.length tc] :: Value.tuple #[Value.agg #[Value.int .i64 X.h, Value.string ⟨X.v.toArray⟩, Value.int .i64 X.o, Value.int .i64 X.u, Value.slice an X.ns.length cn, Value.slice ae X.es.length ce], Value.slice ao N pc] :: Value.agg #[Value.int .i64 X.h, Value.string ⟨X.v.toArray⟩, Value.int .i64 X.o, Value.int .i64 X.u, Value.slice an X.ns.length cn, Value.slice ae X.es.length ce] :: Value.slice ao N pc :: Value.slice ao N pc :: Value.int .i64 ((N : Int)) :: Value.int .i64 ((N : Int) + 1) :: Value.int .i64 ((m : Int)) :: Value.pointer (some ⟨w.heap.size, 5, none⟩) :: Value.int .i64 (xr) :: Value.int .i64 ((m : Int)) :: Value.int .i64 (rr) :: Value.int .i64 ((kk : Int)) :: u8 :: Value.agg #[Value.int .i64 X.h, Value.string ⟨X.v.toArray⟩, Value.int .i64 X.o, Value.int .i64 X.u, Value.slice an X.ns.length cn, Value.slice ae X.es.length ce] :: Value.slice ao N pc :: Value.pointer (some ⟨w.heap.size, 3, none⟩) :: Value.int .i64 (xq) :: Value.int .i64 (sq0) :: Value.int .i64 (2 * sq0) :: Value.int .i64 ((kk : Int)) :: u7 :: u9 :: Value.bool true :: zs.getD 0 undef :: zs.getD 1 undef :: zs.getD 2 undef :: zs.getD 3 undef :: zs.getD 4 undef :: zs.getD 5 undef :: zs.getD 6 undef :: zs.getD 7 undef :: zs.getD 8 undef :: zs.getD 9 undef :: zs.getD 10 undef :: zs.getD 11 undef :: zs.getD 12 undef :: zs.getD 13 undef :: zs.getD 14 undef :: zs.getD 15 undef :: zs.getD 16 undef :: zs.getD 17 undef :: zs.getD 18 undef :: zs.getD 19 undef :: zs.getD 20 undef :: zs.getD 21 undef :: zs.getD 22 undef :: zs.getD 23 undef :: zs.getD 24 undef :: zs.getD 25 undef :: []), defers := [] }) [(fun z _ => z = Value.bool true), (fun z _ => z = Value.bool true), (fun z _ => z = Value.bool true), (fun z _ => z = Value.bool true), (fun z _ => z = Value.bool true), (fun z _ => z = Value.agg #[Value.int .i64 n, Value.slice la es.length lc]), (fun z _ => z = Value.agg #[Value.int .i64 X.h, Value.string ⟨X.v.toArray⟩, Value.int .i64 X.o, Value.int .i64 X.u, Value.slice an1 X.ns.length cn1, Value.slice ae1 X.es.length ce1]), (fun z _ => z = Value.bool true), (fun z _ => z = Value.bool true), (fun z _ => z = Value.bool true), (fun z _ => z = Value.agg #[Value.int .i64 X.h, Value.string ⟨X.v.toArray⟩, Value.int .i64 X.o, Value.int .i64 X.u, Value.slice an1 X.ns.length cn1, Value.slice ae1 X.es.length ce1]), (IntsV PK), (fun z _ => z = Value.slice ao N pc), (fun z _ => z = Value.int .i64 ((kk : Int))), (fun z _ => z = Value.int .i64 (2 * (kk : Int))), (fun z _ => z = Value.int .i64 ((kb : Int))), (fun z _ => z = Value.slice ao kb pc), (fun z _ => z = Value.bool true), (fun z _ => z = Value.bool true), (fun z _ => z = Value.bool true), (fun z _ => z = Value.slice ao N pc), (IntsV SP), (fun z _ => z = Value.int .i64 ((m : Int))), (fun z _ => z = Value.int .i64 ((m : Int))), (fun z _ => z = Value.bool true), (fun z _ => z = Value.bool true), (fun z _ => z = Value.bool true)] [undef, undef, undef, undef, undef, undef, undef, undef, undef, undef, undef, undef, undef, undef, undef, undef, undef, undef, undef, undef, undef, undef, undef, undef, undef, undef, Value.bool false] rfl rfl rfl ?_ (by kernel_rfl) ?_ ?_
      · intro p hp
        simp only [List.mem_cons, List.not_mem_nil, or_false] at hp
        rcases hp with rfl | rfl | rfl | rfl | rfl | rfl | rfl | rfl | rfl | rfl | rfl | rfl | rfl | rfl | rfl | rfl | rfl | rfl | rfl | rfl | rfl | rfl | rfl | rfl | rfl | rfl | rfl
        all_goals first | exact stable_eq _ | exact IntsV.stable _
      · intro i hi zs lr wz o hz hF ho hpre
        have hi' : i < 27 := hi
        clear AA
        have hbz := Lib.hid hF.bel
        have x0 := (hF.bel.cell (cell_lt c0)).trans c0
        have x1 := (hF.bel.cell (cell_lt c1)).trans c1
        have x2 := (hF.bel.cell (cell_lt c2)).trans c2
        have x3 := (hF.bel.cell (cell_lt c3)).trans c3
        have x4 := (hF.bel.cell (cell_lt c4)).trans c4
        have x5 := (hF.bel.cell (cell_lt c5)).trans c5
        have l0 := (hF.bel.cell (cell_lt y0)).trans y0
        have l1 := (hF.bel.cell (cell_lt y1)).trans y1
        match zs, (show zs.length = 27 from hz) with
        | z0 :: z1 :: z2 :: z3 :: z4 :: z5 :: z6 :: z7 :: z8 :: z9 :: z10 :: z11 :: z12 :: z13 :: z14 :: z15 :: z16 :: z17 :: z18 :: z19 :: z20 :: z21 :: z22 :: z23 :: z24 :: z25 :: z26 :: [], _ =>
          clear hz hi
          change wpOp _ _ _ _ _ { tmps := List.toArray (Value.int .i64 (a) :: rv :: Value.agg #[Value.int .i64 xh, Value.int .i64 xo, Value.int .i64 xu, Value.int .i64 xq, Value.int .i64 xf, Value.int .i64 xr, Value.slice ta ts.length tc] :: undef :: undef :: Value.pointer (some ⟨w.heap.size, 0, none⟩) :: z26 :: Value.bool true :: Value.pointer (some ⟨lb, 0, none⟩) :: Value.pointer (some ⟨ob, 0, none⟩) :: Value.slice ao N pc :: Value.int .i64 ((m : Int)) :: Value.int .i64 ((kk : Int)) :: Value.pointer (some ⟨b1, 0, none⟩) :: Value.bool true :: Value.bool true :: Value.int .i64 (a) :: rv :: Value.agg #[Value.int .i64 n, Value.slice la es.length lc] :: Value.tuple #[Value.agg #[Value.int .i64 X.h, Value.string ⟨X.v.toArray⟩, Value.int .i64 X.o, Value.int .i64 X.u, Value.slice an X.ns.length cn, Value.slice ae X.es.length ce], Value.slice ao N pc] :: Value.agg #[Value.int .i64 n, Value.slice la es.length lc] :: Value.agg #[Value.int .i64 xh, Value.int .i64 xo, Value.int .i64 xu, Value.int .i64 xq, Value.int .i64 xf, Value.int .i64 xr, Value.slice ta ts.length tc] :: Value.tuple #[Value.agg #[Value.int .i64 X.h, Value.string ⟨X.v.toArray⟩, Value.int .i64 X.o, Value.int .i64 X.u, Value.slice an X.ns.length cn, Value.slice ae X.es.length ce], Value.slice ao N pc] :: Value.agg #[Value.int .i64 X.h, Value.string ⟨X.v.toArray⟩, Value.int .i64 X.o, Value.int .i64 X.u, Value.slice an X.ns.length cn, Value.slice ae X.es.length ce] :: Value.slice ao N pc :: Value.slice ao N pc :: Value.int .i64 ((N : Int)) :: Value.int .i64 ((N : Int) + 1) :: Value.int .i64 ((m : Int)) :: Value.pointer (some ⟨w.heap.size, 5, none⟩) :: Value.int .i64 (xr) :: Value.int .i64 ((m : Int)) :: Value.int .i64 (rr) :: Value.int .i64 ((kk : Int)) :: u8 :: Value.agg #[Value.int .i64 X.h, Value.string ⟨X.v.toArray⟩, Value.int .i64 X.o, Value.int .i64 X.u, Value.slice an X.ns.length cn, Value.slice ae X.es.length ce] :: Value.slice ao N pc :: Value.pointer (some ⟨w.heap.size, 3, none⟩) :: Value.int .i64 (xq) :: Value.int .i64 (sq0) :: Value.int .i64 (2 * sq0) :: Value.int .i64 ((kk : Int)) :: u7 :: u9 :: Value.bool true :: z0 :: z1 :: z2 :: z3 :: z4 :: z5 :: z6 :: z7 :: z8 :: z9 :: z10 :: z11 :: z12 :: z13 :: z14 :: z15 :: z16 :: z17 :: z18 :: z19 :: z20 :: z21 :: z22 :: z23 :: z24 :: z25 :: []), defers := [] } _
          have hc : i = 0 ∨ i = 1 ∨ i = 2 ∨ i = 3 ∨ i = 4 ∨ i = 5 ∨ i = 6 ∨ i = 7 ∨ i = 8 ∨ i = 9 ∨ i = 10 ∨ i = 11 ∨ i = 12 ∨ i = 13 ∨ i = 14 ∨ i = 15 ∨ i = 16 ∨ i = 17 ∨ i = 18 ∨ i = 19 ∨ i = 20 ∨ i = 21 ∨ i = 22 ∨ i = 23 ∨ i = 24 ∨ i = 25 ∨ i = 26 := by omega
          clear hi'
          rcases hc with rfl | rfl | rfl | rfl | rfl | rfl | rfl | rfl | rfl | rfl | rfl | rfl | rfl | rfl | rfl | rfl | rfl | rfl | rfl | rfl | rfl | rfl | rfl | rfl | rfl | rfl | rfl
          · clear ho hpre
            refine wpOp_here rfl (fun K' hK => ?_)
            go_simp
            exact hK _ _ ⟨_, rfl, Below.refl _ _, fun p hp => by cases (show some (fun z _ => z = Value.bool true) = some p from hp); exact rfl⟩
          · have p0 := hF.fact 0 _ _ rfl rfl (hpre ⟨0, .data⟩ (by cases ho; simp) rfl)
            subst p0
            clear ho hpre
            refine wpOp_here rfl (fun K' hK => ?_)
            go_simp
            exact hK _ _ ⟨_, rfl, Below.refl _ _, fun p hp => by cases (show some (fun z _ => z = Value.bool true) = some p from hp); exact rfl⟩
          · have p1 := hF.fact 1 _ _ rfl rfl (hpre ⟨1, .guard⟩ (by cases ho; simp) rfl)
            subst p1
            clear ho hpre
            refine wpOp_here rfl (fun K' hK => ?_)
            go_simp
            exact hK _ _ ⟨_, rfl, Below.refl _ _, fun p hp => by cases (show some (fun z _ => z = Value.bool true) = some p from hp); exact rfl⟩
          · have p1 := hF.fact 1 _ _ rfl rfl (hpre ⟨1, .data⟩ (by cases ho; simp) rfl)
            subst p1
            have p2 := hF.fact 2 _ _ rfl rfl (hpre ⟨2, .data⟩ (by cases ho; simp) rfl)
            subst p2
            clear ho hpre
            refine wpOp_here rfl (fun K' hK => ?_)
            go_simp
            exact hK _ _ ⟨_, rfl, Below.refl _ _, fun p hp => by cases (show some (fun z _ => z = Value.bool true) = some p from hp); exact rfl⟩
          · have p3 := hF.fact 3 _ _ rfl rfl (hpre ⟨3, .data⟩ (by cases ho; simp) rfl)
            subst p3
            clear ho hpre
            refine wpOp_here rfl (fun K' hK => ?_)
            go_simp
            exact hK _ _ ⟨_, rfl, Below.refl _ _, fun p hp => by cases (show some (fun z _ => z = Value.bool true) = some p from hp); exact rfl⟩
          · have p4 := hF.fact 4 _ _ rfl rfl (hpre ⟨4, .guard⟩ (by cases ho; simp) rfl)
            subst p4
            clear ho hpre
            refine wpOp_here rfl (fun K' hK => ?_)
            go_simp
            exact hK _ _ ⟨_, rfl, Below.refl _ _, fun p hp => by cases (show some (fun z _ => z = Value.agg #[Value.int .i64 n, Value.slice la es.length lc]) = some p from hp); exact rfl⟩
          · have p4 := hF.fact 4 _ _ rfl rfl (hpre ⟨4, .guard⟩ (by cases ho; simp) rfl)
            subst p4
            clear ho hpre
            refine wpOp_here rfl (fun K' hK => ?_)
            go_simp
            exact hK _ _ ⟨_, rfl, Below.refl _ _, fun p hp => by cases (show some (fun z _ => z = Value.agg #[Value.int .i64 X.h, Value.string ⟨X.v.toArray⟩, Value.int .i64 X.o, Value.int .i64 X.u, Value.slice an1 X.ns.length cn1, Value.slice ae1 X.es.length ce1]) = some p from hp); exact rfl⟩
          · have p4 := hF.fact 4 _ _ rfl rfl (hpre ⟨4, .guard⟩ (by cases ho; simp) rfl)
            subst p4
            have p5 := hF.fact 5 _ _ rfl rfl (hpre ⟨5, .data⟩ (by cases ho; simp) rfl)
            subst p5
            have p6 := hF.fact 6 _ _ rfl rfl (hpre ⟨6, .data⟩ (by cases ho; simp) rfl)
            subst p6
            clear ho hpre
            refine wpOp_here rfl (fun K' hK => ?_)
            go_simp
            refine (C7.out _ hbz.out).mono ?_
            rintro e7 w7 ⟨rfl, hb7⟩
            exact hK _ _ ⟨_, rfl, hb7, fun p hp => by cases (show some (fun z _ => z = Value.bool true) = some p from hp); exact rfl⟩
          · have p4 := hF.fact 4 _ _ rfl rfl (hpre ⟨4, .data⟩ (by cases ho; simp) rfl)
            subst p4
            have p7 := hF.fact 7 _ _ rfl rfl (hpre ⟨7, .data⟩ (by cases ho; simp) rfl)
            subst p7
            clear ho hpre
            refine wpOp_here rfl (fun K' hK => ?_)
            go_simp
            exact hK _ _ ⟨_, rfl, Below.refl _ _, fun p hp => by cases (show some (fun z _ => z = Value.bool true) = some p from hp); exact rfl⟩
          · have p8 := hF.fact 8 _ _ rfl rfl (hpre ⟨8, .data⟩ (by cases ho; simp) rfl)
            subst p8
            clear ho hpre
            refine wpOp_here rfl (fun K' hK => ?_)
            go_simp
            exact hK _ _ ⟨_, rfl, Below.refl _ _, fun p hp => by cases (show some (fun z _ => z = Value.bool true) = some p from hp); exact rfl⟩
          · have p9 := hF.fact 9 _ _ rfl rfl (hpre ⟨9, .guard⟩ (by cases ho; simp) rfl)
            subst p9
            clear ho hpre
            refine wpOp_here rfl (fun K' hK => ?_)
            go_simp
            exact hK _ _ ⟨_, rfl, Below.refl _ _, fun p hp => by cases (show some (fun z _ => z = Value.agg #[Value.int .i64 X.h, Value.string ⟨X.v.toArray⟩, Value.int .i64 X.o, Value.int .i64 X.u, Value.slice an1 X.ns.length cn1, Value.slice ae1 X.es.length ce1]) = some p from hp); exact rfl⟩
          · have p9 := hF.fact 9 _ _ rfl rfl (hpre ⟨9, .guard⟩ (by cases ho; simp) rfl)
            subst p9
            have p10 := hF.fact 10 _ _ rfl rfl (hpre ⟨10, .data⟩ (by cases ho; simp) rfl)
            subst p10
            clear ho hpre
            refine wpOp_here rfl (fun K' hK => ?_)
            go_simp
            refine (C8.out _ hbz.out).mono ?_
            rintro e7 w7 ⟨v7, rfl, hv7, hb7⟩
            exact hK _ _ ⟨_, rfl, hb7, fun p hp => by cases (show some (IntsV PK) = some p from hp); exact hv7⟩
          · have p9 := hF.fact 9 _ _ rfl rfl (hpre ⟨9, .guard⟩ (by cases ho; simp) rfl)
            subst p9
            clear ho hpre
            refine wpOp_here rfl (fun K' hK => ?_)
            go_simp
            exact hK _ _ ⟨_, rfl, Below.refl _ _, fun p hp => by cases (show some (fun z _ => z = Value.slice ao N pc) = some p from hp); exact rfl⟩
          · have p9 := hF.fact 9 _ _ rfl rfl (hpre ⟨9, .guard⟩ (by cases ho; simp) rfl)
            subst p9
            clear ho hpre
            refine wpOp_here rfl (fun K' hK => ?_)
            go_simp
            exact hK _ _ ⟨_, rfl, Below.refl _ _, fun p hp => by cases (show some (fun z _ => z = Value.int .i64 ((kk : Int))) = some p from hp); exact rfl⟩
          · have p9 := hF.fact 9 _ _ rfl rfl (hpre ⟨9, .guard⟩ (by cases ho; simp) rfl)
            subst p9
            have p13 := hF.fact 13 _ _ rfl rfl (hpre ⟨13, .data⟩ (by cases ho; simp) rfl)
            subst p13
            clear ho hpre
            refine wpOp_here rfl (fun K' hK => ?_)
            go_simp
            exact hK _ _ ⟨_, rfl, Below.refl _ _, fun p hp => by cases (show some (fun z _ => z = Value.int .i64 (2 * (kk : Int))) = some p from hp); exact rfl⟩
          · have p9 := hF.fact 9 _ _ rfl rfl (hpre ⟨9, .guard⟩ (by cases ho; simp) rfl)
            subst p9
            have p14 := hF.fact 14 _ _ rfl rfl (hpre ⟨14, .data⟩ (by cases ho; simp) rfl)
            subst p14
            clear ho hpre
            refine wpOp_here rfl (fun K' hK => ?_)
            go_simp
            exact hK _ _ ⟨_, rfl, Below.refl _ _, fun p hp => by cases (show some (fun z _ => z = Value.int .i64 ((kb : Int))) = some p from hp); exact rfl⟩
          · have p9 := hF.fact 9 _ _ rfl rfl (hpre ⟨9, .guard⟩ (by cases ho; simp) rfl)
            subst p9
            have p12 := hF.fact 12 _ _ rfl rfl (hpre ⟨12, .data⟩ (by cases ho; simp) rfl)
            subst p12
            have p15 := hF.fact 15 _ _ rfl rfl (hpre ⟨15, .data⟩ (by cases ho; simp) rfl)
            subst p15
            clear ho hpre
            refine wpOp_here rfl (fun K' hK => ?_)
            go_simp
            exact hK _ _ ⟨_, rfl, Below.refl _ _, fun p hp => by cases (show some (fun z _ => z = Value.slice ao kb pc) = some p from hp); exact rfl⟩
          · have p9 := hF.fact 9 _ _ rfl rfl (hpre ⟨9, .guard⟩ (by cases ho; simp) rfl)
            subst p9
            have p11 := hF.fact 11 _ _ rfl rfl (hpre ⟨11, .data⟩ (by cases ho; simp) rfl)
            have p16 := hF.fact 16 _ _ rfl rfl (hpre ⟨16, .data⟩ (by cases ho; simp) rfl)
            subst p16
            clear ho hpre
            refine wpOp_here rfl (fun K' hK => ?_)
            go_simp
            refine (C9.out _ _ p11 hbz.out).mono ?_
            rintro e7 w7 ⟨rfl, hb7⟩
            exact hK _ _ ⟨_, rfl, hb7, fun p hp => by cases (show some (fun z _ => z = Value.bool true) = some p from hp); exact rfl⟩
          · have p9 := hF.fact 9 _ _ rfl rfl (hpre ⟨9, .data⟩ (by cases ho; simp) rfl)
            subst p9
            have p17 := hF.fact 17 _ _ rfl rfl (hpre ⟨17, .data⟩ (by cases ho; simp) rfl)
            subst p17
            clear ho hpre
            refine wpOp_here rfl (fun K' hK => ?_)
            go_simp
            exact hK _ _ ⟨_, rfl, Below.refl _ _, fun p hp => by cases (show some (fun z _ => z = Value.bool true) = some p from hp); exact rfl⟩
          · have p18 := hF.fact 18 _ _ rfl rfl (hpre ⟨18, .data⟩ (by cases ho; simp) rfl)
            subst p18
            clear ho hpre
            refine wpOp_here rfl (fun K' hK => ?_)
            go_simp
            exact hK _ _ ⟨_, rfl, Below.refl _ _, fun p hp => by cases (show some (fun z _ => z = Value.bool true) = some p from hp); exact rfl⟩
          · have p19 := hF.fact 19 _ _ rfl rfl (hpre ⟨19, .guard⟩ (by cases ho; simp) rfl)
            subst p19
            clear ho hpre
            refine wpOp_here rfl (fun K' hK => ?_)
            go_simp
            exact hK _ _ ⟨_, rfl, Below.refl _ _, fun p hp => by cases (show some (fun z _ => z = Value.slice ao N pc) = some p from hp); exact rfl⟩
          · have p19 := hF.fact 19 _ _ rfl rfl (hpre ⟨19, .guard⟩ (by cases ho; simp) rfl)
            subst p19
            have p20 := hF.fact 20 _ _ rfl rfl (hpre ⟨20, .data⟩ (by cases ho; simp) rfl)
            subst p20
            clear ho hpre
            refine wpOp_here rfl (fun K' hK => ?_)
            go_simp
            refine (C10.out _ hbz.out).mono ?_
            rintro e7 w7 ⟨v7, rfl, hv7, hb7⟩
            exact hK _ _ ⟨_, rfl, hb7, fun p hp => by cases (show some (IntsV SP) = some p from hp); exact hv7⟩
          · have p19 := hF.fact 19 _ _ rfl rfl (hpre ⟨19, .guard⟩ (by cases ho; simp) rfl)
            subst p19
            have p21 := hF.fact 21 _ _ rfl rfl (hpre ⟨21, .data⟩ (by cases ho; simp) rfl)
            obtain ⟨sa, sc, rfl⟩ := IntsAt.form p21
            rw [HST.out]
            clear ho hpre
            refine wpOp_here rfl (fun K' hK => ?_)
            go_simp
            exact hK _ _ ⟨_, rfl, Below.refl _ _, fun p hp => by cases (show some (fun z _ => z = Value.int .i64 ((m : Int))) = some p from hp); exact rfl⟩
          · have p19 := hF.fact 19 _ _ rfl rfl (hpre ⟨19, .guard⟩ (by cases ho; simp) rfl)
            subst p19
            clear ho hpre
            refine wpOp_here rfl (fun K' hK => ?_)
            go_simp
            exact hK _ _ ⟨_, rfl, Below.refl _ _, fun p hp => by cases (show some (fun z _ => z = Value.int .i64 ((m : Int))) = some p from hp); exact rfl⟩
          · have p19 := hF.fact 19 _ _ rfl rfl (hpre ⟨19, .guard⟩ (by cases ho; simp) rfl)
            subst p19
            have p22 := hF.fact 22 _ _ rfl rfl (hpre ⟨22, .data⟩ (by cases ho; simp) rfl)
            subst p22
            have p23 := hF.fact 23 _ _ rfl rfl (hpre ⟨23, .data⟩ (by cases ho; simp) rfl)
            subst p23
            clear ho hpre
            refine wpOp_here rfl (fun K' hK => ?_)
            go_simp
            exact hK _ _ ⟨_, rfl, Below.refl _ _, fun p hp => by cases (show some (fun z _ => z = Value.bool true) = some p from hp); exact rfl⟩
          · have p19 := hF.fact 19 _ _ rfl rfl (hpre ⟨19, .data⟩ (by cases ho; simp) rfl)
            subst p19
            have p24 := hF.fact 24 _ _ rfl rfl (hpre ⟨24, .data⟩ (by cases ho; simp) rfl)
            subst p24
            clear ho hpre
            refine wpOp_here rfl (fun K' hK => ?_)
            go_simp
            exact hK _ _ ⟨_, rfl, Below.refl _ _, fun p hp => by cases (show some (fun z _ => z = Value.bool true) = some p from hp); exact rfl⟩
          · have p25 := hF.fact 25 _ _ rfl rfl (hpre ⟨25, .data⟩ (by cases ho; simp) rfl)
            subst p25
            clear ho hpre
            refine wpOp_here rfl (fun K' hK => ?_)
            go_simp
            exact hK _ _ ⟨_, rfl, Below.refl _ _, fun p hp => by cases (show some (fun z _ => z = Value.bool true) = some p from hp); exact rfl⟩
      · intro zs wz hz hbel hev
        match zs, (show zs.length = 27 from hz) with
        | z0 :: z1 :: z2 :: z3 :: z4 :: z5 :: z6 :: z7 :: z8 :: z9 :: z10 :: z11 :: z12 :: z13 :: z14 :: z15 :: z16 :: z17 :: z18 :: z19 :: z20 :: z21 :: z22 :: z23 :: z24 :: z25 :: z26 :: [], _ =>
          have p0 := hev 0 _ _ rfl rfl
          have p1 := hev 1 _ _ rfl rfl
          have p2 := hev 2 _ _ rfl rfl
          have p3 := hev 3 _ _ rfl rfl
          have p4 := hev 4 _ _ rfl rfl
          have p5 := hev 5 _ _ rfl rfl
          have p6 := hev 6 _ _ rfl rfl
          have p7 := hev 7 _ _ rfl rfl
          have p8 := hev 8 _ _ rfl rfl
          have p9 := hev 9 _ _ rfl rfl
          have p10 := hev 10 _ _ rfl rfl
          have p11 := hev 11 _ _ rfl rfl
          have p12 := hev 12 _ _ rfl rfl
          have p13 := hev 13 _ _ rfl rfl
          have p14 := hev 14 _ _ rfl rfl
          have p15 := hev 15 _ _ rfl rfl
          have p16 := hev 16 _ _ rfl rfl
          have p17 := hev 17 _ _ rfl rfl
          have p18 := hev 18 _ _ rfl rfl
          have p19 := hev 19 _ _ rfl rfl
          have p20 := hev 20 _ _ rfl rfl
          have p21 := hev 21 _ _ rfl rfl
          have p22 := hev 22 _ _ rfl rfl
          have p23 := hev 23 _ _ rfl rfl
          have p24 := hev 24 _ _ rfl rfl
          have p25 := hev 25 _ _ rfl rfl
          have p26 := hev 26 _ _ rfl rfl
          subst p0 p1 p2 p3 p4 p5 p6 p7 p8 p9 p10 p12 p13 p14 p15 p16 p17 p18 p19 p20 p22 p23 p24 p25 p26
          clear hz hev
          have HBF := Lib.hid (HZ.out.bel.trans (hbel.mono HZ.out.bel.size))
          clear hbel p11 p21
          refine AA _ _ ?_
          clear AA
          go_wp2_with fail
          rw [← HQ.out]
          exact ⟨rfl, HBF.out⟩
theorem lbase_row (a : Int) (rv : Value) (L : List Ed) (xv : Value) (x : RawR) (w : World) (h0 : -9223372036854775808 ≤ a) (h1 : a ≤ 9223372036854775807) (hL : EdgesAt w rv L ∧ RawB L) (hx : RawAt w xv x) : Calls Try.prog 4 #[.int .i64 a, rv, xv] w (Ret (.bool true) w) := lbase_walk a ⟨h0, h1⟩ rv L hL.1 hL.2 xv x hx
end Go.Proofs.Ytnpbkjmlmdpggaa.Wk
